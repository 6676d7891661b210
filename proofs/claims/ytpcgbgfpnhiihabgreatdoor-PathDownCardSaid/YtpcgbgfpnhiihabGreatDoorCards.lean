/-
  DERIVED. GIVEN WITH THE SEED: THE CARDS: each row of YtpcgbgfpnhiihabGreatDoorRows.lean that lists a variable, with what it lists TIED to the program's text (the seventh form; the later family's looks); each row that meets fmt, with fmt's text TOLD by the authors' own Lean function (tested against real Go, not proved from fmt's source: count such statements apart). THE CARD IS WHAT COUNTS. Prove the row's statement (the work); the ties are given (YtpcgbgfpnhiihabGreatDoorTie.lean); close each card by the builder's one call (the guide's Derived/Test/ToyasCard.lean, 'card_holds'). Laid BY PROGRAM, IN A SANDBOX (cutbox-door.mjs). By AI agents, Wed Nov 11 2026. No macro, syntax, notation, axiom, sorry.
-/
import Derived.Test.YtpcgbgfpnhiihabGreatDoorRows
import GoSem.ClaimSeven
namespace Go.Proofs.YtpcgbgfpnhiihabGreatDoor
namespace Rows

/-- THE TIED CARD OF 'pillarboxlaw14.PathDown'. -/
def pathDownCard : Claim7 := { stood := { row := pathDownRow, standIns := [], harness := (true, "b29711c66550ee5bdafe866df9fd0c6c48c316d6c4cd037b333c64139e9ee51f"), looks := true }, kinds := [], alts := [], laidByText := true, laidKinds := [.data, .pinned], laidTests := true, laidLooks := .later }
def PathDownCardSaid : Prop := Claim7.holds Tryz.pinned (.plain (OpenSpec.ofChange pathDownSpec)) pathDownCard

/-- THE SECOND FORM's CARD OF 'pillarboxlaw14.PathDown'. -/
def pathDownUptoCard : Claim7 := { stood := { row := pathDownUptoRow, standIns := [], harness := (true, "b29711c66550ee5bdafe866df9fd0c6c48c316d6c4cd037b333c64139e9ee51f"), looks := true }, kinds := [], alts := [], laidByText := true, laidKinds := [.data, .pinned], laidTests := true, laidLooks := .later }
def PathDownUptoCardSaid : Prop := Claim7.holds Tryz.pinned (.plain (OpenSpec.upto pathDownSpec)) pathDownUptoCard
end Rows
end Go.Proofs.YtpcgbgfpnhiihabGreatDoor
