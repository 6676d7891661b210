/-
  DERIVED. GIVEN WITH THE SEED: THE CARDS: each row of YtickpkccpafjaaaGreatDoorRows.lean that lists a variable, with what it lists TIED to the program's text (the seventh form; the later family's looks); each row that meets fmt, with fmt's text TOLD by the authors' own Lean function (tested against real Go, not proved from fmt's source: count such statements apart). THE CARD IS WHAT COUNTS. Prove the row's statement (the work); the ties are given (YtickpkccpafjaaaGreatDoorTie.lean); close each card by the builder's one call (the guide's Derived/Test/ToyasCard.lean, 'card_holds'). Laid BY PROGRAM, IN A SANDBOX (cutbox-door.mjs). By AI agents, Wed Nov 11 2026. No macro, syntax, notation, axiom, sorry.
-/
import Derived.Test.YtickpkccpafjaaaGreatDoorRows
import GoSem.ClaimSeven
namespace Go.Proofs.YtickpkccpafjaaaGreatDoor
namespace Rows

/-- THE TIED CARD OF 'pillarboxlaw15.ListTells'. -/
def listTellsCard : Claim7 := { stood := { row := listTellsRow, standIns := [], harness := (true, "38270054fafd28292757cf16a3f97bbd2c16085b8f5d2d916d5d41b50cd8300a"), looks := true }, kinds := [], alts := [], laidByText := true, laidKinds := [.data, .pinned], laidTests := true, laidLooks := .later }
def ListTellsCardSaid : Prop := Claim7.holds Tryz.pinned (.plain (OpenSpec.ofChange listTellsSpec)) listTellsCard

/-- THE TIED CARD OF 'pillarboxlaw15.ListBack'. -/
def listBackCard : Claim7 := { stood := { row := listBackRow, standIns := [], harness := (true, "38270054fafd28292757cf16a3f97bbd2c16085b8f5d2d916d5d41b50cd8300a"), looks := true }, kinds := [], alts := [], laidByText := true, laidKinds := [.data, .pinned], laidTests := true, laidLooks := .later }
def ListBackCardSaid : Prop := Claim7.holds Tryz.pinned (.plain (OpenSpec.ofChange listBackSpec)) listBackCard

/-- THE TIED CARD OF 'pillarboxlaw15.ListOne'. -/
def listOneCard : Claim7 := { stood := { row := listOneRow, standIns := [], harness := (true, "38270054fafd28292757cf16a3f97bbd2c16085b8f5d2d916d5d41b50cd8300a"), looks := true }, kinds := [], alts := [], laidByText := true, laidKinds := [.data, .pinned], laidTests := true, laidLooks := .later }
def ListOneCardSaid : Prop := Claim7.holds Tryz.pinned (.plain (OpenSpec.ofChange listOneSpec)) listOneCard

/-- THE TIED CARD OF 'pillarboxlaw15.ListFull'. -/
def listFullCard : Claim7 := { stood := { row := listFullRow, standIns := [], harness := (true, "38270054fafd28292757cf16a3f97bbd2c16085b8f5d2d916d5d41b50cd8300a"), looks := true }, kinds := [], alts := [], laidByText := true, laidKinds := [.data, .pinned], laidTests := true, laidLooks := .later }
def ListFullCardSaid : Prop := Claim7.holds Tryz.pinned (.plain (OpenSpec.ofChange listFullSpec)) listFullCard

/-- THE SECOND FORM's CARD OF 'pillarboxlaw15.ListTells'. -/
def listTellsUptoCard : Claim7 := { stood := { row := listTellsUptoRow, standIns := [], harness := (true, "38270054fafd28292757cf16a3f97bbd2c16085b8f5d2d916d5d41b50cd8300a"), looks := true }, kinds := [], alts := [], laidByText := true, laidKinds := [.data, .pinned], laidTests := true, laidLooks := .later }
def ListTellsUptoCardSaid : Prop := Claim7.holds Tryz.pinned (.plain (OpenSpec.upto listTellsSpec)) listTellsUptoCard

/-- THE SECOND FORM's CARD OF 'pillarboxlaw15.ListBack'. -/
def listBackUptoCard : Claim7 := { stood := { row := listBackUptoRow, standIns := [], harness := (true, "38270054fafd28292757cf16a3f97bbd2c16085b8f5d2d916d5d41b50cd8300a"), looks := true }, kinds := [], alts := [], laidByText := true, laidKinds := [.data, .pinned], laidTests := true, laidLooks := .later }
def ListBackUptoCardSaid : Prop := Claim7.holds Tryz.pinned (.plain (OpenSpec.upto listBackSpec)) listBackUptoCard

/-- THE SECOND FORM's CARD OF 'pillarboxlaw15.ListOne'. -/
def listOneUptoCard : Claim7 := { stood := { row := listOneUptoRow, standIns := [], harness := (true, "38270054fafd28292757cf16a3f97bbd2c16085b8f5d2d916d5d41b50cd8300a"), looks := true }, kinds := [], alts := [], laidByText := true, laidKinds := [.data, .pinned], laidTests := true, laidLooks := .later }
def ListOneUptoCardSaid : Prop := Claim7.holds Tryz.pinned (.plain (OpenSpec.upto listOneSpec)) listOneUptoCard

/-- THE SECOND FORM's CARD OF 'pillarboxlaw15.ListFull'. -/
def listFullUptoCard : Claim7 := { stood := { row := listFullUptoRow, standIns := [], harness := (true, "38270054fafd28292757cf16a3f97bbd2c16085b8f5d2d916d5d41b50cd8300a"), looks := true }, kinds := [], alts := [], laidByText := true, laidKinds := [.data, .pinned], laidTests := true, laidLooks := .later }
def ListFullUptoCardSaid : Prop := Claim7.holds Tryz.pinned (.plain (OpenSpec.upto listFullSpec)) listFullUptoCard
end Rows
end Go.Proofs.YtickpkccpafjaaaGreatDoor
