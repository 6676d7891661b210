/-
  DERIVED. GIVEN WITH THE SEED: THE CARDS: each row of YtmcjgdajnppbhaaGreatDoorRows.lean that lists a variable, with what it lists TIED to the program's text (the seventh form; the later family's looks); each row that meets fmt, with fmt's text TOLD by the authors' own Lean function (tested against real Go, not proved from fmt's source: count such statements apart). THE CARD IS WHAT COUNTS. Prove the row's statement (the work); the ties are given (YtmcjgdajnppbhaaGreatDoorTie.lean); close each card by the builder's one call (the guide's Derived/Test/ToyasCard.lean, 'card_holds'). Laid BY PROGRAM, IN A SANDBOX (cutbox-door.mjs). By AI agents, Wed Nov 11 2026. No macro, syntax, notation, axiom, sorry.
-/
import Derived.Test.YtmcjgdajnppbhaaGreatDoorRows
import GoSem.ClaimSeven
namespace Go.Proofs.YtmcjgdajnppbhaaGreatDoor
namespace Rows

/-- THE TIED CARD OF 'pillarboxlaw12.LexSource'. -/
def lexSourceCard : Claim7 := { stood := { row := lexSourceRow, standIns := [], harness := (true, "967646422551548850596a871ff10dcd0d1d0ba17b11e890a1bc5988d1dc28d4"), looks := true }, kinds := [], alts := [], laidByText := true, laidKinds := [.data, .pinned], laidTests := true, laidLooks := .later }
def LexSourceCardSaid : Prop := Claim7.holds Tryz.pinned (.plain (OpenSpec.ofChange lexSourceSpec)) lexSourceCard

/-- THE TIED CARD OF 'pillarboxlaw12.LexBack'. -/
def lexBackCard : Claim7 := { stood := { row := lexBackRow, standIns := [], harness := (true, "967646422551548850596a871ff10dcd0d1d0ba17b11e890a1bc5988d1dc28d4"), looks := true }, kinds := [], alts := [], laidByText := true, laidKinds := [.data, .pinned], laidTests := true, laidLooks := .later }
def LexBackCardSaid : Prop := Claim7.holds Tryz.pinned (.plain (OpenSpec.ofChange lexBackSpec)) lexBackCard

/-- THE TIED CARD OF 'pillarboxlaw12.LexPlaces'. -/
def lexPlacesCard : Claim7 := { stood := { row := lexPlacesRow, standIns := [], harness := (true, "967646422551548850596a871ff10dcd0d1d0ba17b11e890a1bc5988d1dc28d4"), looks := true }, kinds := [], alts := [], laidByText := true, laidKinds := [.data, .pinned], laidTests := true, laidLooks := .later }
def LexPlacesCardSaid : Prop := Claim7.holds Tryz.pinned (.plain (OpenSpec.ofChange lexPlacesSpec)) lexPlacesCard

/-- THE TIED CARD OF 'pillarboxlaw12.LexDeep'. -/
def lexDeepCard : Claim7 := { stood := { row := lexDeepRow, standIns := [], harness := (true, "967646422551548850596a871ff10dcd0d1d0ba17b11e890a1bc5988d1dc28d4"), looks := true }, kinds := [], alts := [], laidByText := true, laidKinds := [.data, .pinned], laidTests := true, laidLooks := .later }
def LexDeepCardSaid : Prop := Claim7.holds Tryz.pinned (.plain (OpenSpec.ofChange lexDeepSpec)) lexDeepCard

/-- THE TIED CARD OF 'pillarboxlaw12.LexQuotes'. -/
def lexQuotesCard : Claim7 := { stood := { row := lexQuotesRow, standIns := [], harness := (true, "967646422551548850596a871ff10dcd0d1d0ba17b11e890a1bc5988d1dc28d4"), looks := true }, kinds := [], alts := [], laidByText := true, laidKinds := [.data, .pinned], laidTests := true, laidLooks := .later }
def LexQuotesCardSaid : Prop := Claim7.holds Tryz.pinned (.plain (OpenSpec.ofChange lexQuotesSpec)) lexQuotesCard

/-- THE SECOND FORM's CARD OF 'pillarboxlaw12.LexSource'. -/
def lexSourceUptoCard : Claim7 := { stood := { row := lexSourceUptoRow, standIns := [], harness := (true, "967646422551548850596a871ff10dcd0d1d0ba17b11e890a1bc5988d1dc28d4"), looks := true }, kinds := [], alts := [], laidByText := true, laidKinds := [.data, .pinned], laidTests := true, laidLooks := .later }
def LexSourceUptoCardSaid : Prop := Claim7.holds Tryz.pinned (.plain (OpenSpec.upto lexSourceSpec)) lexSourceUptoCard

/-- THE SECOND FORM's CARD OF 'pillarboxlaw12.LexBack'. -/
def lexBackUptoCard : Claim7 := { stood := { row := lexBackUptoRow, standIns := [], harness := (true, "967646422551548850596a871ff10dcd0d1d0ba17b11e890a1bc5988d1dc28d4"), looks := true }, kinds := [], alts := [], laidByText := true, laidKinds := [.data, .pinned], laidTests := true, laidLooks := .later }
def LexBackUptoCardSaid : Prop := Claim7.holds Tryz.pinned (.plain (OpenSpec.upto lexBackSpec)) lexBackUptoCard

/-- THE SECOND FORM's CARD OF 'pillarboxlaw12.LexPlaces'. -/
def lexPlacesUptoCard : Claim7 := { stood := { row := lexPlacesUptoRow, standIns := [], harness := (true, "967646422551548850596a871ff10dcd0d1d0ba17b11e890a1bc5988d1dc28d4"), looks := true }, kinds := [], alts := [], laidByText := true, laidKinds := [.data, .pinned], laidTests := true, laidLooks := .later }
def LexPlacesUptoCardSaid : Prop := Claim7.holds Tryz.pinned (.plain (OpenSpec.upto lexPlacesSpec)) lexPlacesUptoCard

/-- THE SECOND FORM's CARD OF 'pillarboxlaw12.LexDeep'. -/
def lexDeepUptoCard : Claim7 := { stood := { row := lexDeepUptoRow, standIns := [], harness := (true, "967646422551548850596a871ff10dcd0d1d0ba17b11e890a1bc5988d1dc28d4"), looks := true }, kinds := [], alts := [], laidByText := true, laidKinds := [.data, .pinned], laidTests := true, laidLooks := .later }
def LexDeepUptoCardSaid : Prop := Claim7.holds Tryz.pinned (.plain (OpenSpec.upto lexDeepSpec)) lexDeepUptoCard

/-- THE SECOND FORM's CARD OF 'pillarboxlaw12.LexQuotes'. -/
def lexQuotesUptoCard : Claim7 := { stood := { row := lexQuotesUptoRow, standIns := [], harness := (true, "967646422551548850596a871ff10dcd0d1d0ba17b11e890a1bc5988d1dc28d4"), looks := true }, kinds := [], alts := [], laidByText := true, laidKinds := [.data, .pinned], laidTests := true, laidLooks := .later }
def LexQuotesUptoCardSaid : Prop := Claim7.holds Tryz.pinned (.plain (OpenSpec.upto lexQuotesSpec)) lexQuotesUptoCard
end Rows
end Go.Proofs.YtmcjgdajnppbhaaGreatDoor
