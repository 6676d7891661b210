/-
  DERIVED. GIVEN WITH THE SEED: THE CARDS: each row of YtegldopmneoenaaDoorRows.lean that lists a variable, with what it lists TIED to the program's text (the seventh form; the later family's looks); each row that meets fmt, with fmt's text TOLD by the authors' own Lean function (tested against real Go, not proved from fmt's source: count such statements apart). THE CARD IS WHAT COUNTS. Prove the row's statement (the work); the ties are given (YtegldopmneoenaaDoorTie.lean); close each card by the builder's one call (the guide's Derived/Test/ToyasCard.lean, 'card_holds'). Laid BY PROGRAM, IN A SANDBOX (cutbox-door.mjs). By AI agents, Wed Nov 11 2026. No macro, syntax, notation, axiom, sorry.
-/
import Derived.Test.YtegldopmneoenaaDoorRows
import GoSem.ClaimSeven
namespace Go.Proofs.YtegldopmneoenaaDoor
namespace Rows

/-- THE TIED CARD OF 'pillarboxlaw11.SpotTells'. -/
def spotTellsCard : Claim7 := { stood := { row := spotTellsRow, standIns := [], harness := (true, "fde6a4411526a56c03e655a99d42a521ce968ff4652d2a52accc8a0303b0cf86"), looks := false }, kinds := [], alts := [], laidByText := true, laidKinds := [.data, .data, .data], laidTests := true, laidLooks := .later }
def SpotTellsCardSaid : Prop := Claim7.holds Tryd.pinned (.plain (OpenSpec.ofChange spotTellsSpec)) spotTellsCard

/-- THE TIED CARD OF 'pillarboxlaw11.SpotBack'. -/
def spotBackCard : Claim7 := { stood := { row := spotBackRow, standIns := [], harness := (true, "fde6a4411526a56c03e655a99d42a521ce968ff4652d2a52accc8a0303b0cf86"), looks := false }, kinds := [], alts := [], laidByText := true, laidKinds := [.data, .data, .data], laidTests := true, laidLooks := .later }
def SpotBackCardSaid : Prop := Claim7.holds Tryd.pinned (.plain (OpenSpec.ofChange spotBackSpec)) spotBackCard

/-- THE TIED CARD OF 'pillarboxlaw11.SpotParts'. -/
def spotPartsCard : Claim7 := { stood := { row := spotPartsRow, standIns := [], harness := (true, "fde6a4411526a56c03e655a99d42a521ce968ff4652d2a52accc8a0303b0cf86"), looks := false }, kinds := [], alts := [], laidByText := true, laidKinds := [.data, .data, .data], laidTests := true, laidLooks := .later }
def SpotPartsCardSaid : Prop := Claim7.holds Tryd.pinned (.plain (OpenSpec.ofChange spotPartsSpec)) spotPartsCard

/-- THE TIED CARD OF 'pillarboxlaw11.SpotPlain'. -/
def spotPlainCard : Claim7 := { stood := { row := spotPlainRow, standIns := [], harness := (true, "fde6a4411526a56c03e655a99d42a521ce968ff4652d2a52accc8a0303b0cf86"), looks := false }, kinds := [], alts := [], laidByText := true, laidKinds := [.data, .data, .data], laidTests := true, laidLooks := .later }
def SpotPlainCardSaid : Prop := Claim7.holds Tryd.pinned (.plain (OpenSpec.ofChange spotPlainSpec)) spotPlainCard

/-- THE TIED CARD OF 'pillarboxlaw11.SpotTexts'. -/
def spotTextsCard : Claim7 := { stood := { row := spotTextsRow, standIns := [], harness := (true, "fde6a4411526a56c03e655a99d42a521ce968ff4652d2a52accc8a0303b0cf86"), looks := false }, kinds := [], alts := [], laidByText := true, laidKinds := [.data, .data, .data], laidTests := true, laidLooks := .later }
def SpotTextsCardSaid : Prop := Claim7.holds Tryd.pinned (.plain (OpenSpec.ofChange spotTextsSpec)) spotTextsCard

/-- THE SECOND FORM's CARD OF 'pillarboxlaw11.SpotTells'. -/
def spotTellsUptoCard : Claim7 := { stood := { row := spotTellsUptoRow, standIns := [], harness := (true, "fde6a4411526a56c03e655a99d42a521ce968ff4652d2a52accc8a0303b0cf86"), looks := false }, kinds := [], alts := [], laidByText := true, laidKinds := [.data, .data, .data], laidTests := true, laidLooks := .later }
def SpotTellsUptoCardSaid : Prop := Claim7.holds Tryd.pinned (.plain (OpenSpec.upto spotTellsSpec)) spotTellsUptoCard

/-- THE SECOND FORM's CARD OF 'pillarboxlaw11.SpotBack'. -/
def spotBackUptoCard : Claim7 := { stood := { row := spotBackUptoRow, standIns := [], harness := (true, "fde6a4411526a56c03e655a99d42a521ce968ff4652d2a52accc8a0303b0cf86"), looks := false }, kinds := [], alts := [], laidByText := true, laidKinds := [.data, .data, .data], laidTests := true, laidLooks := .later }
def SpotBackUptoCardSaid : Prop := Claim7.holds Tryd.pinned (.plain (OpenSpec.upto spotBackSpec)) spotBackUptoCard

/-- THE SECOND FORM's CARD OF 'pillarboxlaw11.SpotParts'. -/
def spotPartsUptoCard : Claim7 := { stood := { row := spotPartsUptoRow, standIns := [], harness := (true, "fde6a4411526a56c03e655a99d42a521ce968ff4652d2a52accc8a0303b0cf86"), looks := false }, kinds := [], alts := [], laidByText := true, laidKinds := [.data, .data, .data], laidTests := true, laidLooks := .later }
def SpotPartsUptoCardSaid : Prop := Claim7.holds Tryd.pinned (.plain (OpenSpec.upto spotPartsSpec)) spotPartsUptoCard

/-- THE SECOND FORM's CARD OF 'pillarboxlaw11.SpotPlain'. -/
def spotPlainUptoCard : Claim7 := { stood := { row := spotPlainUptoRow, standIns := [], harness := (true, "fde6a4411526a56c03e655a99d42a521ce968ff4652d2a52accc8a0303b0cf86"), looks := false }, kinds := [], alts := [], laidByText := true, laidKinds := [.data, .data, .data], laidTests := true, laidLooks := .later }
def SpotPlainUptoCardSaid : Prop := Claim7.holds Tryd.pinned (.plain (OpenSpec.upto spotPlainSpec)) spotPlainUptoCard

/-- THE SECOND FORM's CARD OF 'pillarboxlaw11.SpotTexts'. -/
def spotTextsUptoCard : Claim7 := { stood := { row := spotTextsUptoRow, standIns := [], harness := (true, "fde6a4411526a56c03e655a99d42a521ce968ff4652d2a52accc8a0303b0cf86"), looks := false }, kinds := [], alts := [], laidByText := true, laidKinds := [.data, .data, .data], laidTests := true, laidLooks := .later }
def SpotTextsUptoCardSaid : Prop := Claim7.holds Tryd.pinned (.plain (OpenSpec.upto spotTextsSpec)) spotTextsUptoCard
end Rows
end Go.Proofs.YtegldopmneoenaaDoor
