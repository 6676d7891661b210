/-
  DERIVED. GIVEN WITH THE SEED: THE CARDS: each row of YtppmbilonaflfaaGreatDoorRows.lean that lists a variable, with what it lists TIED to the program's text (the seventh form; the later family's looks); each row that meets fmt, with fmt's text TOLD by the authors' own Lean function (tested against real Go, not proved from fmt's source: count such statements apart). THE CARD IS WHAT COUNTS. Prove the row's statement (the work); the ties are given (YtppmbilonaflfaaGreatDoorTie.lean); close each card by the builder's one call (the guide's Derived/Test/ToyasCard.lean, 'card_holds'). Laid BY PROGRAM, IN A SANDBOX (cutbox-door.mjs). By AI agents, Wed Nov 11 2026. No macro, syntax, notation, axiom, sorry.
-/
import Derived.Test.YtppmbilonaflfaaGreatDoorRows
import GoSem.ClaimSeven
namespace Go.Proofs.YtppmbilonaflfaaGreatDoor
namespace Rows

/-- THE TIED CARD OF 'pillarboxlaw13.MailboxTells'. -/
def mailboxTellsCard : Claim7 := { stood := { row := mailboxTellsRow, standIns := [], harness := (true, "29ccfdc5c46c073a4f7b1111ccc517ffc673e1b630f6ee261102b68ae0b2141c"), looks := true }, kinds := [], alts := [], laidByText := true, laidKinds := [.data, .pinned], laidTests := true, laidLooks := .later }
def MailboxTellsCardSaid : Prop := Claim7.holds Tryz.pinned (.plain (OpenSpec.ofChange mailboxTellsSpec)) mailboxTellsCard

/-- THE TIED CARD OF 'pillarboxlaw13.MailboxParses'. -/
def mailboxParsesCard : Claim7 := { stood := { row := mailboxParsesRow, standIns := [], harness := (true, "29ccfdc5c46c073a4f7b1111ccc517ffc673e1b630f6ee261102b68ae0b2141c"), looks := true }, kinds := [], alts := [], laidByText := true, laidKinds := [.data, .pinned], laidTests := true, laidLooks := .later }
def MailboxParsesCardSaid : Prop := Claim7.holds Tryz.pinned (.plain (OpenSpec.ofChange mailboxParsesSpec)) mailboxParsesCard

/-- THE TIED CARD OF 'pillarboxlaw13.MailboxBack'. -/
def mailboxBackCard : Claim7 := { stood := { row := mailboxBackRow, standIns := [], harness := (true, "29ccfdc5c46c073a4f7b1111ccc517ffc673e1b630f6ee261102b68ae0b2141c"), looks := true }, kinds := [], alts := [], laidByText := true, laidKinds := [.data, .pinned], laidTests := true, laidLooks := .later }
def MailboxBackCardSaid : Prop := Claim7.holds Tryz.pinned (.plain (OpenSpec.ofChange mailboxBackSpec)) mailboxBackCard

/-- THE TIED CARD OF 'pillarboxlaw13.MailboxForms'. -/
def mailboxFormsCard : Claim7 := { stood := { row := mailboxFormsRow, standIns := [], harness := (true, "29ccfdc5c46c073a4f7b1111ccc517ffc673e1b630f6ee261102b68ae0b2141c"), looks := true }, kinds := [], alts := [], laidByText := true, laidKinds := [.data, .pinned], laidTests := true, laidLooks := .later }
def MailboxFormsCardSaid : Prop := Claim7.holds Tryz.pinned (.plain (OpenSpec.ofChange mailboxFormsSpec)) mailboxFormsCard

/-- THE TIED CARD OF 'pillarboxlaw13.MailboxDown'. -/
def mailboxDownCard : Claim7 := { stood := { row := mailboxDownRow, standIns := [], harness := (true, "29ccfdc5c46c073a4f7b1111ccc517ffc673e1b630f6ee261102b68ae0b2141c"), looks := true }, kinds := [], alts := [], laidByText := true, laidKinds := [.data, .pinned], laidTests := true, laidLooks := .later }
def MailboxDownCardSaid : Prop := Claim7.holds Tryz.pinned (.plain (OpenSpec.ofChange mailboxDownSpec)) mailboxDownCard

/-- THE TIED CARD OF 'pillarboxlaw13.MailboxNotes'. -/
def mailboxNotesCard : Claim7 := { stood := { row := mailboxNotesRow, standIns := [], harness := (true, "29ccfdc5c46c073a4f7b1111ccc517ffc673e1b630f6ee261102b68ae0b2141c"), looks := true }, kinds := [], alts := [], laidByText := true, laidKinds := [.data, .pinned], laidTests := true, laidLooks := .later }
def MailboxNotesCardSaid : Prop := Claim7.holds Tryz.pinned (.plain (OpenSpec.ofChange mailboxNotesSpec)) mailboxNotesCard

/-- THE SECOND FORM's CARD OF 'pillarboxlaw13.MailboxTells'. -/
def mailboxTellsUptoCard : Claim7 := { stood := { row := mailboxTellsUptoRow, standIns := [], harness := (true, "29ccfdc5c46c073a4f7b1111ccc517ffc673e1b630f6ee261102b68ae0b2141c"), looks := true }, kinds := [], alts := [], laidByText := true, laidKinds := [.data, .pinned], laidTests := true, laidLooks := .later }
def MailboxTellsUptoCardSaid : Prop := Claim7.holds Tryz.pinned (.plain (OpenSpec.upto mailboxTellsSpec)) mailboxTellsUptoCard

/-- THE SECOND FORM's CARD OF 'pillarboxlaw13.MailboxParses'. -/
def mailboxParsesUptoCard : Claim7 := { stood := { row := mailboxParsesUptoRow, standIns := [], harness := (true, "29ccfdc5c46c073a4f7b1111ccc517ffc673e1b630f6ee261102b68ae0b2141c"), looks := true }, kinds := [], alts := [], laidByText := true, laidKinds := [.data, .pinned], laidTests := true, laidLooks := .later }
def MailboxParsesUptoCardSaid : Prop := Claim7.holds Tryz.pinned (.plain (OpenSpec.upto mailboxParsesSpec)) mailboxParsesUptoCard

/-- THE SECOND FORM's CARD OF 'pillarboxlaw13.MailboxBack'. -/
def mailboxBackUptoCard : Claim7 := { stood := { row := mailboxBackUptoRow, standIns := [], harness := (true, "29ccfdc5c46c073a4f7b1111ccc517ffc673e1b630f6ee261102b68ae0b2141c"), looks := true }, kinds := [], alts := [], laidByText := true, laidKinds := [.data, .pinned], laidTests := true, laidLooks := .later }
def MailboxBackUptoCardSaid : Prop := Claim7.holds Tryz.pinned (.plain (OpenSpec.upto mailboxBackSpec)) mailboxBackUptoCard

/-- THE SECOND FORM's CARD OF 'pillarboxlaw13.MailboxForms'. -/
def mailboxFormsUptoCard : Claim7 := { stood := { row := mailboxFormsUptoRow, standIns := [], harness := (true, "29ccfdc5c46c073a4f7b1111ccc517ffc673e1b630f6ee261102b68ae0b2141c"), looks := true }, kinds := [], alts := [], laidByText := true, laidKinds := [.data, .pinned], laidTests := true, laidLooks := .later }
def MailboxFormsUptoCardSaid : Prop := Claim7.holds Tryz.pinned (.plain (OpenSpec.upto mailboxFormsSpec)) mailboxFormsUptoCard

/-- THE SECOND FORM's CARD OF 'pillarboxlaw13.MailboxDown'. -/
def mailboxDownUptoCard : Claim7 := { stood := { row := mailboxDownUptoRow, standIns := [], harness := (true, "29ccfdc5c46c073a4f7b1111ccc517ffc673e1b630f6ee261102b68ae0b2141c"), looks := true }, kinds := [], alts := [], laidByText := true, laidKinds := [.data, .pinned], laidTests := true, laidLooks := .later }
def MailboxDownUptoCardSaid : Prop := Claim7.holds Tryz.pinned (.plain (OpenSpec.upto mailboxDownSpec)) mailboxDownUptoCard

/-- THE SECOND FORM's CARD OF 'pillarboxlaw13.MailboxNotes'. -/
def mailboxNotesUptoCard : Claim7 := { stood := { row := mailboxNotesUptoRow, standIns := [], harness := (true, "29ccfdc5c46c073a4f7b1111ccc517ffc673e1b630f6ee261102b68ae0b2141c"), looks := true }, kinds := [], alts := [], laidByText := true, laidKinds := [.data, .pinned], laidTests := true, laidLooks := .later }
def MailboxNotesUptoCardSaid : Prop := Claim7.holds Tryz.pinned (.plain (OpenSpec.upto mailboxNotesSpec)) mailboxNotesUptoCard
end Rows
end Go.Proofs.YtppmbilonaflfaaGreatDoor
