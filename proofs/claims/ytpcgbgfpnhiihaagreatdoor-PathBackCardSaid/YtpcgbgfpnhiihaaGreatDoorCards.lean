/-
  DERIVED. GIVEN WITH THE SEED: THE CARDS: each row of YtpcgbgfpnhiihaaGreatDoorRows.lean that lists a variable, with what it lists TIED to the program's text (the seventh form; the later family's looks); each row that meets fmt, with fmt's text TOLD by the authors' own Lean function (tested against real Go, not proved from fmt's source: count such statements apart). THE CARD IS WHAT COUNTS. Prove the row's statement (the work); the ties are given (YtpcgbgfpnhiihaaGreatDoorTie.lean); close each card by the builder's one call (the guide's Derived/Test/ToyasCard.lean, 'card_holds'). Laid BY PROGRAM, IN A SANDBOX (cutbox-door.mjs). By AI agents, Wed Nov 11 2026. No macro, syntax, notation, axiom, sorry.
-/
import Derived.Test.YtpcgbgfpnhiihaaGreatDoorRows
import GoSem.ClaimSeven
namespace Go.Proofs.YtpcgbgfpnhiihaaGreatDoor
namespace Rows

/-- THE TIED CARD OF 'pillarboxlaw13.MailboxTells'. -/
def mailboxTellsCard : Claim7 := { stood := { row := mailboxTellsRow, standIns := [], harness := (true, "0ff8493a76db3b6a4a8617851bf6e4b75fab3378ac36d33b07302b8a5747c38d"), looks := true }, kinds := [], alts := [], laidByText := true, laidKinds := [.data, .pinned], laidTests := true, laidLooks := .later }
def MailboxTellsCardSaid : Prop := Claim7.holds Tryz.pinned (.plain (OpenSpec.ofChange mailboxTellsSpec)) mailboxTellsCard

/-- THE TIED CARD OF 'pillarboxlaw13.MailboxParses'. -/
def mailboxParsesCard : Claim7 := { stood := { row := mailboxParsesRow, standIns := [], harness := (true, "0ff8493a76db3b6a4a8617851bf6e4b75fab3378ac36d33b07302b8a5747c38d"), looks := true }, kinds := [], alts := [], laidByText := true, laidKinds := [.data, .pinned], laidTests := true, laidLooks := .later }
def MailboxParsesCardSaid : Prop := Claim7.holds Tryz.pinned (.plain (OpenSpec.ofChange mailboxParsesSpec)) mailboxParsesCard

/-- THE TIED CARD OF 'pillarboxlaw14.PathTells'. -/
def pathTellsCard : Claim7 := { stood := { row := pathTellsRow, standIns := [], harness := (true, "0ff8493a76db3b6a4a8617851bf6e4b75fab3378ac36d33b07302b8a5747c38d"), looks := true }, kinds := [], alts := [], laidByText := true, laidKinds := [.data, .pinned], laidTests := true, laidLooks := .later }
def PathTellsCardSaid : Prop := Claim7.holds Tryz.pinned (.plain (OpenSpec.ofChange pathTellsSpec)) pathTellsCard

/-- THE TIED CARD OF 'pillarboxlaw14.PathParses'. -/
def pathParsesCard : Claim7 := { stood := { row := pathParsesRow, standIns := [], harness := (true, "0ff8493a76db3b6a4a8617851bf6e4b75fab3378ac36d33b07302b8a5747c38d"), looks := true }, kinds := [], alts := [], laidByText := true, laidKinds := [.data, .pinned], laidTests := true, laidLooks := .later }
def PathParsesCardSaid : Prop := Claim7.holds Tryz.pinned (.plain (OpenSpec.ofChange pathParsesSpec)) pathParsesCard

/-- THE TIED CARD OF 'pillarboxlaw14.PathBack'. -/
def pathBackCard : Claim7 := { stood := { row := pathBackRow, standIns := [], harness := (true, "0ff8493a76db3b6a4a8617851bf6e4b75fab3378ac36d33b07302b8a5747c38d"), looks := true }, kinds := [], alts := [], laidByText := true, laidKinds := [.data, .pinned], laidTests := true, laidLooks := .later }
def PathBackCardSaid : Prop := Claim7.holds Tryz.pinned (.plain (OpenSpec.ofChange pathBackSpec)) pathBackCard

/-- THE TIED CARD OF 'pillarboxlaw14.PathNull'. -/
def pathNullCard : Claim7 := { stood := { row := pathNullRow, standIns := [], harness := (true, "0ff8493a76db3b6a4a8617851bf6e4b75fab3378ac36d33b07302b8a5747c38d"), looks := true }, kinds := [], alts := [], laidByText := true, laidKinds := [.data, .pinned], laidTests := true, laidLooks := .later }
def PathNullCardSaid : Prop := Claim7.holds Tryz.pinned (.plain (OpenSpec.ofChange pathNullSpec)) pathNullCard

/-- THE SECOND FORM's CARD OF 'pillarboxlaw13.MailboxTells'. -/
def mailboxTellsUptoCard : Claim7 := { stood := { row := mailboxTellsUptoRow, standIns := [], harness := (true, "0ff8493a76db3b6a4a8617851bf6e4b75fab3378ac36d33b07302b8a5747c38d"), looks := true }, kinds := [], alts := [], laidByText := true, laidKinds := [.data, .pinned], laidTests := true, laidLooks := .later }
def MailboxTellsUptoCardSaid : Prop := Claim7.holds Tryz.pinned (.plain (OpenSpec.upto mailboxTellsSpec)) mailboxTellsUptoCard

/-- THE SECOND FORM's CARD OF 'pillarboxlaw13.MailboxParses'. -/
def mailboxParsesUptoCard : Claim7 := { stood := { row := mailboxParsesUptoRow, standIns := [], harness := (true, "0ff8493a76db3b6a4a8617851bf6e4b75fab3378ac36d33b07302b8a5747c38d"), looks := true }, kinds := [], alts := [], laidByText := true, laidKinds := [.data, .pinned], laidTests := true, laidLooks := .later }
def MailboxParsesUptoCardSaid : Prop := Claim7.holds Tryz.pinned (.plain (OpenSpec.upto mailboxParsesSpec)) mailboxParsesUptoCard

/-- THE SECOND FORM's CARD OF 'pillarboxlaw14.PathTells'. -/
def pathTellsUptoCard : Claim7 := { stood := { row := pathTellsUptoRow, standIns := [], harness := (true, "0ff8493a76db3b6a4a8617851bf6e4b75fab3378ac36d33b07302b8a5747c38d"), looks := true }, kinds := [], alts := [], laidByText := true, laidKinds := [.data, .pinned], laidTests := true, laidLooks := .later }
def PathTellsUptoCardSaid : Prop := Claim7.holds Tryz.pinned (.plain (OpenSpec.upto pathTellsSpec)) pathTellsUptoCard

/-- THE SECOND FORM's CARD OF 'pillarboxlaw14.PathParses'. -/
def pathParsesUptoCard : Claim7 := { stood := { row := pathParsesUptoRow, standIns := [], harness := (true, "0ff8493a76db3b6a4a8617851bf6e4b75fab3378ac36d33b07302b8a5747c38d"), looks := true }, kinds := [], alts := [], laidByText := true, laidKinds := [.data, .pinned], laidTests := true, laidLooks := .later }
def PathParsesUptoCardSaid : Prop := Claim7.holds Tryz.pinned (.plain (OpenSpec.upto pathParsesSpec)) pathParsesUptoCard

/-- THE SECOND FORM's CARD OF 'pillarboxlaw14.PathBack'. -/
def pathBackUptoCard : Claim7 := { stood := { row := pathBackUptoRow, standIns := [], harness := (true, "0ff8493a76db3b6a4a8617851bf6e4b75fab3378ac36d33b07302b8a5747c38d"), looks := true }, kinds := [], alts := [], laidByText := true, laidKinds := [.data, .pinned], laidTests := true, laidLooks := .later }
def PathBackUptoCardSaid : Prop := Claim7.holds Tryz.pinned (.plain (OpenSpec.upto pathBackSpec)) pathBackUptoCard

/-- THE SECOND FORM's CARD OF 'pillarboxlaw14.PathNull'. -/
def pathNullUptoCard : Claim7 := { stood := { row := pathNullUptoRow, standIns := [], harness := (true, "0ff8493a76db3b6a4a8617851bf6e4b75fab3378ac36d33b07302b8a5747c38d"), looks := true }, kinds := [], alts := [], laidByText := true, laidKinds := [.data, .pinned], laidTests := true, laidLooks := .later }
def PathNullUptoCardSaid : Prop := Claim7.holds Tryz.pinned (.plain (OpenSpec.upto pathNullSpec)) pathNullUptoCard
end Rows
end Go.Proofs.YtpcgbgfpnhiihaaGreatDoor
