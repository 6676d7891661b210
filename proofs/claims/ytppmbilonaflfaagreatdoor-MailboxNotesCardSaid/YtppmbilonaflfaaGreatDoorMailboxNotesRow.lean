/-
  Proved here: notes, and blanks, around a mailbox, and its @, do not count, for every right mailbox and every string; the call changes nothing that was there, in whatever memory and on every schedule. Conditions: none beyond the given statement's own.
-/
import Derived.Test.YtppmbilonaflfaaGreatDoorMailboxNotesOverRow
namespace Go.Proofs.YtppmbilonaflfaaGreatDoor
set_option maxRecDepth 100000 in
theorem mailboxNotes_holds : Rows.MailboxNotesCardSaid :=
  Claim7.holds_tied_plain_at .later [] [.data, .pinned] true Rows.mailboxNotesCard.stood.harness true
    mailboxNotes.over (fun _ h => by cases h) (by as_aux_lemma => kernel_rfl) (fun _ h => by cases h) mailboxNotes_row_tie rfl ⟨rfl, rfl⟩ (by as_aux_lemma => kernel_rfl) rfl
    (fun f fn hf hfn => by
      obtain rfl : f = 8 := Option.some.inj ((show Tryz.prog.funcNamed "pillarbox/pillarboxlaw13.MailboxNotes" = some 8 by as_aux_lemma => kernel_rfl).symm.trans hf) |>.symm
      obtain rfl : fn = Tryz.f8 := (Option.some.inj (Tryz.func8.symm.trans hfn)).symm
      exact ⟨by as_aux_lemma => kernel_rfl, fun j t ht => by
        rw [Tryz.params8] at ht
        rcases j with _ | _ | j
        all_goals simp at ht
        all_goals (subst ht; exact (by as_aux_lemma => kernel_rfl))⟩)
    (by as_aux_lemma => kernel_rfl)
#print axioms mailboxNotes_holds
end Go.Proofs.YtppmbilonaflfaaGreatDoor
