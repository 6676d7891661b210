/-
  Proved here: what is Down is the Same, and all ASCII, and its Local is as it was, for every mailbox; the call changes nothing that was there, in whatever memory and on every schedule. Conditions: none beyond the given statement's own.
-/
import Derived.Test.YtppmbilonaflfaaGreatDoorMailboxDownOverRow
namespace Go.Proofs.YtppmbilonaflfaaGreatDoor
set_option maxRecDepth 100000 in
theorem mailboxDown_holds : Rows.MailboxDownCardSaid :=
  Claim7.holds_tied_plain_at .later [] [.data, .pinned] true Rows.mailboxDownCard.stood.harness true
    mailboxDown.over (fun _ h => by cases h) (by as_aux_lemma => kernel_rfl) (fun _ h => by cases h) mailboxDown_row_tie rfl ⟨rfl, rfl⟩ (by as_aux_lemma => kernel_rfl) rfl
    (fun f fn hf hfn => by
      obtain rfl : f = 7 := Option.some.inj ((show Tryz.prog.funcNamed "pillarbox/pillarboxlaw13.MailboxDown" = some 7 by as_aux_lemma => kernel_rfl).symm.trans hf) |>.symm
      obtain rfl : fn = Tryz.f7 := (Option.some.inj (Tryz.func7.symm.trans hfn)).symm
      exact ⟨by as_aux_lemma => kernel_rfl, fun j t ht => by
        rw [Tryz.params7] at ht
        rcases j with _ | j
        all_goals simp at ht
        all_goals (subst ht; exact (by as_aux_lemma => kernel_rfl))⟩)
    (by as_aux_lemma => kernel_rfl)
#print axioms mailboxDown_holds
end Go.Proofs.YtppmbilonaflfaaGreatDoor
