/-
  Proved here: Canonical of Canonical is Canonical, for every mailbox; the call changes nothing that was there, in whatever memory and on every schedule. Conditions: none beyond the given statement's own.
-/
import Derived.Test.YtppmbilonaflfaaGreatDoorMailboxFormsOverRow
namespace Go.Proofs.YtppmbilonaflfaaGreatDoor
set_option maxRecDepth 100000 in
theorem mailboxForms_holds : Rows.MailboxFormsCardSaid :=
  Claim7.holds_tied_plain_at .later [] [.data, .pinned] true Rows.mailboxFormsCard.stood.harness true
    mailboxForms.over (fun _ h => by cases h) (by as_aux_lemma => kernel_rfl) (fun _ h => by cases h) mailboxForms_row_tie rfl ⟨rfl, rfl⟩ (by as_aux_lemma => kernel_rfl) rfl
    (fun f fn hf hfn => by
      obtain rfl : f = 6 := Option.some.inj ((show Tryz.prog.funcNamed "pillarbox/pillarboxlaw13.MailboxForms" = some 6 by as_aux_lemma => kernel_rfl).symm.trans hf) |>.symm
      obtain rfl : fn = Tryz.f6 := (Option.some.inj (Tryz.func6.symm.trans hfn)).symm
      exact ⟨by as_aux_lemma => kernel_rfl, fun j t ht => by
        rw [Tryz.params6] at ht
        rcases j with _ | j
        all_goals simp at ht
        all_goals (subst ht; exact (by as_aux_lemma => kernel_rfl))⟩)
    (by as_aux_lemma => kernel_rfl)
#print axioms mailboxForms_holds
end Go.Proofs.YtppmbilonaflfaaGreatDoor
