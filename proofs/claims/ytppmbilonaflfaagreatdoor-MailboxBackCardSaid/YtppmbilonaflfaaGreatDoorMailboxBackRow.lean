/-
  Proved here: what is right is printed, and parsed as it was, and what is parsed is right, for every mailbox and every text; the call changes nothing that was there, in whatever memory and on every schedule. Conditions: none beyond the given statement's own.
-/
import Derived.Test.YtppmbilonaflfaaGreatDoorMailboxBackOverRow
namespace Go.Proofs.YtppmbilonaflfaaGreatDoor
set_option maxRecDepth 100000 in
theorem mailboxBack_holds : Rows.MailboxBackCardSaid :=
  Claim7.holds_tied_plain_at .later [] [.data, .pinned] true Rows.mailboxBackCard.stood.harness true
    mailboxBack.over (fun _ h => by cases h) (by as_aux_lemma => kernel_rfl) (fun _ h => by cases h) mailboxBack_row_tie rfl ⟨rfl, rfl⟩ (by as_aux_lemma => kernel_rfl) rfl
    (fun f fn hf hfn => by
      obtain rfl : f = 5 := Option.some.inj ((show Tryz.prog.funcNamed "pillarbox/pillarboxlaw13.MailboxBack" = some 5 by as_aux_lemma => kernel_rfl).symm.trans hf) |>.symm
      obtain rfl : fn = Tryz.f5 := (Option.some.inj (Tryz.func5.symm.trans hfn)).symm
      exact ⟨by as_aux_lemma => kernel_rfl, fun j t ht => by
        rw [Tryz.params5] at ht
        rcases j with _ | _ | j
        all_goals simp at ht
        all_goals (subst ht; exact (by as_aux_lemma => kernel_rfl))⟩)
    (by as_aux_lemma => kernel_rfl)
#print axioms mailboxBack_holds
end Go.Proofs.YtppmbilonaflfaaGreatDoor
