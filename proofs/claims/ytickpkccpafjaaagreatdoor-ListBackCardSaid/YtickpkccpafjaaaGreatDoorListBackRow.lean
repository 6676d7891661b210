/-
  Proved here: what is right, and is printed in 2000 bytes at most, is parsed as it was, and what is parsed is right, for every list and every text; the call changes nothing that was there, in whatever memory and on every schedule. Conditions: none beyond the given statement's own.
-/
import Derived.Test.YtickpkccpafjaaaGreatDoorListBackOverRow
namespace Go.Proofs.YtickpkccpafjaaaGreatDoor
set_option maxRecDepth 100000 in
theorem listBack_holds : Rows.ListBackCardSaid :=
  Claim7.holds_tied_plain_at .later [] [.data, .pinned] true Rows.listBackCard.stood.harness true
    listBack.over (fun _ h => by cases h) (by as_aux_lemma => kernel_rfl) (fun _ h => by cases h) listBack_row_tie rfl ⟨rfl, rfl⟩ (by as_aux_lemma => kernel_rfl) rfl
    (fun f fn hf hfn => by
      obtain rfl : f = 4 := Option.some.inj ((show Tryz.prog.funcNamed "pillarbox/pillarboxlaw15.ListBack" = some 4 by as_aux_lemma => kernel_rfl).symm.trans hf) |>.symm
      obtain rfl : fn = Tryz.f4 := (Option.some.inj (Tryz.func4.symm.trans hfn)).symm
      exact ⟨by as_aux_lemma => kernel_rfl, fun j t ht => by
        rw [Tryz.params4] at ht
        rcases j with _ | _ | j
        all_goals simp at ht
        all_goals (subst ht; exact (by as_aux_lemma => kernel_rfl))⟩)
    (by as_aux_lemma => kernel_rfl)
#print axioms listBack_holds
end Go.Proofs.YtickpkccpafjaaaGreatDoor
