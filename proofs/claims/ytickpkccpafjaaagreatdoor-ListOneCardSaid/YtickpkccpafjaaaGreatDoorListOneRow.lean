/-
  Proved here: a mailbox alone is a list of it, for every text; the call changes nothing that was there, in whatever memory and on every schedule. Conditions: none beyond the given statement's own.
-/
import Derived.Test.YtickpkccpafjaaaGreatDoorListOneOverRow
namespace Go.Proofs.YtickpkccpafjaaaGreatDoor
set_option maxRecDepth 100000 in
theorem listOne_holds : Rows.ListOneCardSaid :=
  Claim7.holds_tied_plain_at .later [] [.data, .pinned] true Rows.listOneCard.stood.harness true
    listOne.over (fun _ h => by cases h) (by as_aux_lemma => kernel_rfl) (fun _ h => by cases h) listOne_row_tie rfl ⟨rfl, rfl⟩ (by as_aux_lemma => kernel_rfl) rfl
    (fun f fn hf hfn => by
      obtain rfl : f = 5 := Option.some.inj ((show Tryz.prog.funcNamed "pillarbox/pillarboxlaw15.ListOne" = some 5 by as_aux_lemma => kernel_rfl).symm.trans hf) |>.symm
      obtain rfl : fn = Tryz.f5 := (Option.some.inj (Tryz.func5.symm.trans hfn)).symm
      exact ⟨by as_aux_lemma => kernel_rfl, fun j t ht => by
        rw [Tryz.params5] at ht
        rcases j with _ | j
        all_goals simp at ht
        all_goals (subst ht; exact (by as_aux_lemma => kernel_rfl))⟩)
    (by as_aux_lemma => kernel_rfl)
#print axioms listOne_holds
end Go.Proofs.YtickpkccpafjaaaGreatDoor
