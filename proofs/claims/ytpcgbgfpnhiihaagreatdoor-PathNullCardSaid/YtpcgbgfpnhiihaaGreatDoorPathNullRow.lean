/-
  Proved here: the Null path is the same as no other one, and goes everywhere as it is, for every path; the call changes nothing that was there, in whatever memory and on every schedule. Conditions: none beyond the given statement's own.
-/
import Derived.Test.YtpcgbgfpnhiihaaGreatDoorPathNullOverRow
namespace Go.Proofs.YtpcgbgfpnhiihaaGreatDoor
set_option maxRecDepth 100000 in
theorem pathNull_holds : Rows.PathNullCardSaid :=
  Claim7.holds_tied_plain_at .later [] [.data, .pinned] true Rows.pathNullCard.stood.harness true
    pathNull.over (fun _ h => by cases h) (by as_aux_lemma => kernel_rfl) (fun _ h => by cases h) pathNull_row_tie rfl ⟨rfl, rfl⟩ (by as_aux_lemma => kernel_rfl) rfl
    (fun f fn hf hfn => by
      obtain rfl : f = 8 := Option.some.inj ((show Tryz.prog.funcNamed "pillarbox/pillarboxlaw14.PathNull" = some 8 by as_aux_lemma => kernel_rfl).symm.trans hf) |>.symm
      obtain rfl : fn = Tryz.f8 := (Option.some.inj (Tryz.func8.symm.trans hfn)).symm
      exact ⟨by as_aux_lemma => kernel_rfl, fun j t ht => by
        rw [Tryz.params8] at ht
        rcases j with _ | j
        all_goals simp at ht
        all_goals (subst ht; exact (by as_aux_lemma => kernel_rfl))⟩)
    (by as_aux_lemma => kernel_rfl)
#print axioms pathNull_holds
end Go.Proofs.YtpcgbgfpnhiihaaGreatDoor
