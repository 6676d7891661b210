/-
  Proved here: what is Down is the Same, and ASCII, for every right path; the call changes nothing that was there, in whatever memory and on every schedule. Conditions: none beyond the given statement's own.
-/
import Derived.Test.YtpcgbgfpnhiihabGreatDoorPathDownOverRow
namespace Go.Proofs.YtpcgbgfpnhiihabGreatDoor
set_option maxRecDepth 100000 in
theorem pathDown_holds : Rows.PathDownCardSaid :=
  Claim7.holds_tied_plain_at .later [] [.data, .pinned] true Rows.pathDownCard.stood.harness true
    pathDown.over (fun _ h => by cases h) (by as_aux_lemma => kernel_rfl) (fun _ h => by cases h) pathDown_row_tie rfl ⟨rfl, rfl⟩ (by as_aux_lemma => kernel_rfl) rfl
    (fun f fn hf hfn => by
      obtain rfl : f = 3 := Option.some.inj ((show Tryz.prog.funcNamed "pillarbox/pillarboxlaw14.PathDown" = some 3 by as_aux_lemma => kernel_rfl).symm.trans hf) |>.symm
      obtain rfl : fn = Tryz.f3 := (Option.some.inj (Tryz.func3.symm.trans hfn)).symm
      exact ⟨by as_aux_lemma => kernel_rfl, fun j t ht => by
        rw [Tryz.params3] at ht
        rcases j with _ | j
        all_goals simp at ht
        all_goals (subst ht; exact (by as_aux_lemma => kernel_rfl))⟩)
    (by as_aux_lemma => kernel_rfl)
#print axioms pathDown_holds
end Go.Proofs.YtpcgbgfpnhiihabGreatDoor
