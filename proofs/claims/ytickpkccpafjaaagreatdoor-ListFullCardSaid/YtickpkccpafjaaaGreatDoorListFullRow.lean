/-
  Proved here: as many mailboxes as may be are read, and no more, for every number of them, in a group or not; the call changes nothing that was there, in whatever memory and on every schedule. Conditions: none beyond the given statement's own.
-/
import Derived.Test.YtickpkccpafjaaaGreatDoorListFullOverRow
namespace Go.Proofs.YtickpkccpafjaaaGreatDoor
set_option maxRecDepth 100000 in
theorem listFull_holds : Rows.ListFullCardSaid :=
  Claim7.holds_tied_plain_at .later [] [.data, .pinned] true Rows.listFullCard.stood.harness true
    listFull.over (fun _ h => by cases h) (by as_aux_lemma => kernel_rfl) (fun _ h => by cases h) listFull_row_tie rfl ⟨rfl, rfl⟩ (by as_aux_lemma => kernel_rfl) rfl
    (fun f fn hf hfn => by
      obtain rfl : f = 6 := Option.some.inj ((show Tryz.prog.funcNamed "pillarbox/pillarboxlaw15.ListFull" = some 6 by as_aux_lemma => kernel_rfl).symm.trans hf) |>.symm
      obtain rfl : fn = Tryz.f6 := (Option.some.inj (Tryz.func6.symm.trans hfn)).symm
      exact ⟨by as_aux_lemma => kernel_rfl, fun j t ht => by
        rw [Tryz.params6] at ht
        rcases j with _ | _ | j
        all_goals simp at ht
        all_goals (subst ht; exact (by as_aux_lemma => kernel_rfl))⟩)
    (by as_aux_lemma => kernel_rfl)
#print axioms listFull_holds
end Go.Proofs.YtickpkccpafjaaaGreatDoor
