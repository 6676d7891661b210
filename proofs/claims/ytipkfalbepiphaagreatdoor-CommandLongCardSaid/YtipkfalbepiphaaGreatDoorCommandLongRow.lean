/-
  Proved here: a line that is too long is told so, whatever it Fi, and so is one of no verb, for every line; the call changes nothing that was there, in whatever memory and on every schedule. Conditions: none beyond the given statement's own.
-/
import Derived.Test.YtipkfalbepiphaaGreatDoorCommandLongOverRow
namespace Go.Proofs.YtipkfalbepiphaaGreatDoor
set_option maxRecDepth 100000 in
theorem commandLong_holds : Rows.CommandLongCardSaid :=
  Claim7.holds_tied_plain_at .later [] [.data, .data, .data, .data, .sentinel, .sentinel, .data, .pinned, .pinned] true Rows.commandLongCard.stood.harness true
    commandLong.over (fun _ h => by cases h) (by as_aux_lemma => kernel_rfl) (fun _ h => by cases h) commandLong_row_tie rfl ⟨rfl, rfl⟩ (by as_aux_lemma => kernel_rfl) rfl
    (fun f fn hf hfn => by
      obtain rfl : f = 5 := Option.some.inj ((show Tryz.prog.funcNamed "pillarbox/pillarboxlaw17.CommandLong" = some 5 by as_aux_lemma => kernel_rfl).symm.trans hf) |>.symm
      obtain rfl : fn = Tryz.f5 := (Option.some.inj (Tryz.func5.symm.trans hfn)).symm
      exact ⟨by as_aux_lemma => kernel_rfl, fun j t ht => by
        rw [Tryz.params5] at ht
        rcases j with _ | _ | j
        all_goals simp at ht
        all_goals (subst ht; exact (by as_aux_lemma => kernel_rfl))⟩)
    (by as_aux_lemma => kernel_rfl)
#print axioms commandLong_holds
end Go.Proofs.YtipkfalbepiphaaGreatDoor
