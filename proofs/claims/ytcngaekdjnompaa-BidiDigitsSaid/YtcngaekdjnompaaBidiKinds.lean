/-
  Proved here: bidi's small functions: whether directions are turned, or mixed, and which ends may be. Conditions: none.
-/
import Derived.Test.YtcngaekdjnompaaUtfMore
import Derived.Test.YtcngaekdjnompaaBidiPlain
import Derived.BigRegion
import Derived.Deep.LoopGhost
namespace Go.Proofs.Ytcngaekdjnompaa
open Go.RowKit
set_option maxHeartbeats 1000000 in
set_option maxRecDepth 100000 in
theorem turned_any (a0 a1 a2 a3 a4 a5 a6 a7 : Bool) (w : World) : Calls Try.prog 24 #[.agg #[.bool a0, .bool a1, .bool a2, .bool a3, .bool a4, .bool a5, .bool a6, .bool a7]] w fun e w' => e = .returned (.bool (a2 || a3 || a5)) ∧ Below w.heap.size w w' := by
  cases a2 <;> cases a3 <;> cases a5
  all_goals
    go_enter Try.func24, Try.ntmps24
    go_wp2
    go_ret
    exact ⟨rfl, (Below.refl _ w).alloc (Nat.le_refl _) _⟩
set_option maxHeartbeats 1000000 in
set_option maxRecDepth 100000 in
theorem mixed_any (a0 a1 a2 a3 a4 a5 a6 a7 : Bool) (w : World) : Calls Try.prog 27 #[.agg #[.bool a0, .bool a1, .bool a2, .bool a3, .bool a4, .bool a5, .bool a6, .bool a7]] w fun e w' => e = .returned (.bool (a4 && a5)) ∧ Below w.heap.size w w' := by
  cases a4 <;> cases a5
  all_goals
    go_enter Try.func27, Try.ntmps27
    go_wp2
    go_ret
    exact ⟨rfl, (Below.refl _ w).alloc (Nat.le_refl _) _⟩
set_option maxHeartbeats 1000000 in
set_option maxRecDepth 100000 in
theorem endsRight_any (d : Int) (w : World) : Calls Try.prog 26 #[.int .i64 d] w fun e w' => e = .returned (.bool (Bidi.goodR d)) ∧ Below w.heap.size w w' := by
  have cs : d = 2 ∨ d = 3 ∨ d = 4 ∨ d = 5 ∨ (d ≠ 2 ∧ d ≠ 3 ∧ d ≠ 4 ∧ d ≠ 5) := by omega
  rcases cs with rfl | rfl | rfl | rfl | ⟨h2, h3, h4, h5⟩
  case inr.inr.inr.inr =>
    have e2 : (d == 2) = false := by simpa using h2
    have e3 : (d == 3) = false := by simpa using h3
    have e4 : (d == 4) = false := by simpa using h4
    have e5 : (d == 5) = false := by simpa using h5
    have R : Bidi.goodR d = false := by unfold Bidi.goodR; rw [e2, e3, e4, e5]; rfl
    rw [R]
    clear R h2 h3 h4 h5
    go_enter Try.func26, Try.ntmps26
    go_wp2
    go_ret
    exact ⟨rfl, Below.refl _ _⟩
  all_goals
    go_enter Try.func26, Try.ntmps26
    go_wp2
    go_ret
    exact ⟨rfl, Below.refl _ _⟩
set_option maxHeartbeats 1000000 in
set_option maxRecDepth 100000 in
theorem endsLeft_any (d : Int) (w : World) : Calls Try.prog 28 #[.int .i64 d] w fun e w' => e = .returned (.bool (Bidi.goodL d)) ∧ Below w.heap.size w w' := by
  have cs : d = 1 ∨ d = 4 ∨ (d ≠ 1 ∧ d ≠ 4) := by omega
  rcases cs with rfl | rfl | ⟨h1, h4⟩
  case inr.inr =>
    have e1 : (d == 1) = false := by simpa using h1
    have e4 : (d == 4) = false := by simpa using h4
    have R : Bidi.goodL d = false := by unfold Bidi.goodL; rw [e1, e4]; rfl
    rw [R]
    clear R h1 h4
    go_enter Try.func28, Try.ntmps28
    go_wp2
    go_ret
    exact ⟨rfl, Below.refl _ _⟩
  all_goals
    go_enter Try.func28, Try.ntmps28
    go_wp2
    go_ret
    exact ⟨rfl, Below.refl _ _⟩
end Go.Proofs.Ytcngaekdjnompaa
