/-
  Proved here: 'Right' and 'Len' of package utf, and of the document's own answer, tell whether a number is a character, and how many bytes it has. Conditions: none.
-/
import Derived.Test.YtmcjgdajnppbhaaGreatDoorProg
import Derived.Test.YtmcjgdajnppbhaaGreatDoorUtfPlain
import Derived.WalkKit
import Derived.WalkSpells
import Derived.WalkLawsBesides
import Derived.Lib.Hide
namespace Go.Proofs.YtmcjgdajnppbhaaGreatDoor
open Go.RowKit
namespace Utf
/-- The same of a number of Go's. -/
def rightZ (r : Int) : Bool := decide (0 ≤ r) && right r.toNat
def lenZ (r : Int) : Nat := if rightZ r then lenOf r.toNat else 0
theorem rightZ_iff (r : Int) : rightZ r = true ↔ 0 ≤ r ∧ r ≤ 1114111 ∧ (r < 55296 ∨ 57343 < r) := by
  unfold rightZ
  rw [Bool.and_eq_true, right_iff, decide_eq_true_eq]
  omega
theorem rightZ_no {r : Int} (h : ¬ (0 ≤ r ∧ r ≤ 1114111 ∧ (r < 55296 ∨ 57343 < r))) : rightZ r = false := by
  cases e : rightZ r with
  | false => rfl
  | true => exact absurd ((rightZ_iff r).1 e) h
end Utf
open Utf
set_option maxHeartbeats 400000 in
theorem right_any (r : Int) (w : World) : Calls Tryz.prog 37 #[.int .i32 r] w fun e w' => e = .returned (.bool (rightZ r)) ∧ w = w' := by
  rcases (show r < 0 ∨ (0 ≤ r ∧ r < 55296) ∨ (55296 ≤ r ∧ r ≤ 57343) ∨ (57343 < r ∧ r ≤ 1114111) ∨ 1114111 < r by omega) with h | ⟨h1, h2⟩ | ⟨h1, h2⟩ | ⟨h1, h2⟩ | h
  · rw [rightZ_no (by omega)]
    go_enter Tryz.func37, Tryz.ntmps37
    go_wp2
    go_ret
    exact ⟨rfl, rfl⟩
  · rw [(rightZ_iff r).2 (by omega)]
    have h3 : r ≤ 1114111 := by omega
    go_enter Tryz.func37, Tryz.ntmps37
    go_wp2
    go_ret
    exact ⟨rfl, rfl⟩
  · rw [rightZ_no (by omega)]
    have h3 : r ≤ 1114111 := by omega
    have h4 : 0 ≤ r := by omega
    have e1 : decide (r < 55296) = false := by simp; omega
    have e2 : decide (57343 < r) = false := by simp; omega
    go_enter Tryz.func37, Tryz.ntmps37
    go_wp2
    go_ret
    exact ⟨rfl, rfl⟩
  · rw [(rightZ_iff r).2 (by omega)]
    have h4 : 0 ≤ r := by omega
    go_enter Tryz.func37, Tryz.ntmps37
    go_wp2
    go_ret
    exact ⟨rfl, rfl⟩
  · rw [rightZ_no (by omega)]
    have h4 : 0 ≤ r := by omega
    go_enter Tryz.func37, Tryz.ntmps37
    go_wp2
    go_ret
    exact ⟨rfl, rfl⟩
set_option maxHeartbeats 400000 in
theorem len_any (r : Int) (w : World) : Calls Tryz.prog 26 #[.int .i32 r] w fun e w' => e = .returned (.int .i64 (lenZ r : Nat)) ∧ w = w' := by
  have hr := right_any r w
  unfold lenZ
  cases hz : rightZ r with
  | false =>
    rw [hz] at hr
    clear hz
    go_enter Tryz.func26, Tryz.ntmps26
    go_wp2_with fail
    refine hr.mono ?_
    rintro e w' ⟨rfl, rfl⟩
    clear hr
    go_wp2
    go_ret
    exact ⟨rfl, rfl⟩
  | true =>
    have hb := (rightZ_iff r).1 hz
    rw [hz] at hr
    clear hz
    obtain ⟨h1, h2, h3⟩ := hb
    clear h3
    rw [if_pos rfl]
    unfold lenOf
    rcases (show r < 128 ∨ (128 ≤ r ∧ r ≤ 2047) ∨ (2047 < r ∧ r ≤ 65535) ∨ 65535 < r by omega) with h | ⟨h4, h5⟩ | ⟨h4, h5⟩ | h
    · rw [if_pos (by omega)]
      go_enter Tryz.func26, Tryz.ntmps26
      go_wp2_with fail
      refine hr.mono ?_
      rintro e w' ⟨rfl, rfl⟩
      clear hr
      go_wp2
      go_ret
      exact ⟨rfl, rfl⟩
    · rw [if_neg (by omega), if_pos (by omega)]
      go_enter Tryz.func26, Tryz.ntmps26
      go_wp2_with fail
      refine hr.mono ?_
      rintro e w' ⟨rfl, rfl⟩
      clear hr
      go_wp2
      go_ret
      exact ⟨rfl, rfl⟩
    · rw [if_neg (by omega), if_neg (by omega), if_pos (by omega)]
      have h6 : 128 ≤ r := by omega
      go_enter Tryz.func26, Tryz.ntmps26
      go_wp2_with fail
      refine hr.mono ?_
      rintro e w' ⟨rfl, rfl⟩
      clear hr
      go_wp2
      go_ret
      exact ⟨rfl, rfl⟩
    · rw [if_neg (by omega), if_neg (by omega), if_neg (by omega)]
      have h6 : 128 ≤ r := by omega
      have h7 : 2047 < r := by omega
      go_enter Tryz.func26, Tryz.ntmps26
      go_wp2_with fail
      refine hr.mono ?_
      rintro e w' ⟨rfl, rfl⟩
      clear hr
      go_wp2
      go_ret
      exact ⟨rfl, rfl⟩
theorem ret_one {k : IntKind} {a b : Int} (h : a = b) : Ending.returned (.int k a) = .returned (.int k b) := by rw [h]
theorem ret_two {k : IntKind} {a b : Int} {x : Value} (h : a = b) : Ending.returned (.tuple #[.int k a, x]) = .returned (.tuple #[.int k b, x]) := by rw [h]
/-- The bits that a first byte holds, and how many bytes it asks for. -/
def Utf.headOf (n : Nat) : Int × Nat :=
  if n < 128 then (n, 1) else if n < 192 then (0, 0) else if n < 224 then ((n % 32 : Nat), 2) else if n < 240 then ((n % 16 : Nat), 3) else if n < 248 then ((n % 8 : Nat), 4) else (0, 0)
set_option maxHeartbeats 400000 in
set_option maxRecDepth 100000 in
theorem head_any (n : Nat) (hn : n < 256) (w : World) : Calls Tryz.prog 25 #[.int .u8 n] w fun e w' => e = .returned (.tuple #[.int .i32 (headOf n).1, .int .i64 (headOf n).2]) ∧ w = w' := by
  unfold headOf
  rcases (show n < 128 ∨ (128 ≤ n ∧ n < 192) ∨ (192 ≤ n ∧ n < 224) ∨ (224 ≤ n ∧ n < 240) ∨ (240 ≤ n ∧ n < 248) ∨ 248 ≤ n by omega) with h | ⟨h4, h5⟩ | ⟨h4, h5⟩ | ⟨h4, h5⟩ | ⟨h4, h5⟩ | h
  · rw [if_pos (by omega)]
    go_enter Tryz.func25, Tryz.ntmps25
    go_wp2
    go_ret2
    exact ⟨rfl, rfl⟩
  · rw [if_neg (by omega), if_pos (by omega)]
    go_enter Tryz.func25, Tryz.ntmps25
    go_wp2
    go_ret2
    exact ⟨rfl, rfl⟩
  · rw [if_neg (by omega), if_neg (by omega), if_pos (by omega)]
    go_enter Tryz.func25, Tryz.ntmps25
    go_wp2
    go_ret2
    exact ⟨ret_two (by omega), rfl⟩
  · rw [if_neg (by omega), if_neg (by omega), if_neg (by omega), if_pos (by omega)]
    go_enter Tryz.func25, Tryz.ntmps25
    go_wp2
    go_ret2
    exact ⟨ret_two (by omega), rfl⟩
  · rw [if_neg (by omega), if_neg (by omega), if_neg (by omega), if_neg (by omega), if_pos (by omega)]
    go_enter Tryz.func25, Tryz.ntmps25
    go_wp2
    go_ret2
    exact ⟨ret_two (by omega), rfl⟩
  · rw [if_neg (by omega), if_neg (by omega), if_neg (by omega), if_neg (by omega), if_neg (by omega)]
    go_enter Tryz.func25, Tryz.ntmps25
    go_wp2
    go_ret2
    exact ⟨rfl, rfl⟩
end Go.Proofs.YtmcjgdajnppbhaaGreatDoor
