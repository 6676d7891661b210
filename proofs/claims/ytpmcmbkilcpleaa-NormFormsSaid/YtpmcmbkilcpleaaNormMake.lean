/-
  Proved here: norm.makeOne and what it calls: what two characters make. Conditions: the table is one that New made.
-/
import Derived.Test.YtpmcmbkilcpleaaNormSplits
import Derived.Test.YtpmcmbkilcpleaaNormRefJoin
namespace Go.Proofs.Ytpmcmbkilcpleaa
open Go.RowKit Utf
namespace Norm
/-- What two parts of a syllable make. -/
def hang (a b : Int) : Option Int :=
  if 4352 ≤ a ∧ a ≤ 4370 ∧ 4449 ≤ b ∧ b ≤ 4469 then some (44032 + (a - 4352) * 588 + (b - 4449) * 28)
  else if 44032 ≤ a ∧ a ≤ 55203 ∧ (a - 44032) % 28 = 0 ∧ 4520 ≤ b ∧ b ≤ 4546 then some (a + b - 4519)
  else none
theorem rows_part : ∀ y ∈ splits, ¬ (4352 ≤ y.one ∧ y.one ≤ 4370) ∧ ¬ (44032 ≤ y.one ∧ y.one ≤ 55203) := by decide +kernel
theorem split_part {x : Int} {y : Sp} (h : splitOf x = some y) : ¬ (4352 ≤ y.one ∧ y.one ≤ 4370) ∧ ¬ (44032 ≤ y.one ∧ y.one ≤ 55203) := by
  rcases split_cases h with ⟨hy, rfl⟩ | ⟨hw, rfl⟩
  · exact rows_part y hy
  · simp only [wideOf, Bool.and_eq_true, decide_eq_true_eq] at hw
    simp only
    omega
theorem make2_pair {a b x : Int} (h : pairOf a b = some x) : make2 a b = some x := by
  obtain ⟨y, hy, rfl, rfl, -⟩ := pair_split h
  have := split_part hy
  rw [mk_pair (by omega) (by omega), h]
theorem make2_hang {a b : Int} (h : pairOf a b = none) : make2 a b = hang a b := by
  unfold hang
  by_cases h1 : 4352 ≤ a ∧ a ≤ 4370 ∧ 4449 ≤ b ∧ b ≤ 4469
  · rw [if_pos h1, mk_lv h1]
  · rw [if_neg h1]
    by_cases h2 : 44032 ≤ a ∧ a ≤ 55203 ∧ (a - 44032) % 28 = 0 ∧ 4520 ≤ b ∧ b ≤ 4546
    · rw [if_pos h2, mk_lvt h2]
    · rw [if_neg h2, mk_pair h1 h2, h]
theorem hang_lv {a b : Int} (h : 4352 ≤ a ∧ a ≤ 4370 ∧ 4449 ≤ b ∧ b ≤ 4469) : hang a b = some (44032 + (a - 4352) * 588 + (b - 4449) * 28) := by unfold hang; rw [if_pos h]
theorem hang_lvt {a b : Int} (h : 44032 ≤ a ∧ a ≤ 55203 ∧ (a - 44032) % 28 = 0 ∧ 4520 ≤ b ∧ b ≤ 4546) : hang a b = some (a + b - 4519) := by unfold hang; rw [if_neg (by omega), if_pos h]
theorem hang_no {a b : Int} (h1 : ¬ (4352 ≤ a ∧ a ≤ 4370 ∧ 4449 ≤ b ∧ b ≤ 4469)) (h2 : ¬ (44032 ≤ a ∧ a ≤ 55203 ∧ (a - 44032) % 28 = 0 ∧ 4520 ≤ b ∧ b ≤ 4546)) : hang a b = none := by unfold hang; rw [if_neg h1, if_neg h2]
end Norm
def TellsHang (o : Option Int) (w : World) (e : Ending) (w' : World) : Prop := e = .returned (.tuple #[.int .i32 (o.getD 0), .bool o.isSome]) ∧ w = w'
set_option maxHeartbeats 4000000 in
set_option maxRecDepth 100000 in
theorem joinSyl_any (a b : Int) (w : World) : Calls Try.prog 55 #[.int .i32 a, .int .i32 b] w (TellsHang (Norm.hang a b) w) := by
  have hS := fun W => isSyl_any a W
  cases hsy : Norm.syl a with
  | true =>
    obtain ⟨h1, h2⟩ := (Norm.syl_iff a).1 hsy
    rw [hsy] at hS
    have HS := Lib.hid hS
    clear hS hsy
    go_enter Try.func55, Try.ntmps55
    go_wp2_with (go_at_call 49; refine (HS.out _).mono ?_; rintro e w1 ⟨rfl, rfl⟩)
    all_goals go_ret2
    all_goals first
      | exact ⟨by rw [Norm.hang_lvt (by omega)]; rfl, rfl⟩
      | exact ⟨by rw [Norm.hang_no (by omega) (by omega)]; rfl, rfl⟩
  | false =>
    have hno : ¬ (44032 ≤ a ∧ a ≤ 55203) := fun h => by rw [(Norm.syl_iff a).2 h] at hsy; cases hsy
    have HNO := Lib.hid hno
    rw [hsy] at hS
    have HS := Lib.hid hS
    clear hS hsy hno
    go_enter Try.func55, Try.ntmps55
    go_wp2_with (go_at_call 49; refine (HS.out _).mono ?_; rintro e w1 ⟨rfl, rfl⟩)
    all_goals go_ret2
    all_goals first
      | exact ⟨by rw [Norm.hang_lv (by omega)]; rfl, rfl⟩
      | exact ⟨by rw [Norm.hang_no (by omega) (by have := HNO.out; omega)]; rfl, rfl⟩
set_option maxHeartbeats 1000000 in
set_option maxRecDepth 100000 in
theorem makeOne_any (t : Value) (a b : Int) (w : World) (hT : Table w t) : Calls Try.prog 37 #[t, .int .i32 a, .int .i32 b] w (TellsRune (Norm.make2 a b) w) := by
  have hP := fun W (h : Below w.heap.size w W) => pair_any t a b W (hT.below h)
  obtain ⟨b0, b1, b2, b3, rfl, -, -, -, -⟩ := hT
  cases ho : pairOf a b with
  | some x =>
    rw [Norm.make2_pair ho]
    rw [ho] at hP
    have HP := Lib.hid hP
    clear hP ho
    go_enter Try.func37, Try.ntmps37
    go_wp2_with fail
    refine (HP.out _ (below_one _ _)).mono ?_
    rintro e w1 ⟨rfl, hb1⟩
    have B := Lib.hid (below_then (below_one w _) hb1)
    clear hb1
    simp only [Option.getD_some, Option.isSome_some]
    go_wp2
    go_ret2
    exact ⟨rfl, B.out⟩
  | none =>
    rw [Norm.make2_hang ho]
    rw [ho] at hP
    have HP := Lib.hid hP
    have HJ := Lib.hid (fun W => joinSyl_any a b W)
    generalize Norm.hang a b = o at HJ ⊢
    clear hP ho
    go_enter Try.func37, Try.ntmps37
    go_wp2_with fail
    refine (HP.out _ (below_one _ _)).mono ?_
    rintro e w1 ⟨rfl, hb1⟩
    have B := Lib.hid (below_then (below_one w _) hb1)
    clear hb1
    simp only [Option.getD_none, Option.isSome_none]
    go_wp2_with fail
    refine (HJ.out _).mono ?_
    rintro e w2 ⟨rfl, rfl⟩
    go_wp2
    go_ret2
    exact ⟨rfl, B.out⟩
end Go.Proofs.Ytpmcmbkilcpleaa
