/-
  Proved here: the document's own answers for layer 1 (ranges, classes, small letters, letters), as functions of Go, tell what the tables say. Conditions: none.
-/
import Derived.Test.YtoekkiodhbejpaaPair
namespace Go.Proofs.Ytoekkiodhbejpaa
open Go.RowKit
theorem findBox (w : World) {w1 : World} (hb1 : Below (w.alloc (.cells #[.int .i32 0, .int .i32 0, .int .i64 0, .int .i64 0, .int .i64 0, .int .i64 0] 61)).heap.size (w.alloc (.cells #[.int .i32 0, .int .i32 0, .int .i64 0, .int .i64 0, .int .i64 0, .int .i64 0] 61)) w1) :
    (∀ i, w1.frozen? ⟨w.heap.size, i, none⟩ = false) ∧ w1.cell? ⟨w.heap.size, 0, none⟩ = some (.int .i32 0) ∧ w1.cell? ⟨w.heap.size, 1, none⟩ = some (.int .i32 0) ∧ w1.cell? ⟨w.heap.size, 2, none⟩ = some (.int .i64 0) ∧ w1.cell? ⟨w.heap.size, 3, none⟩ = some (.int .i64 0) ∧ w1.cell? ⟨w.heap.size, 4, none⟩ = some (.int .i64 0) ∧ w1.cell? ⟨w.heap.size, 5, none⟩ = some (.int .i64 0) := by
  have hc : ∀ i, w1.cell? ⟨w.heap.size, i, none⟩ = _ := fun i => hb1.cell (p := ⟨w.heap.size, i, none⟩) (show w.heap.size < _ by simp)
  exact ⟨fun i => (hb1.frozen (p := ⟨w.heap.size, i, none⟩) (show w.heap.size < _ by simp)).trans (by go_simp),
    (hc 0).trans (by go_simp), (hc 1).trans (by go_simp), (hc 2).trans (by go_simp), (hc 3).trans (by go_simp), (hc 4).trans (by go_simp), (hc 5).trans (by go_simp)⟩
theorem step_no {α : Type} [Inhabited α] {q : α → Prop} {rows : List α} {k : Nat} (A : ∀ j, j < k → ¬ q rows[j]!) {y : α} (hy : rows[k]! = y) (h : ¬ q y) : ∀ j, j < k + 1 → ¬ q rows[j]! := fun j hj => by
  by_cases e : j = k
  · subst e; rw [hy]; exact h
  · exact A j (by omega)
def TellsRg (o : Option Rg) (w : World) (e : Ending) (w' : World) : Prop :=
  e = .returned (.tuple #[.agg (encRg (o.getD default)).toArray, .bool o.isSome]) ∧ Below w.heap.size w w'
set_option maxHeartbeats 4000000 in
theorem refFind_any (x : Int) (w : World) : Calls Try.prog 53 #[.int .i32 x] w (TellsRg (rangeOf x) w) := by
  go_enter Try.func53, Try.ntmps53
  go_wp2_with fail
  refine (tabRg _).mono ?_
  rintro e w1 ⟨b, rfl, n0, l0, hb1⟩
  obtain ⟨fz, d0, d1, d2, d3, d4, d5⟩ := findBox w hb1
  have HL := Lib.hid l0
  have HB := Lib.hid (((Below.refl _ w).alloc (Nat.le_refl _) _).trans (hb1.mono (by simp)))
  have hne : b ≠ w.heap.size := by simp at n0; omega
  clear l0 hb1 n0
  go_wp2
  go_loop [5] (fun i => ∃ k : Nat, k ≤ 74 ∧ i = .int .i64 k ∧ Hid (∀ j, j < k → ¬ (ranges[j]!.lo ≤ x ∧ x ≤ ranges[j]!.hi))) (fun i => 74 - (intOf i).toNat)
  case atStart => exact ⟨0, Nat.zero_le _, rfl, fun j hj => absurd hj (Nat.not_lt_zero _)⟩
  case round =>
    obtain ⟨k, hk, rfl, A⟩ := hrel
    by_cases hlt : k < 74
    · have hkz : (k : Int) < 74 := by omega
      obtain ⟨e0, e1, e2, e3, e4, e5⟩ := rowRg HL.out k hlt ranges[k]! rfl
      generalize hy : ranges[k]! = y at e0 e1 e2 e3 e4 e5
      obtain ⟨v0, v1, v2, v3, v4, v5⟩ := y
      have HY := Lib.hid hy
      clear hy
      simp only at e0 e1 e2 e3 e4 e5
      by_cases h1 : v0 ≤ x
      · by_cases h2 : x ≤ v1
        · go_wp2
          refine bodyPost_ret (v := .tuple #[.agg #[.int .i32 v0, .int .i32 v1, .int .i64 v2, .int .i64 v3, .int .i64 v4, .int .i64 v5], .bool true]) (by simp [results, Try.results53, go_sem, d0, d1, d2, d3, d4, d5]) rfl ⟨?_, belowRg HB.out (Nat.le_refl _) _ _ _ _ _ _⟩
          unfold rangeOf
          rw [seek_hit x ranges_rise k hlt (by rw [HY.out]; exact h1) (by rw [HY.out]; exact h2), HY.out]
          rfl
        · have H2 := Lib.hid h2
          have h2' : decide (x ≤ v1) = false := by simpa using h2
          go_wp2
          exact ⟨⟨k + 1, by omega, by go_num, Lib.hid (step_no (q := fun y => y.lo ≤ x ∧ x ≤ y.hi) A.out HY.out (fun h => H2.out h.2))⟩, by simp [intOf]; omega⟩
      · have H1 := Lib.hid h1
        have h1' : decide (v0 ≤ x) = false := by simpa using h1
        go_wp2
        exact ⟨⟨k + 1, by omega, by go_num, Lib.hid (step_no (q := fun y => y.lo ≤ x ∧ x ≤ y.hi) A.out HY.out (fun h => H1.out h.1))⟩, by simp [intOf]; omega⟩
    · have hkz : ¬ (k : Int) < 74 := by omega
      go_wp2
      refine bodyPost_ret (v := .tuple #[.agg #[.int .i32 0, .int .i32 0, .int .i64 0, .int .i64 0, .int .i64 0, .int .i64 0], .bool false]) (by simp [results, Try.results53, go_sem, d0, d1, d2, d3, d4, d5]) rfl ⟨?_, belowRg HB.out (Nat.le_refl _) _ _ _ _ _ _⟩
      unfold rangeOf
      rw [seek_miss x (fun j hj => A.out j (by have : ranges.length = 74 := rfl; omega))]
      rfl
set_option maxHeartbeats 1000000 in
theorem refJoin_any (x : Int) (w : World) : Calls Try.prog 52 #[.int .i32 x] w fun e w' => e = .returned (.int .i64 (joinOf x)) ∧ Below w.heap.size w w' := by
  have hr := refFind_any x w
  unfold TellsRg at hr
  unfold joinOf
  generalize (rangeOf x).isSome = is at hr
  generalize (rangeOf x).getD default = y at hr ⊢
  obtain ⟨v0, v1, v2, v3, v4, v5⟩ := y
  simp only [encRg] at hr ⊢
  have HF := Lib.hid hr
  clear hr
  go_enter Try.func52, Try.ntmps52
  go_wp2_with fail
  refine HF.out.mono ?_
  rintro e w1 ⟨rfl, hb1⟩
  have HB := Lib.hid hb1
  clear hb1
  go_wp2
  go_ret
  exact ⟨rfl, below_new HB.out (Nat.le_refl _) _⟩
set_option maxHeartbeats 1000000 in
theorem refScript_any (x : Int) (w : World) : Calls Try.prog 40 #[.int .i32 x] w fun e w' => e = .returned (.int .i64 (scriptOf x)) ∧ Below w.heap.size w w' := by
  have hr := refFind_any x w
  unfold TellsRg at hr
  unfold scriptOf
  generalize (rangeOf x).isSome = is at hr
  generalize (rangeOf x).getD default = y at hr ⊢
  obtain ⟨v0, v1, v2, v3, v4, v5⟩ := y
  simp only [encRg] at hr ⊢
  have HF := Lib.hid hr
  clear hr
  go_enter Try.func40, Try.ntmps40
  go_wp2_with fail
  refine HF.out.mono ?_
  rintro e w1 ⟨rfl, hb1⟩
  have HB := Lib.hid hb1
  clear hb1
  go_wp2
  go_ret
  exact ⟨rfl, below_new HB.out (Nat.le_refl _) _⟩
set_option maxHeartbeats 4000000 in
theorem refClass_any (x : Int) (w : World) : Calls Try.prog 37 #[.int .i32 x] w fun e w' => e = .returned (.int .i64 (clsOf x)) ∧ Below w.heap.size w w' := by
  go_enter Try.func37, Try.ntmps37
  go_wp2_with fail
  refine (tabCl _).mono ?_
  rintro e w1 ⟨b, rfl, n0, l0, hb1⟩
  have HL := Lib.hid l0
  have HB := Lib.hid hb1
  clear l0 hb1 n0
  go_wp2
  go_loop [4] (fun i => ∃ k : Nat, k ≤ 10 ∧ i = .int .i64 k ∧ Hid (∀ j, j < k → ¬ (classes[j]!.lo ≤ x ∧ x ≤ classes[j]!.hi))) (fun i => 10 - (intOf i).toNat)
  case atStart => exact ⟨0, Nat.zero_le _, rfl, fun j hj => absurd hj (Nat.not_lt_zero _)⟩
  case round =>
    obtain ⟨k, hk, rfl, A⟩ := hrel
    by_cases hlt : k < 10
    · have hkz : (k : Int) < 10 := by omega
      obtain ⟨e0, e1, e2, e3⟩ := rowCl HL.out k hlt classes[k]! rfl
      have hrow := class_rows classes[k]! (by rw [getElem!_pos classes k hlt]; exact List.getElem_mem hlt)
      generalize hy : classes[k]! = y at e0 e1 e2 e3 hrow
      obtain ⟨v0, v1, v2, v3⟩ := y
      have HY := Lib.hid hy
      clear hy
      simp only at e0 e1 e2 e3 hrow
      by_cases h1 : v0 ≤ x
      · by_cases h2 : x ≤ v1
        · have H12 := Lib.hid (And.intro h1 h2)
          obtain ⟨g0, g1, g2, g3, g4, g5, g6⟩ := hrow
          go_wp2
          go_quiet (fail)
          go_wp2
          go_ret
          refine ⟨?_, below_drewN HB.out _⟩
          unfold clsOf classOf
          rw [seek_hit x classes_rise k hlt (by rw [HY.out]; exact H12.out.1) (by rw [HY.out]; exact H12.out.2), HY.out]
          have hm : 0 ≤ v3 * (x - v0) ∧ v3 * (x - v0) ≤ 65535 := by
            have := H12.out
            rcases (show v3 = 0 ∨ v3 = 1 by omega) with rfl | rfl
            · simp
            · omega
          show Ending.returned (.int .i64 (wrap64 (v2 + wrap64 (v3 * (x - v0))))) = _
          rw [IntWalk.wrap64_in (v3 * (x - v0)) (by omega), IntWalk.wrap64_in _ (by omega)]
        · have H2 := Lib.hid h2
          have h2' : decide (x ≤ v1) = false := by simpa using h2
          clear hrow
          go_wp2
          exact ⟨⟨k + 1, by omega, by go_num, Lib.hid (step_no (q := fun y => y.lo ≤ x ∧ x ≤ y.hi) A.out HY.out (fun h => H2.out h.2))⟩, by simp [intOf]; omega⟩
      · have H1 := Lib.hid h1
        have h1' : decide (v0 ≤ x) = false := by simpa using h1
        clear hrow
        go_wp2
        exact ⟨⟨k + 1, by omega, by go_num, Lib.hid (step_no (q := fun y => y.lo ≤ x ∧ x ≤ y.hi) A.out HY.out (fun h => H1.out h.1))⟩, by simp [intOf]; omega⟩
    · have hkz : ¬ (k : Int) < 10 := by omega
      go_wp2
      go_ret
      refine ⟨?_, HB.out⟩
      unfold clsOf classOf
      rw [seek_miss x (fun j hj => A.out j (by have : classes.length = 10 := rfl; omega))]
      rfl
theorem wide_not (x : Int) (h : wideOf x = true) : splitOf x = some ⟨x, x - 65248, 0, true, true⟩ := by
  unfold splitOf
  cases hr : rowOf x with
  | none => simp [h]
  | some y =>
    exfalso
    obtain ⟨hy, h1, h2⟩ := seek_some hr
    have : ∀ y ∈ splits, y.rune < 65281 ∨ 65374 < y.rune := by decide +kernel
    have := this y hy
    simp only [wideOf, Bool.and_eq_true, decide_eq_true_eq] at h
    omega
end Go.Proofs.Ytoekkiodhbejpaa
