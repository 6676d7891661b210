/-
  Proved here: the document's own answers for layer 1 (splits, pairs), as functions of Go, tell what the tables say. Conditions: none.
-/
import Derived.Test.YtpmcmbkilcpleaaRef
namespace Go.Proofs.Ytpmcmbkilcpleaa
open Go.RowKit
theorem refSplitBox (w : World) {w1 : World} (hb1 : Below (w.alloc (.cells #[.int .i32 0, .int .i32 0, .int .i32 0, .bool false, .bool false] 77)).heap.size (w.alloc (.cells #[.int .i32 0, .int .i32 0, .int .i32 0, .bool false, .bool false] 77)) w1) :
    (∀ i, w1.frozen? ⟨w.heap.size, i, none⟩ = false) ∧ w1.cell? ⟨w.heap.size, 0, none⟩ = some (.int .i32 0) ∧ w1.cell? ⟨w.heap.size, 1, none⟩ = some (.int .i32 0) ∧ w1.cell? ⟨w.heap.size, 2, none⟩ = some (.int .i32 0) ∧ w1.cell? ⟨w.heap.size, 3, none⟩ = some (.bool false) ∧ w1.cell? ⟨w.heap.size, 4, none⟩ = some (.bool false) := by
  have hc : ∀ i, w1.cell? ⟨w.heap.size, i, none⟩ = _ := fun i => hb1.cell (p := ⟨w.heap.size, i, none⟩) (show w.heap.size < _ by simp)
  exact ⟨fun i => (hb1.frozen (p := ⟨w.heap.size, i, none⟩) (show w.heap.size < _ by simp)).trans (by go_simp),
    (hc 0).trans (by go_simp), (hc 1).trans (by go_simp), (hc 2).trans (by go_simp), (hc 3).trans (by go_simp), (hc 4).trans (by go_simp)⟩
theorem narrow_row (x : Int) (h : wideOf x = false) : splitOf x = rowOf x := by
  unfold splitOf
  cases rowOf x <;> simp [h]
set_option maxHeartbeats 4000000 in
theorem refSplit_any (x : Int) (w : World) : Calls Try.prog 57 #[.int .i32 x] w (TellsSp (splitOf x) w) := by
  have hw := fun W => refWide_any x W
  cases h : wideOf x with
  | true =>
    rw [wide_not x h]
    simp only [h] at hw
    have HW := Lib.hid hw
    simp only [wideOf, Bool.and_eq_true, decide_eq_true_eq] at h
    obtain ⟨h1, h2⟩ := h
    clear hw
    go_enter Try.func57, Try.ntmps57
    go_wp2_with fail
    refine (HW.out _).mono ?_
    rintro e w1 ⟨rfl, rfl⟩
    go_wp2
    refine bodyPost_ret (v := .tuple #[.agg #[.int .i32 x, .int .i32 (x - 65248), .int .i32 0, .bool true, .bool true], .bool true]) (by simp [results, Try.results57, go_sem]) rfl ⟨rfl, ?_⟩
    exact (Below.refl _ w).alloc (Nat.le_refl _) _
  | false =>
    rw [narrow_row x h]
    simp only [h] at hw
    have HW := Lib.hid hw
    clear hw h
    go_enter Try.func57, Try.ntmps57
    go_wp2_with fail
    refine (HW.out _).mono ?_
    rintro e w1 ⟨rfl, rfl⟩
    go_wp2_with fail
    refine (tabSp _).mono ?_
    rintro e w1 ⟨b, rfl, n0, l0, hb1⟩
    obtain ⟨fz, d0, d1, d2, d3, d4⟩ := refSplitBox w hb1
    have HL := Lib.hid l0
    have HB := Lib.hid (((Below.refl _ w).alloc (Nat.le_refl _) _).trans (hb1.mono (by simp)))
    have hne : b ≠ w.heap.size := by simp at n0; omega
    clear l0 hb1 n0
    go_wp2
    go_loop [5] (fun i => ∃ k : Nat, k ≤ 42 ∧ i = .int .i64 k ∧ Hid (∀ j, j < k → ¬ (splits[j]!.rune ≤ x ∧ x ≤ splits[j]!.rune))) (fun i => 42 - (intOf i).toNat)
    case atStart => exact ⟨0, Nat.zero_le _, rfl, fun j hj => absurd hj (Nat.not_lt_zero _)⟩
    case round =>
      obtain ⟨k, hk, rfl, A⟩ := hrel
      by_cases hlt : k < 42
      · have hkz : (k : Int) < 42 := by omega
        obtain ⟨e0, e1, e2, e3, e4⟩ := rowSp HL.out k hlt splits[k]! rfl
        generalize hy : splits[k]! = y at e0 e1 e2 e3 e4
        obtain ⟨v0, v1, v2, v3, v4⟩ := y
        have HY := Lib.hid hy
        clear hy
        simp only at e0 e1 e2 e3 e4
        by_cases h1 : v0 = x
        · have H1 := Lib.hid h1
          have h1' : (v0 == x) = true := by simpa using h1
          clear h1
          go_wp2
          refine bodyPost_ret (v := .tuple #[.agg #[.int .i32 v0, .int .i32 v1, .int .i32 v2, .bool v3, .bool v4], .bool true]) (by simp [results, Try.results57, go_sem, d0, d1, d2, d3, d4]) rfl ⟨?_, belowSp HB.out (Nat.le_refl _) _ _ _ _ _⟩
          unfold rowOf
          rw [seek_hit x splits_rise k hlt (by rw [HY.out]; exact Int.le_of_eq H1.out) (by rw [HY.out]; exact Int.le_of_eq H1.out.symm), HY.out]
          rfl
        · have H1 := Lib.hid h1
          have h1' : (v0 == x) = false := by simpa using h1
          clear h1
          go_wp2
          exact ⟨⟨k + 1, by omega, by go_num, Lib.hid (step_no (q := fun y => y.rune ≤ x ∧ x ≤ y.rune) A.out HY.out (fun h => H1.out (Int.le_antisymm h.1 h.2)))⟩, by simp [intOf]; omega⟩
      · have hkz : ¬ (k : Int) < 42 := by omega
        go_wp2
        refine bodyPost_ret (v := .tuple #[.agg #[.int .i32 0, .int .i32 0, .int .i32 0, .bool false, .bool false], .bool false]) (by simp [results, Try.results57, go_sem, d0, d1, d2, d3, d4]) rfl ⟨?_, belowSp HB.out (Nat.le_refl _) _ _ _ _ _⟩
        unfold rowOf
        rw [seek_miss x (fun j hj => A.out j (by have : splits.length = 42 := rfl; omega))]
        rfl
theorem step_makes {p : Sp → Bool} {rows : List Sp} {k : Nat} (A : ∀ j, j < k → p rows[j]! = false) {y : Sp} (hy : rows[k]! = y) (h : p y = false) : ∀ j, j < k + 1 → p rows[j]! = false := fun j hj => by
  by_cases e : j = k
  · subst e; rw [hy]; exact h
  · exact A j (by omega)
set_option maxRecDepth 100000 in
set_option maxHeartbeats 8000000 in
theorem refPair_any (a b : Int) (w : World) : Calls Try.prog 58 #[.int .i32 a, .int .i32 b] w (TellsRune (pairOf a b) w) := by
  go_enter Try.func58, Try.ntmps58
  go_wp2_with fail
  refine (tabSp _).mono ?_
  rintro e w1 ⟨c, rfl, n0, l0, hb1⟩
  have HL := Lib.hid l0
  have HB := Lib.hid hb1
  clear l0 hb1 n0
  go_wp2
  go_loop [7] (fun i => ∃ k : Nat, k ≤ 42 ∧ i = .int .i64 k ∧ Hid (∀ j, j < k → makes a b splits[j]! = false)) (fun i => 42 - (intOf i).toNat)
  case atStart => exact ⟨0, Nat.zero_le _, rfl, fun j hj => absurd hj (Nat.not_lt_zero _)⟩
  case round =>
    obtain ⟨k, hk, rfl, A⟩ := hrel
    by_cases hb0 : b = 0
    · have hbb : (b != 0) = false := by simpa using hb0
      have HZ := Lib.hid hb0
      clear hb0
      by_cases hlt : k < 42
      · have hkz : (k : Int) < 42 := by omega
        go_wp2
        go_ret2
        refine ⟨?_, HB.out⟩
        unfold pairOf; rw [if_pos HZ.out]
        rfl
      · have hkz : decide ((k : Int) < 42) = false := by simp; omega
        go_wp2
        go_ret2
        refine ⟨?_, HB.out⟩
        unfold pairOf; rw [if_pos HZ.out]
        rfl
    · have hbb : (b != 0) = true := by simpa using hb0
      have HZ := Lib.hid hb0
      clear hb0
      by_cases hlt : k < 42
      · have hkz : (k : Int) < 42 := by omega
        obtain ⟨e0, e1, e2, e3, e4⟩ := rowSp HL.out k hlt splits[k]! rfl
        generalize hy : splits[k]! = y at e0 e1 e2 e3 e4
        obtain ⟨v0, v1, v2, v3, v4⟩ := y
        have HY := Lib.hid hy
        clear hy
        simp only at e0 e1 e2 e3 e4
        have hm : makes a b ⟨v0, v1, v2, v3, v4⟩ = (!v3 && !v4 && (v1 == a) && (v2 == b)) := rfl
        cases v3 <;> cases v4 <;> cases h1 : (v1 == a) <;> cases h2 : (v2 == b)
        all_goals
          rw [h1, h2] at hm
          have HM := Lib.hid hm
          clear hm
          go_wp2
          first
            | exact ⟨⟨k + 1, by omega, by go_num, Lib.hid (step_makes A.out HY.out HM.out)⟩, by simp [intOf]; omega⟩
            | (go_ret2
               refine ⟨?_, HB.out⟩
               unfold pairOf; rw [if_neg HZ.out, find_hit (makes a b) splits k hlt A.out (by rw [HY.out]; exact HM.out), HY.out]
               rfl)
      · have hkz : decide ((k : Int) < 42) = false := by simp; omega
        go_wp2
        go_ret2
        refine ⟨?_, HB.out⟩
        unfold pairOf; rw [if_neg HZ.out, find_miss (makes a b) splits (fun j hj => A.out j (by have : splits.length = 42 := rfl; omega))]
        rfl
end Go.Proofs.Ytpmcmbkilcpleaa
