/-
  Proved here: what norm.Order compares by: the classes of two characters. Conditions: the table is one that New made, and lies where the closure looks for it.
-/
import Derived.Test.YtpmcmbkilcpleaaSortSwap
import Derived.Test.YtpmcmbkilcpleaaSmall
import Derived.Deep.RegionWith
namespace Go.Proofs.Ytpmcmbkilcpleaa
open Go.RowKit Utf
/-- The order of two numbers. -/
def cmp3 (a b : Int) : Int := if a < b then -1 else if b < a then 1 else 0
theorem cmp3_lt {a b : Int} (h : a < b) : cmp3 a b = -1 := by unfold cmp3; rw [if_pos h]
theorem cmp3_ge {a b : Int} (h : b ≤ a) : 0 ≤ cmp3 a b := by unfold cmp3; rw [if_neg (by omega)]; split <;> omega
theorem cmp3_le (a b : Int) : -1 ≤ cmp3 a b ∧ cmp3 a b ≤ 1 := by unfold cmp3; split <;> (try split) <;> omega
set_option maxHeartbeats 400000 in
theorem isNaN_any (a : Int) (w : World) : Calls Try.prog 52 #[.int .i64 a] w fun e w' => e = .returned (.bool false) ∧ w = w' := by
  go_enter Try.func52, Try.ntmps52
  go_wp2
  go_ret
  exact ⟨by simp, rfl⟩
set_option maxHeartbeats 400000 in
theorem compare_any (a b : Int) (w : World) : Calls Try.prog 34 #[.int .i64 a, .int .i64 b] w fun e w' => e = .returned (.int .i64 (cmp3 a b)) ∧ w = w' := by
  rcases (show a < b ∨ b < a ∨ a = b by omega) with h | h | rfl
  · rw [cmp3_lt h]
    go_enter Try.func34, Try.ntmps34
    go_wp2_with (go_at_call 52; refine (isNaN_any _ _).mono ?_; rintro e w1 ⟨rfl, rfl⟩)
    go_ret
    exact ⟨rfl, rfl⟩
  · rw [show cmp3 a b = 1 by unfold cmp3; rw [if_neg (by omega), if_pos h]]
    have h1 : ¬ a < b := by omega
    go_enter Try.func34, Try.ntmps34
    go_wp2_with (go_at_call 52; refine (isNaN_any _ _).mono ?_; rintro e w1 ⟨rfl, rfl⟩)
    go_ret
    exact ⟨rfl, rfl⟩
  · rw [show cmp3 a a = 0 by unfold cmp3; rw [if_neg (by omega), if_neg (by omega)]]
    go_enter Try.func34, Try.ntmps34
    go_wp2_with (go_at_call 52; refine (isNaN_any _ _).mono ?_; rintro e w1 ⟨rfl, rfl⟩)
    go_ret
    exact ⟨rfl, rfl⟩
/-- A table that New made lies in block bt. -/
def Boxed (bt : Nat) (w : World) : Prop := ∃ b0 b1 b2 b3, Table w (.agg #[.slice (some ⟨b0, 0, none⟩) 74 74, .slice (some ⟨b1, 0, none⟩) 10 10, .slice (some ⟨b2, 0, none⟩) 11 11, .slice (some ⟨b3, 0, none⟩) 42 42]) ∧ bt < w.heap.size ∧
  w.cell? ⟨bt, 0, none⟩ = some (.slice (some ⟨b0, 0, none⟩) 74 74) ∧ w.cell? ⟨bt, 1, none⟩ = some (.slice (some ⟨b1, 0, none⟩) 10 10) ∧ w.cell? ⟨bt, 2, none⟩ = some (.slice (some ⟨b2, 0, none⟩) 11 11) ∧ w.cell? ⟨bt, 3, none⟩ = some (.slice (some ⟨b3, 0, none⟩) 42 42)
theorem Boxed.keep {bt : Nat} {w w' : World} (h : Boxed bt w) (hb : Below w.heap.size w w') : Boxed bt w' := by
  obtain ⟨b0, b1, b2, b3, hT, hl, c0, c1, c2, c3⟩ := h
  exact ⟨b0, b1, b2, b3, hT.below hb, Nat.lt_of_lt_of_le hl hb.size, (hb.cell (p := ⟨bt, 0, none⟩) hl).trans c0, (hb.cell (p := ⟨bt, 1, none⟩) hl).trans c1, (hb.cell (p := ⟨bt, 2, none⟩) hl).trans c2, (hb.cell (p := ⟨bt, 3, none⟩) hl).trans c3⟩
set_option maxHeartbeats 2000000 in
set_option maxRecDepth 100000 in
theorem byClass_any (bt : Nat) (x y : Int) (w : World) (hB : Boxed bt w) :
    Calls Try.prog 33 #[.int .i32 x, .int .i32 y, .pointer (some ⟨bt, 0, none⟩)] w fun e w' => e = .returned (.int .i64 (cmp3 (clsOf x) (clsOf y))) ∧ Below w.heap.size w w' := by
  obtain ⟨b0, b1, b2, b3, hT, hl, c0, c1, c2, c3⟩ := hB
  have KX := Lib.hid (fun W (h : Below w.heap.size w W) => class_any _ x W (hT.below h))
  have KY := Lib.hid (fun W (h : Below w.heap.size w W) => class_any _ y W (hT.below h))
  generalize clsOf x = cx at KX ⊢
  generalize clsOf y = cy at KY ⊢
  clear hT
  go_enter Try.func33, Try.ntmps33
  go_wp2
  go_region_with (first
    | (go_at_call 25; ((with_reducible refine (KX.out _ (Below.refl _ w).drew).mono ?_); rintro e w1 ⟨rfl, hb1⟩; have B1 := Lib.hid (below_of_drew hb1); have hl1 := Nat.lt_of_lt_of_le hl B1.out.size; have d0 := (B1.out.cell (p := ⟨bt, 0, none⟩) hl).trans c0; have d1 := (B1.out.cell (p := ⟨bt, 1, none⟩) hl).trans c1; have d2 := (B1.out.cell (p := ⟨bt, 2, none⟩) hl).trans c2; have d3 := (B1.out.cell (p := ⟨bt, 3, none⟩) hl).trans c3; clear hb1 c0 c1 c2 c3 hl))
    | (go_at_call 25; ((with_reducible refine (KY.out _ B1.out).mono ?_); rintro e w2 ⟨rfl, hb2⟩; have B2 := Lib.hid (below_then B1.out hb2); clear hb2))
    | (go_at_call 34; ((with_reducible refine (compare_any _ _ _).mono ?_); rintro e w3 ⟨rfl, rfl⟩)))
  all_goals
    go_wp2
    go_ret
    exact ⟨rfl, B2.out⟩
end Go.Proofs.Ytpmcmbkilcpleaa
