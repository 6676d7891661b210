/-
  Proved here: each method of ucd.Table, called on what New answers, tells what the tables say. Conditions: the table is one that New made.
-/
import Derived.Test.YtoekkiodhbejpaaTables
namespace Go.Proofs.Ytoekkiodhbejpaa
open Go.RowKit
theorem below_pair (w : World) (a b : Obj) : Below w.heap.size w ((w.alloc a).alloc b) := ((Below.refl _ w).alloc (Nat.le_refl _) _).alloc (by simp) _
set_option maxHeartbeats 2000000 in
theorem rangeOf_any (t : Value) (x : Int) (w : World) (hT : Table w t) :
    Calls Try.prog 56 #[t, .int .i32 x] w fun e w' => e = .returned (.agg (encRg ((rangeOf x).getD default)).toArray) ∧ Below w.heap.size w w' := by
  obtain ⟨b0, b1, b2, b3, rfl, l0, -, -, -⟩ := hT
  unfold rangeOf
  have hfind := fun W (h : Below w.heap.size w W) => findRg b0 74 ranges x W rfl (l0.below h) ranges_rise (by omega)
  unfold FindPostRg at hfind
  generalize seek Rg.lo Rg.hi ranges x = o at hfind ⊢
  generalize o.isSome = is at hfind
  generalize o.getD default = y at hfind ⊢
  obtain ⟨v0, v1, v2, v3, v4, v5⟩ := y
  simp only [encRg] at hfind ⊢
  have HF := Lib.hid hfind
  clear hfind l0
  go_enter Try.func56, Try.ntmps56
  go_wp2_with fail
  refine (HF.out _ (below_pair _ _ _)).mono ?_
  rintro e w1 ⟨rfl, hb1⟩
  have hz : w.heap.size + 1 < w1.heap.size := by have := hb1.size; simp at this; omega
  have hc : ∀ i, w1.cell? ⟨w.heap.size + 1, i, none⟩ = _ := fun i => hb1.cell (p := ⟨w.heap.size + 1, i, none⟩) (show w.heap.size + 1 < _ by simp)
  have d0 := (hc 0).trans (show _ = some (.int .i32 0) by go_simp)
  have d1 := (hc 1).trans (show _ = some (.int .i32 0) by go_simp)
  have d2 := (hc 2).trans (show _ = some (.int .i64 0) by go_simp)
  have d3 := (hc 3).trans (show _ = some (.int .i64 0) by go_simp)
  have d4 := (hc 4).trans (show _ = some (.int .i64 0) by go_simp)
  have d5 := (hc 5).trans (show _ = some (.int .i64 0) by go_simp)
  have fz : ∀ i, w1.frozen? ⟨w.heap.size + 1, i, none⟩ = false := fun i => (hb1.frozen (p := ⟨w.heap.size + 1, i, none⟩) (show w.heap.size + 1 < _ by simp)).trans (by go_simp)
  have HB := Lib.hid ((below_pair _ _ _).trans (hb1.mono (by simp; omega)))
  clear hc hb1
  go_wp2
  refine bodyPost_ret (v := .agg #[.int .i32 v0, .int .i32 v1, .int .i64 v2, .int .i64 v3, .int .i64 v4, .int .i64 v5]) (by simp [results, Try.results56, go_sem, d0, d1, d2, d3, d4, d5, hz]) rfl ⟨rfl, ?_⟩
  exact below_new (belowRg HB.out (by omega) _ _ _ _ _ _) (Nat.le_refl _) _
set_option maxHeartbeats 1000000 in
theorem join_any (t : Value) (x : Int) (w : World) (hT : Table w t) :
    Calls Try.prog 54 #[t, .int .i32 x] w fun e w' => e = .returned (.int .i64 (joinOf x)) ∧ Below w.heap.size w w' := by
  have hr := fun W (h : Below w.heap.size w W) => rangeOf_any t x W (hT.below h)
  obtain ⟨b0, b1, b2, b3, rfl, -, -, -, -⟩ := hT
  unfold joinOf
  generalize (rangeOf x).getD default = y at hr ⊢
  obtain ⟨v0, v1, v2, v3, v4, v5⟩ := y
  simp only [encRg] at hr ⊢
  have HF := Lib.hid hr
  clear hr
  have hfld : ∀ w, (Instr.field 61 (.agg #[.int .i32 v0, .int .i32 v1, .int .i64 v2, .int .i64 v3, .int .i64 v4, .int .i64 v5]) 4).run Try.prog w = .ok (.int .i64 v4) w := fun _ => by kernel_rfl
  go_enter Try.func54, Try.ntmps54
  go_wp2_with fail
  refine (HF.out _ ((Below.refl _ w).alloc (Nat.le_refl _) _)).mono ?_
  rintro e w1 ⟨rfl, hb1⟩
  have HB := Lib.hid (((Below.refl _ w).alloc (Nat.le_refl _) _).trans (hb1.mono (by simp)))
  clear hb1
  go_wp2
  go_ret
  exact ⟨rfl, HB.out⟩
set_option maxHeartbeats 1000000 in
theorem script_any (t : Value) (x : Int) (w : World) (hT : Table w t) :
    Calls Try.prog 48 #[t, .int .i32 x] w fun e w' => e = .returned (.int .i64 (scriptOf x)) ∧ Below w.heap.size w w' := by
  have hr := fun W (h : Below w.heap.size w W) => rangeOf_any t x W (hT.below h)
  obtain ⟨b0, b1, b2, b3, rfl, -, -, -, -⟩ := hT
  unfold scriptOf
  generalize (rangeOf x).getD default = y at hr ⊢
  obtain ⟨v0, v1, v2, v3, v4, v5⟩ := y
  simp only [encRg] at hr ⊢
  have HF := Lib.hid hr
  clear hr
  have hfld : ∀ w, (Instr.field 61 (.agg #[.int .i32 v0, .int .i32 v1, .int .i64 v2, .int .i64 v3, .int .i64 v4, .int .i64 v5]) 5).run Try.prog w = .ok (.int .i64 v5) w := fun _ => by kernel_rfl
  go_enter Try.func48, Try.ntmps48
  go_wp2_with fail
  refine (HF.out _ ((Below.refl _ w).alloc (Nat.le_refl _) _)).mono ?_
  rintro e w1 ⟨rfl, hb1⟩
  have HB := Lib.hid (((Below.refl _ w).alloc (Nat.le_refl _) _).trans (hb1.mono (by simp)))
  clear hb1
  go_wp2
  go_ret
  exact ⟨rfl, HB.out⟩
theorem class_rows : ∀ y ∈ classes, 0 ≤ y.lo ∧ y.lo ≤ y.hi ∧ y.hi ≤ 65535 ∧ 0 ≤ y.cls ∧ y.cls ≤ 255 ∧ 0 ≤ y.step ∧ y.step ≤ 1 := by decide +kernel
theorem lower_rows : ∀ y ∈ lowers, 0 ≤ y.lo ∧ y.lo ≤ y.hi ∧ y.hi ≤ 70000 ∧ -9000 ≤ y.far ∧ y.far ≤ 9000 := by decide +kernel
set_option maxHeartbeats 2000000 in
theorem class_any (t : Value) (x : Int) (w : World) (hT : Table w t) :
    Calls Try.prog 16 #[t, .int .i32 x] w fun e w' => e = .returned (.int .i64 (clsOf x)) ∧ Below w.heap.size w w' := by
  obtain ⟨b0, b1, b2, b3, rfl, -, l1, -, -⟩ := hT
  unfold clsOf classOf
  have hfind := fun W (h : Below w.heap.size w W) => findCl b1 10 classes x W rfl (l1.below h) classes_rise (by omega)
  unfold FindPostCl at hfind
  cases ho : seek Cl.lo Cl.hi classes x with
  | none =>
    rw [ho] at hfind
    simp only [encCl, Option.getD_none, Option.isSome_none] at hfind ⊢
    have HF := Lib.hid hfind
    clear hfind l1 ho
    go_enter Try.func16, Try.ntmps16
    go_wp2_with fail
    refine (HF.out _ ((Below.refl _ w).alloc (Nat.le_refl _) _)).mono ?_
    rintro e w1 ⟨rfl, hb1⟩
    have HB := Lib.hid (((Below.refl _ w).alloc (Nat.le_refl _) _).trans (hb1.mono (by simp)))
    clear hb1
    go_wp2
    go_ret
    exact ⟨rfl, below_new HB.out (Nat.le_refl _) _⟩
  | some y =>
    obtain ⟨hy, h1, h2⟩ := seek_some ho
    obtain ⟨g0, g1, g2, g3, g4, g5, g6⟩ := class_rows y hy
    rw [ho] at hfind
    obtain ⟨v0, v1, v2, v3⟩ := y
    simp only [encCl, Option.getD_some, Option.isSome_some] at hfind h1 h2 g0 g1 g2 g3 g4 g5 g6 ⊢
    have HF := Lib.hid hfind
    clear hfind l1 ho hy
    go_enter Try.func16, Try.ntmps16
    go_wp2_with fail
    refine (HF.out _ ((Below.refl _ w).alloc (Nat.le_refl _) _)).mono ?_
    rintro e w1 ⟨rfl, hb1⟩
    have HB := Lib.hid (((Below.refl _ w).alloc (Nat.le_refl _) _).trans (hb1.mono (by simp)))
    clear hb1
    go_wp2
    go_ret
    have hm : 0 ≤ v3 * (x - v0) ∧ v3 * (x - v0) ≤ 65535 := by
      rcases (show v3 = 0 ∨ v3 = 1 by omega) with rfl | rfl
      · simp
      · omega
    refine ⟨?_, below_new HB.out (Nat.le_refl _) _⟩
    show Ending.returned (.int .i64 (wrap64 (v2 + wrap64 (v3 * (x - v0))))) = _
    rw [IntWalk.wrap64_in (v3 * (x - v0)) (by omega), IntWalk.wrap64_in _ (by omega)]
theorem splitBox (w : World) (a : Obj) {w1 : World} (hb1 : Below ((w.alloc a).alloc (.cells #[.int .i32 0, .int .i32 0, .int .i32 0, .bool false, .bool false] 65)).heap.size ((w.alloc a).alloc (.cells #[.int .i32 0, .int .i32 0, .int .i32 0, .bool false, .bool false] 65)) w1) :
    w.heap.size + 1 < w1.heap.size ∧ (∀ i, w1.frozen? ⟨w.heap.size + 1, i, none⟩ = false) ∧ w1.cell? ⟨w.heap.size + 1, 0, none⟩ = some (.int .i32 0) ∧ w1.cell? ⟨w.heap.size + 1, 1, none⟩ = some (.int .i32 0) ∧ w1.cell? ⟨w.heap.size + 1, 2, none⟩ = some (.int .i32 0) ∧ w1.cell? ⟨w.heap.size + 1, 3, none⟩ = some (.bool false) ∧ w1.cell? ⟨w.heap.size + 1, 4, none⟩ = some (.bool false) := by
  have hc : ∀ i, w1.cell? ⟨w.heap.size + 1, i, none⟩ = _ := fun i => hb1.cell (p := ⟨w.heap.size + 1, i, none⟩) (show w.heap.size + 1 < _ by simp)
  exact ⟨by have := hb1.size; simp at this; omega, fun i => (hb1.frozen (p := ⟨w.heap.size + 1, i, none⟩) (show w.heap.size + 1 < _ by simp)).trans (by go_simp),
    (hc 0).trans (by go_simp), (hc 1).trans (by go_simp), (hc 2).trans (by go_simp), (hc 3).trans (by go_simp), (hc 4).trans (by go_simp)⟩
def TellsSp (o : Option Sp) (w : World) (e : Ending) (w' : World) : Prop :=
  e = .returned (.tuple #[.agg (encSp (o.getD default)).toArray, .bool o.isSome]) ∧ Below w.heap.size w w'
end Go.Proofs.Ytoekkiodhbejpaa
