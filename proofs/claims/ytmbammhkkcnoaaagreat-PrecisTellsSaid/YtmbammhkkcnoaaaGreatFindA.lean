/-
  Proved here: 'ucd.find' at rows of api.Range, called with a slice in which rising rows lie and with the closure that tells a row's ends, tells the row that x is in, and whether there is one. Conditions: the rows lie in memory as a block of cells and rise.
  Proved here: 'ucd.find' at rows of api.Class, called with a slice in which rising rows lie and with the closure that tells a row's ends, tells the row that x is in, and whether there is one. Conditions: the rows lie in memory as a block of cells and rise.
-/
import Derived.Test.YtmbammhkkcnoaaaGreatGround
namespace Go.Proofs.YtmbammhkkcnoaaaGreat
open Go.RowKit
def encRg (x : Rg) : List Value := [.int .i32 x.lo, .int .i32 x.hi, .int .i64 x.cat, .int .i64 x.bidi, .int .i64 x.join, .int .i64 x.script]
set_option maxHeartbeats 400000 in
theorem endsRg (v0 v1 v2 v3 v4 v5 : Int) (w : World) :
    Calls Tryz.prog 147 #[.agg #[.int .i32 v0, .int .i32 v1, .int .i64 v2, .int .i64 v3, .int .i64 v4, .int .i64 v5]] w fun e w' => e = .returned (.tuple #[.int .i32 v0, .int .i32 v1]) ∧ Below w.heap.size w w' := by
  go_enter Tryz.func147, Tryz.ntmps147
  go_wp2
  go_quiet (fail)
  go_wp2
  go_ret2
  exact ⟨rfl, below_drewN ((Below.refl _ _).alloc (Nat.le_refl _) _) _⟩
set_option maxHeartbeats 1000000 in
theorem closureRg (be br bx b n : Nat) (y : Rg) (x : Int) (i : Nat) (W : World) (hi : i < n)
    (he : W.cell? ⟨be, 0, none⟩ = some (.func (.func 147) #[] #[])) (ha : W.cell? ⟨br, 0, none⟩ = some (.slice (some ⟨b, 0, none⟩) n n)) (hx : W.cell? ⟨bx, 0, none⟩ = some (.int .i32 x))
    (hbx : bx < W.heap.size) (h0 : W.cell? ⟨b, i * 6, none⟩ = some (.int .i32 y.lo)) (h1 : W.cell? ⟨b, i * 6 + 1, none⟩ = some (.int .i32 y.hi)) (h2 : W.cell? ⟨b, i * 6 + 2, none⟩ = some (.int .i64 y.cat)) (h3 : W.cell? ⟨b, i * 6 + 3, none⟩ = some (.int .i64 y.bidi)) (h4 : W.cell? ⟨b, i * 6 + 4, none⟩ = some (.int .i64 y.join)) (h5 : W.cell? ⟨b, i * 6 + 5, none⟩ = some (.int .i64 y.script)) :
    Calls Tryz.prog 163 (#[.int .i64 i] ++ #[.pointer (some ⟨be, 0, none⟩), .pointer (some ⟨br, 0, none⟩), .pointer (some ⟨bx, 0, none⟩)]) W fun e w' => e = .returned (.bool (decide (x ≤ y.hi))) ∧ Below W.heap.size W w' := by
  obtain ⟨v0, v1, v2, v3, v4, v5⟩ := y
  have hiz : (i : Int) < (n : Int) := by omega
  have H := Lib.hid (fun W => endsRg v0 v1 v2 v3 v4 v5 W)
  go_enter Tryz.func163, Tryz.ntmps163
  go_wp2_with fail
  go_region_with ((go_at_call 147; refine (H.out _).mono ?_; rintro e w' ⟨rfl, hb⟩; have hx' : w'.cell? ⟨bx, 0, none⟩ = some (.int .i32 x) := (hb.cell (p := ⟨bx, 0, none⟩) hbx).trans hx; have HB := Lib.hid hb; clear hb))
  all_goals go_wp2
  all_goals go_ret
  all_goals exact ⟨rfl, below_of_drew HB.out⟩
def FindPostRg (rows : List Rg) (x : Int) (w : World) (e : Ending) (w' : World) : Prop :=
  e = .returned (.tuple #[.agg (encRg ((seek Rg.lo Rg.hi rows x).getD default)).toArray, .bool (seek Rg.lo Rg.hi rows x).isSome]) ∧ Below w.heap.size w w'
theorem boxesRg (b n : Nat) (x : Int) (w W0 : World)
    (hW0 : W0 = (((w.alloc (.cells #[.slice (some ⟨b, 0, none⟩) n n] 23)).alloc (.cells #[.int .i32 x] 21)).alloc (.cells #[.func (.func 147) #[] #[]] 137)).alloc (.cells #[.int .i32 0, .int .i32 0, .int .i64 0, .int .i64 0, .int .i64 0, .int .i64 0] 69)) :
    W0.heap.size = w.heap.size + 1 + 1 + 1 + 1 ∧ Below w.heap.size w W0 ∧ W0.cell? ⟨w.heap.size, 0, none⟩ = some (.slice (some ⟨b, 0, none⟩) n n) ∧ W0.cell? ⟨w.heap.size + 1, 0, none⟩ = some (.int .i32 x) ∧ W0.cell? ⟨w.heap.size + 1 + 1, 0, none⟩ = some (.func (.func 147) #[] #[]) ∧
    (∀ o, W0.frozen? ⟨w.heap.size + 1 + 1 + 1, o, none⟩ = false) ∧ W0.cell? ⟨w.heap.size + 1 + 1 + 1, 0, none⟩ = some (.int .i32 0) ∧ W0.cell? ⟨w.heap.size + 1 + 1 + 1, 1, none⟩ = some (.int .i32 0) ∧ W0.cell? ⟨w.heap.size + 1 + 1 + 1, 2, none⟩ = some (.int .i64 0) ∧ W0.cell? ⟨w.heap.size + 1 + 1 + 1, 3, none⟩ = some (.int .i64 0) ∧ W0.cell? ⟨w.heap.size + 1 + 1 + 1, 4, none⟩ = some (.int .i64 0) ∧ W0.cell? ⟨w.heap.size + 1 + 1 + 1, 5, none⟩ = some (.int .i64 0) := by
  subst hW0
  refine ⟨by simp, ((((Below.refl _ w).alloc (Nat.le_refl _) _).alloc (by simp) _).alloc (by simp; omega) _).alloc (by simp; omega) _, ?_, ?_, ?_, ?_, ?_, ?_, ?_, ?_, ?_, ?_⟩ <;> first | (go_simp; done) | (intro o; go_simp; done)
theorem belowRg {B S : Nat} {a w : World} (h : Below B a w) (hS : B ≤ S) (u0 u1 u2 u3 u4 u5 : Value) :
    Below B a ((((((w.setCell ⟨S, 0, none⟩ u0).setCell ⟨S, 1, none⟩ u1).setCell ⟨S, 2, none⟩ u2).setCell ⟨S, 3, none⟩ u3).setCell ⟨S, 4, none⟩ u4).setCell ⟨S, 5, none⟩ u5) :=
  ((((((h.setCell (p := ⟨S, 0, none⟩) hS u0).setCell (p := ⟨S, 1, none⟩) hS u1).setCell (p := ⟨S, 2, none⟩) hS u2).setCell (p := ⟨S, 3, none⟩) hS u3).setCell (p := ⟨S, 4, none⟩) hS u4).setCell (p := ⟨S, 5, none⟩) hS u5)
theorem boxesAtRg (b n : Nat) (x : Int) (w W0 W : World)
    (hW0 : W0 = (((w.alloc (.cells #[.slice (some ⟨b, 0, none⟩) n n] 23)).alloc (.cells #[.int .i32 x] 21)).alloc (.cells #[.func (.func 147) #[] #[]] 137)).alloc (.cells #[.int .i32 0, .int .i32 0, .int .i64 0, .int .i64 0, .int .i64 0, .int .i64 0] 69))
    (hb : Below W0.heap.size W0 W) :
    W.cell? ⟨w.heap.size, 0, none⟩ = some (.slice (some ⟨b, 0, none⟩) n n) ∧ W.cell? ⟨w.heap.size + 1, 0, none⟩ = some (.int .i32 x) ∧ W.cell? ⟨w.heap.size + 1 + 1, 0, none⟩ = some (.func (.func 147) #[] #[]) ∧
    (∀ o, W.frozen? ⟨w.heap.size + 1 + 1 + 1, o, none⟩ = false) ∧ W.cell? ⟨w.heap.size + 1 + 1 + 1, 0, none⟩ = some (.int .i32 0) ∧ W.cell? ⟨w.heap.size + 1 + 1 + 1, 1, none⟩ = some (.int .i32 0) ∧ W.cell? ⟨w.heap.size + 1 + 1 + 1, 2, none⟩ = some (.int .i64 0) ∧ W.cell? ⟨w.heap.size + 1 + 1 + 1, 3, none⟩ = some (.int .i64 0) ∧ W.cell? ⟨w.heap.size + 1 + 1 + 1, 4, none⟩ = some (.int .i64 0) ∧ W.cell? ⟨w.heap.size + 1 + 1 + 1, 5, none⟩ = some (.int .i64 0) := by
  obtain ⟨hS, -, c0, c1, c2, fz, d0, d1, d2, d3, d4, d5⟩ := boxesRg b n x w W0 hW0
  have h0 : w.heap.size < W0.heap.size := by omega
  have h1 : w.heap.size + 1 < W0.heap.size := by omega
  have h2 : w.heap.size + 1 + 1 < W0.heap.size := by omega
  have h3 : w.heap.size + 1 + 1 + 1 < W0.heap.size := by omega
  exact ⟨(hb.cell (p := ⟨w.heap.size, 0, none⟩) h0).trans c0, (hb.cell (p := ⟨w.heap.size + 1, 0, none⟩) h1).trans c1, (hb.cell (p := ⟨w.heap.size + 1 + 1, 0, none⟩) h2).trans c2,
    fun o => (hb.frozen (p := ⟨w.heap.size + 1 + 1 + 1, o, none⟩) h3).trans (fz o), (hb.cell (p := ⟨w.heap.size + 1 + 1 + 1, 0, none⟩) h3).trans d0, (hb.cell (p := ⟨w.heap.size + 1 + 1 + 1, 1, none⟩) h3).trans d1, (hb.cell (p := ⟨w.heap.size + 1 + 1 + 1, 2, none⟩) h3).trans d2, (hb.cell (p := ⟨w.heap.size + 1 + 1 + 1, 3, none⟩) h3).trans d3, (hb.cell (p := ⟨w.heap.size + 1 + 1 + 1, 4, none⟩) h3).trans d4, (hb.cell (p := ⟨w.heap.size + 1 + 1 + 1, 5, none⟩) h3).trans d5⟩
theorem rowRg {rows : List Rg} {b : Nat} {w : World} (h : Lies encRg 6 rows b w) (k : Nat) (hk : k < rows.length) (y : Rg) (hy : rows[k]! = y) :
    w.cell? ⟨b, k * 6, none⟩ = some (.int .i32 y.lo) ∧ w.cell? ⟨b, k * 6 + 1, none⟩ = some (.int .i32 y.hi) ∧ w.cell? ⟨b, k * 6 + 2, none⟩ = some (.int .i64 y.cat) ∧ w.cell? ⟨b, k * 6 + 3, none⟩ = some (.int .i64 y.bidi) ∧ w.cell? ⟨b, k * 6 + 4, none⟩ = some (.int .i64 y.join) ∧ w.cell? ⟨b, k * 6 + 5, none⟩ = some (.int .i64 y.script) := by
  have := h.2 k hk
  rw [hy] at this
  exact ⟨this 0 _ rfl, this 1 _ rfl, this 2 _ rfl, this 3 _ rfl, this 4 _ rfl, this 5 _ rfl⟩
set_option maxHeartbeats 4000000 in
set_option maxRecDepth 100000 in
theorem findRg (b n : Nat) (rows : List Rg) (x : Int) (w : World) (hn : n = rows.length) (hl : Lies encRg 6 rows b w) (hrise : rising Rg.lo Rg.hi rows = true) (hsz : n < 4611686018427387904) :
    Calls Tryz.prog 146 #[.slice (some ⟨b, 0, none⟩) n n, .int .i32 x, .func (.func 147) #[] #[]] w (FindPostRg rows x w) := by
  obtain ⟨W0, hW0⟩ : ∃ W0, W0 = (((w.alloc (.cells #[.slice (some ⟨b, 0, none⟩) n n] 23)).alloc (.cells #[.int .i32 x] 21)).alloc (.cells #[.func (.func 147) #[] #[]] 137)).alloc (.cells #[.int .i32 0, .int .i32 0, .int .i64 0, .int .i64 0, .int .i64 0, .int .i64 0] 69) := ⟨_, rfl⟩
  obtain ⟨hS, hB0, -⟩ := boxesRg b n x w W0 hW0
  have hl0 := hl.below hB0
  have eg : ∀ args w, (callFunc 163 args).run Tryz.prog w = .ok (.enter 163 args) w := enters_of Tryz.func163 (by kernel_rfl) rfl
  have hSch := search_any 163 #[.pointer (some ⟨w.heap.size + 1 + 1, 0, none⟩), .pointer (some ⟨w.heap.size, 0, none⟩), .pointer (some ⟨w.heap.size + 1, 0, none⟩)] n (fun i => decide (x ≤ rows[i]!.hi)) W0 W0 (Below.refl _ _) eg hsz
    (fun W i hb hi => by
      obtain ⟨e0, e1, e2, e3, e4, e5⟩ := rowRg (hl0.below hb) i (by omega) rows[i]! rfl
      obtain ⟨a0, a1, a2, -⟩ := boxesAtRg b n x w W0 W hW0 hb
      refine (closureRg (w.heap.size + 1 + 1) w.heap.size (w.heap.size + 1) b n rows[i]! x i W hi a2 a0 a1 (by have := hb.size; omega) e0 e1 e2 e3 e4 e5).mono fun e w' h => ⟨h.1, hb.trans (h.2.mono hb.size)⟩)
    (fun a c hac hc h => by have := rising_ends hrise a c hac (by omega); simp only [decide_eq_true_eq] at h ⊢; omega)
  have HN := Lib.hid hn
  have HS := Lib.hid hS
  have HW := Lib.hid hW0
  have HB0 := Lib.hid hB0
  have HL := Lib.hid hl0
  clear hn hS hB0 hl0 hl eg hrise
  go_enter Tryz.func146, Tryz.ntmps146
  go_wp2_with fail
  rw [← hW0]
  refine hSch.mono ?_
  rintro e w1 ⟨k, hk, k1, k2, rfl, hb1⟩
  have HK := Lib.hid (seek_at (lo := Rg.lo) (hi := Rg.hi) x rows k (by have := HN.out; omega) k1 (by rw [← HN.out]; exact k2))
  clear hSch k1 k2 hW0
  obtain ⟨a0, a1, a2, fz, d0, d1, d2, d3, d4, d5⟩ := boxesAtRg b n x w W0 w1 HW.out hb1
  by_cases hlt : k < n
  · have hkz : (k : Int) < (n : Int) := by omega
    obtain ⟨e0, e1, e2, e3, e4, e5⟩ := rowRg (HL.out.below hb1) k (by have := HN.out; omega) rows[k]! rfl
    generalize hy : rows[k]! = y at e0 e1 e2 e3 e4 e5
    obtain ⟨v0, v1, v2, v3, v4, v5⟩ := y
    have HY := Lib.hid hy
    have HB1 := Lib.hid hb1
    have H := Lib.hid (fun W => endsRg v0 v1 v2 v3 v4 v5 W)
    clear hy hb1 fz d0 d1 d2 d3 d4 d5
    go_wp2_with fail
    go_region_with ((go_at_call 147; refine (H.out _).mono ?_; rintro e w2 ⟨rfl, hb2⟩; have hb3 := HB1.out.trans ((below_of_drew hb2).mono HB1.out.size); obtain ⟨b0, b1, b2, fz, d0, d1, d2, d3, d4, d5⟩ := boxesAtRg b n x w W0 w2 HW.out hb3; obtain ⟨f0, f1, f2, f3, f4, f5⟩ := rowRg (HL.out.below hb3) k (by have := HN.out; omega) _ HY.out; have HB2 := Lib.hid hb3; have hz : w.heap.size + 1 + 1 + 1 < w2.heap.size := (by have := hb3.size; have := HS.out; omega); clear hb2 hb3 e0 e1 e2 e3 e4 e5 a0 a1 a2))
    all_goals
      by_cases hlo : v0 ≤ x
      · go_wp2
        refine bodyPost_ret (v := .tuple #[.agg #[.int .i32 v0, .int .i32 v1, .int .i64 v2, .int .i64 v3, .int .i64 v4, .int .i64 v5], .bool true]) (by simp [results, Tryz.results146, go_sem, d0, d1, d2, d3, d4, d5]) rfl ⟨?_, ?_⟩
        · rw [HK.out, if_pos (by have := HN.out; omega), HY.out, if_pos (show (Rg.mk v0 v1 v2 v3 v4 v5).lo ≤ x from hlo)]
          rfl
        · exact belowRg (HB0.out.trans (HB2.out.mono HB0.out.size)) (by omega) _ _ _ _ _ _
      · go_wp2
        refine bodyPost_ret (v := .tuple #[.agg #[.int .i32 0, .int .i32 0, .int .i64 0, .int .i64 0, .int .i64 0, .int .i64 0], .bool false]) (by simp [results, Tryz.results146, go_sem, d0, d1, d2, d3, d4, d5, hz]) rfl ⟨?_, ?_⟩
        · rw [HK.out, if_pos (by have := HN.out; omega), HY.out, if_neg (show ¬ (Rg.mk v0 v1 v2 v3 v4 v5).lo ≤ x from Int.not_le.2 hlo)]
          rfl
        · exact below_new (belowRg (HB0.out.trans (HB2.out.mono HB0.out.size)) (by omega) _ _ _ _ _ _) (Nat.le_refl _) _
  · have hkz : ¬ (k : Int) < (n : Int) := by omega
    have HB1 := Lib.hid hb1
    have hz : w.heap.size + 1 + 1 + 1 < w1.heap.size := (by have := hb1.size; have := HS.out; omega)
    clear hb1
    go_wp2
    refine bodyPost_ret (v := .tuple #[.agg #[.int .i32 0, .int .i32 0, .int .i64 0, .int .i64 0, .int .i64 0, .int .i64 0], .bool false]) (by simp [results, Tryz.results146, go_sem, d0, d1, d2, d3, d4, d5, hz]) rfl ⟨?_, ?_⟩
    · rw [HK.out, if_neg (by have := HN.out; omega)]
      rfl
    · exact below_new (belowRg (HB0.out.trans (HB1.out.mono HB0.out.size)) (by omega) _ _ _ _ _ _) (Nat.le_refl _) _
end Go.Proofs.YtmbammhkkcnoaaaGreat
namespace Go.Proofs.YtmbammhkkcnoaaaGreat
open Go.RowKit
def encCl (x : Cl) : List Value := [.int .i32 x.lo, .int .i32 x.hi, .int .i64 x.cls, .int .i64 x.step]
set_option maxHeartbeats 400000 in
theorem endsCl (v0 v1 v2 v3 : Int) (w : World) :
    Calls Tryz.prog 162 #[.agg #[.int .i32 v0, .int .i32 v1, .int .i64 v2, .int .i64 v3]] w fun e w' => e = .returned (.tuple #[.int .i32 v0, .int .i32 v1]) ∧ Below w.heap.size w w' := by
  go_enter Tryz.func162, Tryz.ntmps162
  go_wp2
  go_quiet (fail)
  go_wp2
  go_ret2
  exact ⟨rfl, below_drewN ((Below.refl _ _).alloc (Nat.le_refl _) _) _⟩
set_option maxHeartbeats 1000000 in
theorem closureCl (be br bx b n : Nat) (y : Cl) (x : Int) (i : Nat) (W : World) (hi : i < n)
    (he : W.cell? ⟨be, 0, none⟩ = some (.func (.func 162) #[] #[])) (ha : W.cell? ⟨br, 0, none⟩ = some (.slice (some ⟨b, 0, none⟩) n n)) (hx : W.cell? ⟨bx, 0, none⟩ = some (.int .i32 x))
    (hbx : bx < W.heap.size) (h0 : W.cell? ⟨b, i * 4, none⟩ = some (.int .i32 y.lo)) (h1 : W.cell? ⟨b, i * 4 + 1, none⟩ = some (.int .i32 y.hi)) (h2 : W.cell? ⟨b, i * 4 + 2, none⟩ = some (.int .i64 y.cls)) (h3 : W.cell? ⟨b, i * 4 + 3, none⟩ = some (.int .i64 y.step)) :
    Calls Tryz.prog 174 (#[.int .i64 i] ++ #[.pointer (some ⟨be, 0, none⟩), .pointer (some ⟨br, 0, none⟩), .pointer (some ⟨bx, 0, none⟩)]) W fun e w' => e = .returned (.bool (decide (x ≤ y.hi))) ∧ Below W.heap.size W w' := by
  obtain ⟨v0, v1, v2, v3⟩ := y
  have hiz : (i : Int) < (n : Int) := by omega
  have H := Lib.hid (fun W => endsCl v0 v1 v2 v3 W)
  go_enter Tryz.func174, Tryz.ntmps174
  go_wp2_with fail
  go_region_with ((go_at_call 162; refine (H.out _).mono ?_; rintro e w' ⟨rfl, hb⟩; have hx' : w'.cell? ⟨bx, 0, none⟩ = some (.int .i32 x) := (hb.cell (p := ⟨bx, 0, none⟩) hbx).trans hx; have HB := Lib.hid hb; clear hb))
  all_goals go_wp2
  all_goals go_ret
  all_goals exact ⟨rfl, below_of_drew HB.out⟩
def FindPostCl (rows : List Cl) (x : Int) (w : World) (e : Ending) (w' : World) : Prop :=
  e = .returned (.tuple #[.agg (encCl ((seek Cl.lo Cl.hi rows x).getD default)).toArray, .bool (seek Cl.lo Cl.hi rows x).isSome]) ∧ Below w.heap.size w w'
theorem boxesCl (b n : Nat) (x : Int) (w W0 : World)
    (hW0 : W0 = (((w.alloc (.cells #[.slice (some ⟨b, 0, none⟩) n n] 24)).alloc (.cells #[.int .i32 x] 21)).alloc (.cells #[.func (.func 162) #[] #[]] 147)).alloc (.cells #[.int .i32 0, .int .i32 0, .int .i64 0, .int .i64 0] 71)) :
    W0.heap.size = w.heap.size + 1 + 1 + 1 + 1 ∧ Below w.heap.size w W0 ∧ W0.cell? ⟨w.heap.size, 0, none⟩ = some (.slice (some ⟨b, 0, none⟩) n n) ∧ W0.cell? ⟨w.heap.size + 1, 0, none⟩ = some (.int .i32 x) ∧ W0.cell? ⟨w.heap.size + 1 + 1, 0, none⟩ = some (.func (.func 162) #[] #[]) ∧
    (∀ o, W0.frozen? ⟨w.heap.size + 1 + 1 + 1, o, none⟩ = false) ∧ W0.cell? ⟨w.heap.size + 1 + 1 + 1, 0, none⟩ = some (.int .i32 0) ∧ W0.cell? ⟨w.heap.size + 1 + 1 + 1, 1, none⟩ = some (.int .i32 0) ∧ W0.cell? ⟨w.heap.size + 1 + 1 + 1, 2, none⟩ = some (.int .i64 0) ∧ W0.cell? ⟨w.heap.size + 1 + 1 + 1, 3, none⟩ = some (.int .i64 0) := by
  subst hW0
  refine ⟨by simp, ((((Below.refl _ w).alloc (Nat.le_refl _) _).alloc (by simp) _).alloc (by simp; omega) _).alloc (by simp; omega) _, ?_, ?_, ?_, ?_, ?_, ?_, ?_, ?_⟩ <;> first | (go_simp; done) | (intro o; go_simp; done)
theorem belowCl {B S : Nat} {a w : World} (h : Below B a w) (hS : B ≤ S) (u0 u1 u2 u3 : Value) :
    Below B a ((((w.setCell ⟨S, 0, none⟩ u0).setCell ⟨S, 1, none⟩ u1).setCell ⟨S, 2, none⟩ u2).setCell ⟨S, 3, none⟩ u3) :=
  ((((h.setCell (p := ⟨S, 0, none⟩) hS u0).setCell (p := ⟨S, 1, none⟩) hS u1).setCell (p := ⟨S, 2, none⟩) hS u2).setCell (p := ⟨S, 3, none⟩) hS u3)
theorem boxesAtCl (b n : Nat) (x : Int) (w W0 W : World)
    (hW0 : W0 = (((w.alloc (.cells #[.slice (some ⟨b, 0, none⟩) n n] 24)).alloc (.cells #[.int .i32 x] 21)).alloc (.cells #[.func (.func 162) #[] #[]] 147)).alloc (.cells #[.int .i32 0, .int .i32 0, .int .i64 0, .int .i64 0] 71))
    (hb : Below W0.heap.size W0 W) :
    W.cell? ⟨w.heap.size, 0, none⟩ = some (.slice (some ⟨b, 0, none⟩) n n) ∧ W.cell? ⟨w.heap.size + 1, 0, none⟩ = some (.int .i32 x) ∧ W.cell? ⟨w.heap.size + 1 + 1, 0, none⟩ = some (.func (.func 162) #[] #[]) ∧
    (∀ o, W.frozen? ⟨w.heap.size + 1 + 1 + 1, o, none⟩ = false) ∧ W.cell? ⟨w.heap.size + 1 + 1 + 1, 0, none⟩ = some (.int .i32 0) ∧ W.cell? ⟨w.heap.size + 1 + 1 + 1, 1, none⟩ = some (.int .i32 0) ∧ W.cell? ⟨w.heap.size + 1 + 1 + 1, 2, none⟩ = some (.int .i64 0) ∧ W.cell? ⟨w.heap.size + 1 + 1 + 1, 3, none⟩ = some (.int .i64 0) := by
  obtain ⟨hS, -, c0, c1, c2, fz, d0, d1, d2, d3⟩ := boxesCl b n x w W0 hW0
  have h0 : w.heap.size < W0.heap.size := by omega
  have h1 : w.heap.size + 1 < W0.heap.size := by omega
  have h2 : w.heap.size + 1 + 1 < W0.heap.size := by omega
  have h3 : w.heap.size + 1 + 1 + 1 < W0.heap.size := by omega
  exact ⟨(hb.cell (p := ⟨w.heap.size, 0, none⟩) h0).trans c0, (hb.cell (p := ⟨w.heap.size + 1, 0, none⟩) h1).trans c1, (hb.cell (p := ⟨w.heap.size + 1 + 1, 0, none⟩) h2).trans c2,
    fun o => (hb.frozen (p := ⟨w.heap.size + 1 + 1 + 1, o, none⟩) h3).trans (fz o), (hb.cell (p := ⟨w.heap.size + 1 + 1 + 1, 0, none⟩) h3).trans d0, (hb.cell (p := ⟨w.heap.size + 1 + 1 + 1, 1, none⟩) h3).trans d1, (hb.cell (p := ⟨w.heap.size + 1 + 1 + 1, 2, none⟩) h3).trans d2, (hb.cell (p := ⟨w.heap.size + 1 + 1 + 1, 3, none⟩) h3).trans d3⟩
theorem rowCl {rows : List Cl} {b : Nat} {w : World} (h : Lies encCl 4 rows b w) (k : Nat) (hk : k < rows.length) (y : Cl) (hy : rows[k]! = y) :
    w.cell? ⟨b, k * 4, none⟩ = some (.int .i32 y.lo) ∧ w.cell? ⟨b, k * 4 + 1, none⟩ = some (.int .i32 y.hi) ∧ w.cell? ⟨b, k * 4 + 2, none⟩ = some (.int .i64 y.cls) ∧ w.cell? ⟨b, k * 4 + 3, none⟩ = some (.int .i64 y.step) := by
  have := h.2 k hk
  rw [hy] at this
  exact ⟨this 0 _ rfl, this 1 _ rfl, this 2 _ rfl, this 3 _ rfl⟩
set_option maxHeartbeats 4000000 in
set_option maxRecDepth 100000 in
theorem findCl (b n : Nat) (rows : List Cl) (x : Int) (w : World) (hn : n = rows.length) (hl : Lies encCl 4 rows b w) (hrise : rising Cl.lo Cl.hi rows = true) (hsz : n < 4611686018427387904) :
    Calls Tryz.prog 161 #[.slice (some ⟨b, 0, none⟩) n n, .int .i32 x, .func (.func 162) #[] #[]] w (FindPostCl rows x w) := by
  obtain ⟨W0, hW0⟩ : ∃ W0, W0 = (((w.alloc (.cells #[.slice (some ⟨b, 0, none⟩) n n] 24)).alloc (.cells #[.int .i32 x] 21)).alloc (.cells #[.func (.func 162) #[] #[]] 147)).alloc (.cells #[.int .i32 0, .int .i32 0, .int .i64 0, .int .i64 0] 71) := ⟨_, rfl⟩
  obtain ⟨hS, hB0, -⟩ := boxesCl b n x w W0 hW0
  have hl0 := hl.below hB0
  have eg : ∀ args w, (callFunc 174 args).run Tryz.prog w = .ok (.enter 174 args) w := enters_of Tryz.func174 (by kernel_rfl) rfl
  have hSch := search_any 174 #[.pointer (some ⟨w.heap.size + 1 + 1, 0, none⟩), .pointer (some ⟨w.heap.size, 0, none⟩), .pointer (some ⟨w.heap.size + 1, 0, none⟩)] n (fun i => decide (x ≤ rows[i]!.hi)) W0 W0 (Below.refl _ _) eg hsz
    (fun W i hb hi => by
      obtain ⟨e0, e1, e2, e3⟩ := rowCl (hl0.below hb) i (by omega) rows[i]! rfl
      obtain ⟨a0, a1, a2, -⟩ := boxesAtCl b n x w W0 W hW0 hb
      refine (closureCl (w.heap.size + 1 + 1) w.heap.size (w.heap.size + 1) b n rows[i]! x i W hi a2 a0 a1 (by have := hb.size; omega) e0 e1 e2 e3).mono fun e w' h => ⟨h.1, hb.trans (h.2.mono hb.size)⟩)
    (fun a c hac hc h => by have := rising_ends hrise a c hac (by omega); simp only [decide_eq_true_eq] at h ⊢; omega)
  have HN := Lib.hid hn
  have HS := Lib.hid hS
  have HW := Lib.hid hW0
  have HB0 := Lib.hid hB0
  have HL := Lib.hid hl0
  clear hn hS hB0 hl0 hl eg hrise
  go_enter Tryz.func161, Tryz.ntmps161
  go_wp2_with fail
  rw [← hW0]
  refine hSch.mono ?_
  rintro e w1 ⟨k, hk, k1, k2, rfl, hb1⟩
  have HK := Lib.hid (seek_at (lo := Cl.lo) (hi := Cl.hi) x rows k (by have := HN.out; omega) k1 (by rw [← HN.out]; exact k2))
  clear hSch k1 k2 hW0
  obtain ⟨a0, a1, a2, fz, d0, d1, d2, d3⟩ := boxesAtCl b n x w W0 w1 HW.out hb1
  by_cases hlt : k < n
  · have hkz : (k : Int) < (n : Int) := by omega
    obtain ⟨e0, e1, e2, e3⟩ := rowCl (HL.out.below hb1) k (by have := HN.out; omega) rows[k]! rfl
    generalize hy : rows[k]! = y at e0 e1 e2 e3
    obtain ⟨v0, v1, v2, v3⟩ := y
    have HY := Lib.hid hy
    have HB1 := Lib.hid hb1
    have H := Lib.hid (fun W => endsCl v0 v1 v2 v3 W)
    clear hy hb1 fz d0 d1 d2 d3
    go_wp2_with fail
    go_region_with ((go_at_call 162; refine (H.out _).mono ?_; rintro e w2 ⟨rfl, hb2⟩; have hb3 := HB1.out.trans ((below_of_drew hb2).mono HB1.out.size); obtain ⟨b0, b1, b2, fz, d0, d1, d2, d3⟩ := boxesAtCl b n x w W0 w2 HW.out hb3; obtain ⟨f0, f1, f2, f3⟩ := rowCl (HL.out.below hb3) k (by have := HN.out; omega) _ HY.out; have HB2 := Lib.hid hb3; have hz : w.heap.size + 1 + 1 + 1 < w2.heap.size := (by have := hb3.size; have := HS.out; omega); clear hb2 hb3 e0 e1 e2 e3 a0 a1 a2))
    all_goals
      by_cases hlo : v0 ≤ x
      · go_wp2
        refine bodyPost_ret (v := .tuple #[.agg #[.int .i32 v0, .int .i32 v1, .int .i64 v2, .int .i64 v3], .bool true]) (by simp [results, Tryz.results161, go_sem, d0, d1, d2, d3]) rfl ⟨?_, ?_⟩
        · rw [HK.out, if_pos (by have := HN.out; omega), HY.out, if_pos (show (Cl.mk v0 v1 v2 v3).lo ≤ x from hlo)]
          rfl
        · exact belowCl (HB0.out.trans (HB2.out.mono HB0.out.size)) (by omega) _ _ _ _
      · go_wp2
        refine bodyPost_ret (v := .tuple #[.agg #[.int .i32 0, .int .i32 0, .int .i64 0, .int .i64 0], .bool false]) (by simp [results, Tryz.results161, go_sem, d0, d1, d2, d3, hz]) rfl ⟨?_, ?_⟩
        · rw [HK.out, if_pos (by have := HN.out; omega), HY.out, if_neg (show ¬ (Cl.mk v0 v1 v2 v3).lo ≤ x from Int.not_le.2 hlo)]
          rfl
        · exact below_new (belowCl (HB0.out.trans (HB2.out.mono HB0.out.size)) (by omega) _ _ _ _) (Nat.le_refl _) _
  · have hkz : ¬ (k : Int) < (n : Int) := by omega
    have HB1 := Lib.hid hb1
    have hz : w.heap.size + 1 + 1 + 1 < w1.heap.size := (by have := hb1.size; have := HS.out; omega)
    clear hb1
    go_wp2
    refine bodyPost_ret (v := .tuple #[.agg #[.int .i32 0, .int .i32 0, .int .i64 0, .int .i64 0], .bool false]) (by simp [results, Tryz.results161, go_sem, d0, d1, d2, d3, hz]) rfl ⟨?_, ?_⟩
    · rw [HK.out, if_neg (by have := HN.out; omega)]
      rfl
    · exact below_new (belowCl (HB0.out.trans (HB1.out.mono HB0.out.size)) (by omega) _ _ _ _) (Nat.le_refl _) _
end Go.Proofs.YtmbammhkkcnoaaaGreat
