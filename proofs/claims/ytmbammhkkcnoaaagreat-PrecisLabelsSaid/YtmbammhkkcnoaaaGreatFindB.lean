/-
  Proved here: 'ucd.find' at rows of api.Lower, called with a slice in which rising rows lie and with the closure that tells a row's ends, tells the row that x is in, and whether there is one. Conditions: the rows lie in memory as a block of cells and rise.
  Proved here: 'ucd.find' at rows of api.Split, called with a slice in which rising rows lie and with the closure that tells a row's ends, tells the row that x is in, and whether there is one. Conditions: the rows lie in memory as a block of cells and rise.
-/
import Derived.Test.YtmbammhkkcnoaaaGreatGround
namespace Go.Proofs.YtmbammhkkcnoaaaGreat
open Go.RowKit
def encLw (x : Lw) : List Value := [.int .i32 x.lo, .int .i32 x.hi, .int .i32 x.far]
set_option maxHeartbeats 400000 in
theorem endsLw (v0 v1 v2 : Int) (w : World) :
    Calls Tryz.prog 125 #[.agg #[.int .i32 v0, .int .i32 v1, .int .i32 v2]] w fun e w' => e = .returned (.tuple #[.int .i32 v0, .int .i32 v1]) ∧ Below w.heap.size w w' := by
  go_enter Tryz.func125, Tryz.ntmps125
  go_wp2
  go_quiet (fail)
  go_wp2
  go_ret2
  exact ⟨rfl, below_drewN ((Below.refl _ _).alloc (Nat.le_refl _) _) _⟩
set_option maxHeartbeats 1000000 in
theorem closureLw (be br bx b n : Nat) (y : Lw) (x : Int) (i : Nat) (W : World) (hi : i < n)
    (he : W.cell? ⟨be, 0, none⟩ = some (.func (.func 125) #[] #[])) (ha : W.cell? ⟨br, 0, none⟩ = some (.slice (some ⟨b, 0, none⟩) n n)) (hx : W.cell? ⟨bx, 0, none⟩ = some (.int .i32 x))
    (hbx : bx < W.heap.size) (h0 : W.cell? ⟨b, i * 3, none⟩ = some (.int .i32 y.lo)) (h1 : W.cell? ⟨b, i * 3 + 1, none⟩ = some (.int .i32 y.hi)) (h2 : W.cell? ⟨b, i * 3 + 2, none⟩ = some (.int .i32 y.far)) :
    Calls Tryz.prog 150 (#[.int .i64 i] ++ #[.pointer (some ⟨be, 0, none⟩), .pointer (some ⟨br, 0, none⟩), .pointer (some ⟨bx, 0, none⟩)]) W fun e w' => e = .returned (.bool (decide (x ≤ y.hi))) ∧ Below W.heap.size W w' := by
  obtain ⟨v0, v1, v2⟩ := y
  have hiz : (i : Int) < (n : Int) := by omega
  have H := Lib.hid (fun W => endsLw v0 v1 v2 W)
  go_enter Tryz.func150, Tryz.ntmps150
  go_wp2_with fail
  go_region_with ((go_at_call 125; refine (H.out _).mono ?_; rintro e w' ⟨rfl, hb⟩; have hx' : w'.cell? ⟨bx, 0, none⟩ = some (.int .i32 x) := (hb.cell (p := ⟨bx, 0, none⟩) hbx).trans hx; have HB := Lib.hid hb; clear hb))
  all_goals go_wp2
  all_goals go_ret
  all_goals exact ⟨rfl, below_of_drew HB.out⟩
def FindPostLw (rows : List Lw) (x : Int) (w : World) (e : Ending) (w' : World) : Prop :=
  e = .returned (.tuple #[.agg (encLw ((seek Lw.lo Lw.hi rows x).getD default)).toArray, .bool (seek Lw.lo Lw.hi rows x).isSome]) ∧ Below w.heap.size w w'
theorem boxesLw (b n : Nat) (x : Int) (w W0 : World)
    (hW0 : W0 = (((w.alloc (.cells #[.slice (some ⟨b, 0, none⟩) n n] 25)).alloc (.cells #[.int .i32 x] 21)).alloc (.cells #[.func (.func 125) #[] #[]] 118)).alloc (.cells #[.int .i32 0, .int .i32 0, .int .i32 0] 73)) :
    W0.heap.size = w.heap.size + 1 + 1 + 1 + 1 ∧ Below w.heap.size w W0 ∧ W0.cell? ⟨w.heap.size, 0, none⟩ = some (.slice (some ⟨b, 0, none⟩) n n) ∧ W0.cell? ⟨w.heap.size + 1, 0, none⟩ = some (.int .i32 x) ∧ W0.cell? ⟨w.heap.size + 1 + 1, 0, none⟩ = some (.func (.func 125) #[] #[]) ∧
    (∀ o, W0.frozen? ⟨w.heap.size + 1 + 1 + 1, o, none⟩ = false) ∧ W0.cell? ⟨w.heap.size + 1 + 1 + 1, 0, none⟩ = some (.int .i32 0) ∧ W0.cell? ⟨w.heap.size + 1 + 1 + 1, 1, none⟩ = some (.int .i32 0) ∧ W0.cell? ⟨w.heap.size + 1 + 1 + 1, 2, none⟩ = some (.int .i32 0) := by
  subst hW0
  refine ⟨by simp, ((((Below.refl _ w).alloc (Nat.le_refl _) _).alloc (by simp) _).alloc (by simp; omega) _).alloc (by simp; omega) _, ?_, ?_, ?_, ?_, ?_, ?_, ?_⟩ <;> first | (go_simp; done) | (intro o; go_simp; done)
theorem belowLw {B S : Nat} {a w : World} (h : Below B a w) (hS : B ≤ S) (u0 u1 u2 : Value) :
    Below B a (((w.setCell ⟨S, 0, none⟩ u0).setCell ⟨S, 1, none⟩ u1).setCell ⟨S, 2, none⟩ u2) :=
  (((h.setCell (p := ⟨S, 0, none⟩) hS u0).setCell (p := ⟨S, 1, none⟩) hS u1).setCell (p := ⟨S, 2, none⟩) hS u2)
theorem boxesAtLw (b n : Nat) (x : Int) (w W0 W : World)
    (hW0 : W0 = (((w.alloc (.cells #[.slice (some ⟨b, 0, none⟩) n n] 25)).alloc (.cells #[.int .i32 x] 21)).alloc (.cells #[.func (.func 125) #[] #[]] 118)).alloc (.cells #[.int .i32 0, .int .i32 0, .int .i32 0] 73))
    (hb : Below W0.heap.size W0 W) :
    W.cell? ⟨w.heap.size, 0, none⟩ = some (.slice (some ⟨b, 0, none⟩) n n) ∧ W.cell? ⟨w.heap.size + 1, 0, none⟩ = some (.int .i32 x) ∧ W.cell? ⟨w.heap.size + 1 + 1, 0, none⟩ = some (.func (.func 125) #[] #[]) ∧
    (∀ o, W.frozen? ⟨w.heap.size + 1 + 1 + 1, o, none⟩ = false) ∧ W.cell? ⟨w.heap.size + 1 + 1 + 1, 0, none⟩ = some (.int .i32 0) ∧ W.cell? ⟨w.heap.size + 1 + 1 + 1, 1, none⟩ = some (.int .i32 0) ∧ W.cell? ⟨w.heap.size + 1 + 1 + 1, 2, none⟩ = some (.int .i32 0) := by
  obtain ⟨hS, -, c0, c1, c2, fz, d0, d1, d2⟩ := boxesLw b n x w W0 hW0
  have h0 : w.heap.size < W0.heap.size := by omega
  have h1 : w.heap.size + 1 < W0.heap.size := by omega
  have h2 : w.heap.size + 1 + 1 < W0.heap.size := by omega
  have h3 : w.heap.size + 1 + 1 + 1 < W0.heap.size := by omega
  exact ⟨(hb.cell (p := ⟨w.heap.size, 0, none⟩) h0).trans c0, (hb.cell (p := ⟨w.heap.size + 1, 0, none⟩) h1).trans c1, (hb.cell (p := ⟨w.heap.size + 1 + 1, 0, none⟩) h2).trans c2,
    fun o => (hb.frozen (p := ⟨w.heap.size + 1 + 1 + 1, o, none⟩) h3).trans (fz o), (hb.cell (p := ⟨w.heap.size + 1 + 1 + 1, 0, none⟩) h3).trans d0, (hb.cell (p := ⟨w.heap.size + 1 + 1 + 1, 1, none⟩) h3).trans d1, (hb.cell (p := ⟨w.heap.size + 1 + 1 + 1, 2, none⟩) h3).trans d2⟩
theorem rowLw {rows : List Lw} {b : Nat} {w : World} (h : Lies encLw 3 rows b w) (k : Nat) (hk : k < rows.length) (y : Lw) (hy : rows[k]! = y) :
    w.cell? ⟨b, k * 3, none⟩ = some (.int .i32 y.lo) ∧ w.cell? ⟨b, k * 3 + 1, none⟩ = some (.int .i32 y.hi) ∧ w.cell? ⟨b, k * 3 + 2, none⟩ = some (.int .i32 y.far) := by
  have := h.2 k hk
  rw [hy] at this
  exact ⟨this 0 _ rfl, this 1 _ rfl, this 2 _ rfl⟩
set_option maxHeartbeats 4000000 in
set_option maxRecDepth 100000 in
theorem findLw (b n : Nat) (rows : List Lw) (x : Int) (w : World) (hn : n = rows.length) (hl : Lies encLw 3 rows b w) (hrise : rising Lw.lo Lw.hi rows = true) (hsz : n < 4611686018427387904) :
    Calls Tryz.prog 124 #[.slice (some ⟨b, 0, none⟩) n n, .int .i32 x, .func (.func 125) #[] #[]] w (FindPostLw rows x w) := by
  obtain ⟨W0, hW0⟩ : ∃ W0, W0 = (((w.alloc (.cells #[.slice (some ⟨b, 0, none⟩) n n] 25)).alloc (.cells #[.int .i32 x] 21)).alloc (.cells #[.func (.func 125) #[] #[]] 118)).alloc (.cells #[.int .i32 0, .int .i32 0, .int .i32 0] 73) := ⟨_, rfl⟩
  obtain ⟨hS, hB0, -⟩ := boxesLw b n x w W0 hW0
  have hl0 := hl.below hB0
  have eg : ∀ args w, (callFunc 150 args).run Tryz.prog w = .ok (.enter 150 args) w := enters_of Tryz.func150 (by kernel_rfl) rfl
  have hSch := search_any 150 #[.pointer (some ⟨w.heap.size + 1 + 1, 0, none⟩), .pointer (some ⟨w.heap.size, 0, none⟩), .pointer (some ⟨w.heap.size + 1, 0, none⟩)] n (fun i => decide (x ≤ rows[i]!.hi)) W0 W0 (Below.refl _ _) eg hsz
    (fun W i hb hi => by
      obtain ⟨e0, e1, e2⟩ := rowLw (hl0.below hb) i (by omega) rows[i]! rfl
      obtain ⟨a0, a1, a2, -⟩ := boxesAtLw b n x w W0 W hW0 hb
      refine (closureLw (w.heap.size + 1 + 1) w.heap.size (w.heap.size + 1) b n rows[i]! x i W hi a2 a0 a1 (by have := hb.size; omega) e0 e1 e2).mono fun e w' h => ⟨h.1, hb.trans (h.2.mono hb.size)⟩)
    (fun a c hac hc h => by have := rising_ends hrise a c hac (by omega); simp only [decide_eq_true_eq] at h ⊢; omega)
  have HN := Lib.hid hn
  have HS := Lib.hid hS
  have HW := Lib.hid hW0
  have HB0 := Lib.hid hB0
  have HL := Lib.hid hl0
  clear hn hS hB0 hl0 hl eg hrise
  go_enter Tryz.func124, Tryz.ntmps124
  go_wp2_with fail
  rw [← hW0]
  refine hSch.mono ?_
  rintro e w1 ⟨k, hk, k1, k2, rfl, hb1⟩
  have HK := Lib.hid (seek_at (lo := Lw.lo) (hi := Lw.hi) x rows k (by have := HN.out; omega) k1 (by rw [← HN.out]; exact k2))
  clear hSch k1 k2 hW0
  obtain ⟨a0, a1, a2, fz, d0, d1, d2⟩ := boxesAtLw b n x w W0 w1 HW.out hb1
  by_cases hlt : k < n
  · have hkz : (k : Int) < (n : Int) := by omega
    obtain ⟨e0, e1, e2⟩ := rowLw (HL.out.below hb1) k (by have := HN.out; omega) rows[k]! rfl
    generalize hy : rows[k]! = y at e0 e1 e2
    obtain ⟨v0, v1, v2⟩ := y
    have HY := Lib.hid hy
    have HB1 := Lib.hid hb1
    have H := Lib.hid (fun W => endsLw v0 v1 v2 W)
    clear hy hb1 fz d0 d1 d2
    go_wp2_with fail
    go_region_with ((go_at_call 125; refine (H.out _).mono ?_; rintro e w2 ⟨rfl, hb2⟩; have hb3 := HB1.out.trans ((below_of_drew hb2).mono HB1.out.size); obtain ⟨b0, b1, b2, fz, d0, d1, d2⟩ := boxesAtLw b n x w W0 w2 HW.out hb3; obtain ⟨f0, f1, f2⟩ := rowLw (HL.out.below hb3) k (by have := HN.out; omega) _ HY.out; have HB2 := Lib.hid hb3; have hz : w.heap.size + 1 + 1 + 1 < w2.heap.size := (by have := hb3.size; have := HS.out; omega); clear hb2 hb3 e0 e1 e2 a0 a1 a2))
    all_goals
      by_cases hlo : v0 ≤ x
      · go_wp2
        refine bodyPost_ret (v := .tuple #[.agg #[.int .i32 v0, .int .i32 v1, .int .i32 v2], .bool true]) (by simp [results, Tryz.results124, go_sem, d0, d1, d2]) rfl ⟨?_, ?_⟩
        · rw [HK.out, if_pos (by have := HN.out; omega), HY.out, if_pos (show (Lw.mk v0 v1 v2).lo ≤ x from hlo)]
          rfl
        · exact belowLw (HB0.out.trans (HB2.out.mono HB0.out.size)) (by omega) _ _ _
      · go_wp2
        refine bodyPost_ret (v := .tuple #[.agg #[.int .i32 0, .int .i32 0, .int .i32 0], .bool false]) (by simp [results, Tryz.results124, go_sem, d0, d1, d2, hz]) rfl ⟨?_, ?_⟩
        · rw [HK.out, if_pos (by have := HN.out; omega), HY.out, if_neg (show ¬ (Lw.mk v0 v1 v2).lo ≤ x from Int.not_le.2 hlo)]
          rfl
        · exact below_new (belowLw (HB0.out.trans (HB2.out.mono HB0.out.size)) (by omega) _ _ _) (Nat.le_refl _) _
  · have hkz : ¬ (k : Int) < (n : Int) := by omega
    have HB1 := Lib.hid hb1
    have hz : w.heap.size + 1 + 1 + 1 < w1.heap.size := (by have := hb1.size; have := HS.out; omega)
    clear hb1
    go_wp2
    refine bodyPost_ret (v := .tuple #[.agg #[.int .i32 0, .int .i32 0, .int .i32 0], .bool false]) (by simp [results, Tryz.results124, go_sem, d0, d1, d2, hz]) rfl ⟨?_, ?_⟩
    · rw [HK.out, if_neg (by have := HN.out; omega)]
      rfl
    · exact below_new (belowLw (HB0.out.trans (HB1.out.mono HB0.out.size)) (by omega) _ _ _) (Nat.le_refl _) _
end Go.Proofs.YtmbammhkkcnoaaaGreat
namespace Go.Proofs.YtmbammhkkcnoaaaGreat
open Go.RowKit
def encSp (x : Sp) : List Value := [.int .i32 x.rune, .int .i32 x.one, .int .i32 x.two, .bool x.soft, .bool x.out]
set_option maxHeartbeats 400000 in
theorem endsSp (v0 v1 v2 : Int) (v3 v4 : Bool) (w : World) :
    Calls Tryz.prog 122 #[.agg #[.int .i32 v0, .int .i32 v1, .int .i32 v2, .bool v3, .bool v4]] w fun e w' => e = .returned (.tuple #[.int .i32 v0, .int .i32 v0]) ∧ Below w.heap.size w w' := by
  go_enter Tryz.func122, Tryz.ntmps122
  go_wp2
  go_quiet (fail)
  go_wp2
  go_ret2
  exact ⟨rfl, below_drewN ((Below.refl _ _).alloc (Nat.le_refl _) _) _⟩
set_option maxHeartbeats 1000000 in
theorem closureSp (be br bx b n : Nat) (y : Sp) (x : Int) (i : Nat) (W : World) (hi : i < n)
    (he : W.cell? ⟨be, 0, none⟩ = some (.func (.func 122) #[] #[])) (ha : W.cell? ⟨br, 0, none⟩ = some (.slice (some ⟨b, 0, none⟩) n n)) (hx : W.cell? ⟨bx, 0, none⟩ = some (.int .i32 x))
    (hbx : bx < W.heap.size) (h0 : W.cell? ⟨b, i * 5, none⟩ = some (.int .i32 y.rune)) (h1 : W.cell? ⟨b, i * 5 + 1, none⟩ = some (.int .i32 y.one)) (h2 : W.cell? ⟨b, i * 5 + 2, none⟩ = some (.int .i32 y.two)) (h3 : W.cell? ⟨b, i * 5 + 3, none⟩ = some (.bool y.soft)) (h4 : W.cell? ⟨b, i * 5 + 4, none⟩ = some (.bool y.out)) :
    Calls Tryz.prog 149 (#[.int .i64 i] ++ #[.pointer (some ⟨be, 0, none⟩), .pointer (some ⟨br, 0, none⟩), .pointer (some ⟨bx, 0, none⟩)]) W fun e w' => e = .returned (.bool (decide (x ≤ y.rune))) ∧ Below W.heap.size W w' := by
  obtain ⟨v0, v1, v2, v3, v4⟩ := y
  have hiz : (i : Int) < (n : Int) := by omega
  have H := Lib.hid (fun W => endsSp v0 v1 v2 v3 v4 W)
  go_enter Tryz.func149, Tryz.ntmps149
  go_wp2_with fail
  go_region_with ((go_at_call 122; refine (H.out _).mono ?_; rintro e w' ⟨rfl, hb⟩; have hx' : w'.cell? ⟨bx, 0, none⟩ = some (.int .i32 x) := (hb.cell (p := ⟨bx, 0, none⟩) hbx).trans hx; have HB := Lib.hid hb; clear hb))
  all_goals go_wp2
  all_goals go_ret
  all_goals exact ⟨rfl, below_of_drew HB.out⟩
def FindPostSp (rows : List Sp) (x : Int) (w : World) (e : Ending) (w' : World) : Prop :=
  e = .returned (.tuple #[.agg (encSp ((seek Sp.rune Sp.rune rows x).getD default)).toArray, .bool (seek Sp.rune Sp.rune rows x).isSome]) ∧ Below w.heap.size w w'
theorem boxesSp (b n : Nat) (x : Int) (w W0 : World)
    (hW0 : W0 = (((w.alloc (.cells #[.slice (some ⟨b, 0, none⟩) n n] 26)).alloc (.cells #[.int .i32 x] 21)).alloc (.cells #[.func (.func 122) #[] #[]] 114)).alloc (.cells #[.int .i32 0, .int .i32 0, .int .i32 0, .bool false, .bool false] 60)) :
    W0.heap.size = w.heap.size + 1 + 1 + 1 + 1 ∧ Below w.heap.size w W0 ∧ W0.cell? ⟨w.heap.size, 0, none⟩ = some (.slice (some ⟨b, 0, none⟩) n n) ∧ W0.cell? ⟨w.heap.size + 1, 0, none⟩ = some (.int .i32 x) ∧ W0.cell? ⟨w.heap.size + 1 + 1, 0, none⟩ = some (.func (.func 122) #[] #[]) ∧
    (∀ o, W0.frozen? ⟨w.heap.size + 1 + 1 + 1, o, none⟩ = false) ∧ W0.cell? ⟨w.heap.size + 1 + 1 + 1, 0, none⟩ = some (.int .i32 0) ∧ W0.cell? ⟨w.heap.size + 1 + 1 + 1, 1, none⟩ = some (.int .i32 0) ∧ W0.cell? ⟨w.heap.size + 1 + 1 + 1, 2, none⟩ = some (.int .i32 0) ∧ W0.cell? ⟨w.heap.size + 1 + 1 + 1, 3, none⟩ = some (.bool false) ∧ W0.cell? ⟨w.heap.size + 1 + 1 + 1, 4, none⟩ = some (.bool false) := by
  subst hW0
  refine ⟨by simp, ((((Below.refl _ w).alloc (Nat.le_refl _) _).alloc (by simp) _).alloc (by simp; omega) _).alloc (by simp; omega) _, ?_, ?_, ?_, ?_, ?_, ?_, ?_, ?_, ?_⟩ <;> first | (go_simp; done) | (intro o; go_simp; done)
theorem belowSp {B S : Nat} {a w : World} (h : Below B a w) (hS : B ≤ S) (u0 u1 u2 u3 u4 : Value) :
    Below B a (((((w.setCell ⟨S, 0, none⟩ u0).setCell ⟨S, 1, none⟩ u1).setCell ⟨S, 2, none⟩ u2).setCell ⟨S, 3, none⟩ u3).setCell ⟨S, 4, none⟩ u4) :=
  (((((h.setCell (p := ⟨S, 0, none⟩) hS u0).setCell (p := ⟨S, 1, none⟩) hS u1).setCell (p := ⟨S, 2, none⟩) hS u2).setCell (p := ⟨S, 3, none⟩) hS u3).setCell (p := ⟨S, 4, none⟩) hS u4)
theorem boxesAtSp (b n : Nat) (x : Int) (w W0 W : World)
    (hW0 : W0 = (((w.alloc (.cells #[.slice (some ⟨b, 0, none⟩) n n] 26)).alloc (.cells #[.int .i32 x] 21)).alloc (.cells #[.func (.func 122) #[] #[]] 114)).alloc (.cells #[.int .i32 0, .int .i32 0, .int .i32 0, .bool false, .bool false] 60))
    (hb : Below W0.heap.size W0 W) :
    W.cell? ⟨w.heap.size, 0, none⟩ = some (.slice (some ⟨b, 0, none⟩) n n) ∧ W.cell? ⟨w.heap.size + 1, 0, none⟩ = some (.int .i32 x) ∧ W.cell? ⟨w.heap.size + 1 + 1, 0, none⟩ = some (.func (.func 122) #[] #[]) ∧
    (∀ o, W.frozen? ⟨w.heap.size + 1 + 1 + 1, o, none⟩ = false) ∧ W.cell? ⟨w.heap.size + 1 + 1 + 1, 0, none⟩ = some (.int .i32 0) ∧ W.cell? ⟨w.heap.size + 1 + 1 + 1, 1, none⟩ = some (.int .i32 0) ∧ W.cell? ⟨w.heap.size + 1 + 1 + 1, 2, none⟩ = some (.int .i32 0) ∧ W.cell? ⟨w.heap.size + 1 + 1 + 1, 3, none⟩ = some (.bool false) ∧ W.cell? ⟨w.heap.size + 1 + 1 + 1, 4, none⟩ = some (.bool false) := by
  obtain ⟨hS, -, c0, c1, c2, fz, d0, d1, d2, d3, d4⟩ := boxesSp b n x w W0 hW0
  have h0 : w.heap.size < W0.heap.size := by omega
  have h1 : w.heap.size + 1 < W0.heap.size := by omega
  have h2 : w.heap.size + 1 + 1 < W0.heap.size := by omega
  have h3 : w.heap.size + 1 + 1 + 1 < W0.heap.size := by omega
  exact ⟨(hb.cell (p := ⟨w.heap.size, 0, none⟩) h0).trans c0, (hb.cell (p := ⟨w.heap.size + 1, 0, none⟩) h1).trans c1, (hb.cell (p := ⟨w.heap.size + 1 + 1, 0, none⟩) h2).trans c2,
    fun o => (hb.frozen (p := ⟨w.heap.size + 1 + 1 + 1, o, none⟩) h3).trans (fz o), (hb.cell (p := ⟨w.heap.size + 1 + 1 + 1, 0, none⟩) h3).trans d0, (hb.cell (p := ⟨w.heap.size + 1 + 1 + 1, 1, none⟩) h3).trans d1, (hb.cell (p := ⟨w.heap.size + 1 + 1 + 1, 2, none⟩) h3).trans d2, (hb.cell (p := ⟨w.heap.size + 1 + 1 + 1, 3, none⟩) h3).trans d3, (hb.cell (p := ⟨w.heap.size + 1 + 1 + 1, 4, none⟩) h3).trans d4⟩
theorem rowSp {rows : List Sp} {b : Nat} {w : World} (h : Lies encSp 5 rows b w) (k : Nat) (hk : k < rows.length) (y : Sp) (hy : rows[k]! = y) :
    w.cell? ⟨b, k * 5, none⟩ = some (.int .i32 y.rune) ∧ w.cell? ⟨b, k * 5 + 1, none⟩ = some (.int .i32 y.one) ∧ w.cell? ⟨b, k * 5 + 2, none⟩ = some (.int .i32 y.two) ∧ w.cell? ⟨b, k * 5 + 3, none⟩ = some (.bool y.soft) ∧ w.cell? ⟨b, k * 5 + 4, none⟩ = some (.bool y.out) := by
  have := h.2 k hk
  rw [hy] at this
  exact ⟨this 0 _ rfl, this 1 _ rfl, this 2 _ rfl, this 3 _ rfl, this 4 _ rfl⟩
set_option maxHeartbeats 4000000 in
set_option maxRecDepth 100000 in
theorem findSp (b n : Nat) (rows : List Sp) (x : Int) (w : World) (hn : n = rows.length) (hl : Lies encSp 5 rows b w) (hrise : rising Sp.rune Sp.rune rows = true) (hsz : n < 4611686018427387904) :
    Calls Tryz.prog 121 #[.slice (some ⟨b, 0, none⟩) n n, .int .i32 x, .func (.func 122) #[] #[]] w (FindPostSp rows x w) := by
  obtain ⟨W0, hW0⟩ : ∃ W0, W0 = (((w.alloc (.cells #[.slice (some ⟨b, 0, none⟩) n n] 26)).alloc (.cells #[.int .i32 x] 21)).alloc (.cells #[.func (.func 122) #[] #[]] 114)).alloc (.cells #[.int .i32 0, .int .i32 0, .int .i32 0, .bool false, .bool false] 60) := ⟨_, rfl⟩
  obtain ⟨hS, hB0, -⟩ := boxesSp b n x w W0 hW0
  have hl0 := hl.below hB0
  have eg : ∀ args w, (callFunc 149 args).run Tryz.prog w = .ok (.enter 149 args) w := enters_of Tryz.func149 (by kernel_rfl) rfl
  have hSch := search_any 149 #[.pointer (some ⟨w.heap.size + 1 + 1, 0, none⟩), .pointer (some ⟨w.heap.size, 0, none⟩), .pointer (some ⟨w.heap.size + 1, 0, none⟩)] n (fun i => decide (x ≤ rows[i]!.rune)) W0 W0 (Below.refl _ _) eg hsz
    (fun W i hb hi => by
      obtain ⟨e0, e1, e2, e3, e4⟩ := rowSp (hl0.below hb) i (by omega) rows[i]! rfl
      obtain ⟨a0, a1, a2, -⟩ := boxesAtSp b n x w W0 W hW0 hb
      refine (closureSp (w.heap.size + 1 + 1) w.heap.size (w.heap.size + 1) b n rows[i]! x i W hi a2 a0 a1 (by have := hb.size; omega) e0 e1 e2 e3 e4).mono fun e w' h => ⟨h.1, hb.trans (h.2.mono hb.size)⟩)
    (fun a c hac hc h => by have := rising_ends hrise a c hac (by omega); simp only [decide_eq_true_eq] at h ⊢; omega)
  have HN := Lib.hid hn
  have HS := Lib.hid hS
  have HW := Lib.hid hW0
  have HB0 := Lib.hid hB0
  have HL := Lib.hid hl0
  clear hn hS hB0 hl0 hl eg hrise
  go_enter Tryz.func121, Tryz.ntmps121
  go_wp2_with fail
  rw [← hW0]
  refine hSch.mono ?_
  rintro e w1 ⟨k, hk, k1, k2, rfl, hb1⟩
  have HK := Lib.hid (seek_at (lo := Sp.rune) (hi := Sp.rune) x rows k (by have := HN.out; omega) k1 (by rw [← HN.out]; exact k2))
  clear hSch k1 k2 hW0
  obtain ⟨a0, a1, a2, fz, d0, d1, d2, d3, d4⟩ := boxesAtSp b n x w W0 w1 HW.out hb1
  by_cases hlt : k < n
  · have hkz : (k : Int) < (n : Int) := by omega
    obtain ⟨e0, e1, e2, e3, e4⟩ := rowSp (HL.out.below hb1) k (by have := HN.out; omega) rows[k]! rfl
    generalize hy : rows[k]! = y at e0 e1 e2 e3 e4
    obtain ⟨v0, v1, v2, v3, v4⟩ := y
    have HY := Lib.hid hy
    have HB1 := Lib.hid hb1
    have H := Lib.hid (fun W => endsSp v0 v1 v2 v3 v4 W)
    clear hy hb1 fz d0 d1 d2 d3 d4
    go_wp2_with fail
    go_region_with ((go_at_call 122; refine (H.out _).mono ?_; rintro e w2 ⟨rfl, hb2⟩; have hb3 := HB1.out.trans ((below_of_drew hb2).mono HB1.out.size); obtain ⟨b0, b1, b2, fz, d0, d1, d2, d3, d4⟩ := boxesAtSp b n x w W0 w2 HW.out hb3; obtain ⟨f0, f1, f2, f3, f4⟩ := rowSp (HL.out.below hb3) k (by have := HN.out; omega) _ HY.out; have HB2 := Lib.hid hb3; have hz : w.heap.size + 1 + 1 + 1 < w2.heap.size := (by have := hb3.size; have := HS.out; omega); clear hb2 hb3 e0 e1 e2 e3 e4 a0 a1 a2))
    all_goals
      by_cases hlo : v0 ≤ x
      · go_wp2
        refine bodyPost_ret (v := .tuple #[.agg #[.int .i32 v0, .int .i32 v1, .int .i32 v2, .bool v3, .bool v4], .bool true]) (by simp [results, Tryz.results121, go_sem, d0, d1, d2, d3, d4]) rfl ⟨?_, ?_⟩
        · rw [HK.out, if_pos (by have := HN.out; omega), HY.out, if_pos (show (Sp.mk v0 v1 v2 v3 v4).rune ≤ x from hlo)]
          rfl
        · exact belowSp (HB0.out.trans (HB2.out.mono HB0.out.size)) (by omega) _ _ _ _ _
      · go_wp2
        refine bodyPost_ret (v := .tuple #[.agg #[.int .i32 0, .int .i32 0, .int .i32 0, .bool false, .bool false], .bool false]) (by simp [results, Tryz.results121, go_sem, d0, d1, d2, d3, d4, hz]) rfl ⟨?_, ?_⟩
        · rw [HK.out, if_pos (by have := HN.out; omega), HY.out, if_neg (show ¬ (Sp.mk v0 v1 v2 v3 v4).rune ≤ x from Int.not_le.2 hlo)]
          rfl
        · exact below_new (belowSp (HB0.out.trans (HB2.out.mono HB0.out.size)) (by omega) _ _ _ _ _) (Nat.le_refl _) _
  · have hkz : ¬ (k : Int) < (n : Int) := by omega
    have HB1 := Lib.hid hb1
    have hz : w.heap.size + 1 + 1 + 1 < w1.heap.size := (by have := hb1.size; have := HS.out; omega)
    clear hb1
    go_wp2
    refine bodyPost_ret (v := .tuple #[.agg #[.int .i32 0, .int .i32 0, .int .i32 0, .bool false, .bool false], .bool false]) (by simp [results, Tryz.results121, go_sem, d0, d1, d2, d3, d4, hz]) rfl ⟨?_, ?_⟩
    · rw [HK.out, if_neg (by have := HN.out; omega)]
      rfl
    · exact below_new (belowSp (HB0.out.trans (HB1.out.mono HB0.out.size)) (by omega) _ _ _ _ _) (Nat.le_refl _) _
end Go.Proofs.YtmbammhkkcnoaaaGreat
