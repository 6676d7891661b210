/-
  Proved here: slices.Backward at a row of characters gives its places, the last one first, to every loop body that keeps what lay in memory when the loop began; how the last one ahead of a place that is not Clear joins. Conditions: the row can be read, and holds at most 1000 numbers.
-/
import Derived.RangeFuncBox
import Derived.RangeFuncCalls
import Derived.RangeFuncLeaves
import Derived.RangeFuncWrites
import Derived.Shelf.Abstract
import Derived.WalkKit
import Derived.OwnWalkIn
import Derived.TacticsInMore
import Derived.LoopNIn
import Derived.LoopIn
import Derived.Test.YtmbammhkkcnoaaaGreatCtxAll
namespace Go.Proofs.YtmbammhkkcnoaaaGreat
open Go.RowKit Go.Shelf
attribute [local go_sem] Oper.semAt_some
/-- What has come when k rounds are over. -/
def upto {α : Type} (f : Nat → α) (k : Nat) : List α := (List.range k).map f
theorem upto_succ {α : Type} (f : Nat → α) (k : Nat) : upto f (k + 1) = upto f k ++ [f k] := by simp [upto, List.range_succ]
theorem upto_length {α : Type} (f : Nat → α) (k : Nat) : (upto f k).length = k := by simp [upto]
theorem upto_mem {α : Type} (f : Nat → α) {k j : Nat} (h : j < k) : f j ∈ upto f k := List.mem_map.2 ⟨j, List.mem_range.2 h, rfl⟩
def backOf (l : List Int) (n : Nat) (j : Nat) : Nat × Int := (n - 1 - j, l[n - 1 - j]!)
set_option maxRecDepth 100000 in
set_option maxHeartbeats 2000000 in
theorem back1_in (F : Fence) (n : Nat) (hF : F.fn 173) (hro : F.round = none) (hn : 1 ≤ n) (l Bs n₀ : Nat) (ad : Addr) (len cap : Nat) (zs : List Int) (hlen : len ≤ 1000) (hBn : Bs < n₀) (hb : ad.block < n₀) (J Jx : List (Nat × Int) → World → Prop)
    (hY : ∀ pre x W, J pre W → pre.length < len → YieldAt F (n - 1) Tryz.prog l #[.int .i64 (x.1 : Int), .int .i32 x.2] W fun e W' =>
      (e = .returned (.bool true) ∧ J (pre ++ [x]) W' ∧ Below n₀ W W') ∨ (e = .returned (.bool false) ∧ Jx (pre ++ [x]) W'))
    (W : World) (hBs : W.cell? ⟨Bs, 0, none⟩ = some (.slice (some ad) len cap)) (hc : ∀ j, j < len → W.cell? (ad.add j) = some (.int .i32 zs[j]!)) (h0 : J [] W) :
    CallsIn F n Tryz.prog 173 #[.func (.yield l) #[] #[], .pointer (some ⟨Bs, 0, none⟩)] W fun e W' => (∃ v, e = .returned v) ∧
      ((∃ ys, ys = upto (backOf zs len) len ∧ J ys W') ∨ (∃ pre, (∃ k, k ≤ len ∧ pre = upto (backOf zs len) k) ∧ Jx pre W')) := by
  refine callsIn_of_wp Tryz.func173 rfl hF ?_ hro
  simp only [Tryz.ntmps173, List.size_toArray, List.length_cons, List.length_nil, Nat.reduceAdd, Nat.reduceSub, Array.replicate_succ, Array.replicate_zero, List.push_toArray, List.append_toArray, List.nil_append, List.cons_append]
  have HC := Lib.hid hc
  have HBs := Lib.hid hBs
  have hl1 : (0 : Int) ≤ (len : Int) := by omega
  have hl2 : (len : Int) ≤ 1000 := by omega
  clear hc
  gi_wp2
  clear hBs
  gi_loopw [3] (fun i wr => ∃ m : Nat, m ≤ len ∧ i = .int .i64 ((m : Int) - 1) ∧ J (upto (backOf zs len) (len - m)) wr ∧ Below n₀ W wr)
    (fun i _ => (intOf i + 1).toNat)
  case atStart => exact ⟨len, Nat.le_refl _, rfl, by rw [Nat.sub_self]; exact h0, Below.refl _ _⟩
  case round =>
    obtain ⟨m, hm, rfl, hJs, hnx⟩ := hrel
    cases m with
    | zero =>
      gi_wp2
      go_end0
      exact ⟨⟨_, rfl⟩, .inl ⟨_, rfl, hJs⟩⟩
    | succ m =>
      rw [show ((m + 1 : Nat) : Int) - 1 = (m : Int) by omega]
      have hlt : m < len := by omega
      have hx := (hnx.cell (p := ad.add m) (by rw [add_block]; exact hb)).trans (HC.out m hlt)
      have hs := (hnx.cell (p := ⟨Bs, 0, none⟩) hBn).trans HBs.out
      obtain ⟨x, hxe⟩ : ∃ x, x = zs[m]! := ⟨_, rfl⟩
      rw [← hxe] at hx
      obtain ⟨fn, tmps, assign, body, hy, hR⟩ := hY _ (m, x) wr hJs (by rw [upto_length]; omega)
      dsimp only at hy
      have e1 : backOf zs len (len - (m + 1)) = (m, x) := by
        unfold backOf
        rw [show len - 1 - (len - (m + 1)) = m by omega, hxe]
      have E1 := Lib.hid e1
      clear e1 hxe
      have hmz : (m : Int) < (len : Int) := by omega
      gi_wp2
      refine hR.mono ?_
      rintro e W3 (⟨rfl, hJ3, hk3⟩ | ⟨rfl, hJx3⟩)
      · gi_wp2
        go_roundw
        case rel => exact ⟨m, by omega, by simp, by rw [show len - m = len - (m + 1) + 1 by omega, upto_succ, E1.out]; exact hJ3, hnx.trans hk3⟩
        case measure => simp [intOf]
      · gi_wp2
        refine bodyPost_ret (results_none rfl _ _ _) rfl ?_
        exact ⟨⟨_, rfl⟩, .inr ⟨_, ⟨len - (m + 1) + 1, by omega, by rw [upto_succ, E1.out]⟩, hJx3⟩⟩
set_option maxHeartbeats 1000000 in
theorem back_in (F : Fence) (n : Nat) (hF : F.fn 160) (hro : F.round = none) (a : Option Addr) (len cap : Nat) (w : World) :
    CallsIn F n Tryz.prog 160 #[.slice a len cap] w fun e w' => e = .returned (.func (.func 173) #[] #[.pointer (some ⟨w.heap.size, 0, none⟩)]) ∧ w' = w.alloc (.cells #[.slice a len cap] 51) := by
  refine callsIn_of_wp Tryz.func160 rfl hF ?_ hro
  simp only [Tryz.ntmps160, List.size_toArray, List.length_cons, List.length_nil, Nat.reduceAdd, Nat.reduceSub, Array.replicate_succ, Array.replicate_zero, List.push_toArray, List.append_toArray, List.nil_append, List.cons_append]
  gi_wp2
  go_ret
  exact ⟨rfl, rfl⟩
theorem back_stops (F : Fence) (n : Nat) (hF : F.fn 173) (hro : F.round = none) (hn : 1 ≤ n) (Bs : Nat) (ad : Addr) (len cap : Nat) (zs : List Int) (hlen : len ≤ 1000) (w : World) (hBs : Bs < w.heap.size) (hb : ad.block < w.heap.size)
    (hc : w.cell? ⟨Bs, 0, none⟩ = some (.slice (some ad) len cap)) (hcs : ∀ j, j < len → w.cell? (ad.add j) = some (.int .i32 zs[j]!)) :
    SeqStopsK F n Tryz.prog 173 #[.pointer (some ⟨Bs, 0, none⟩)] (fun x : Nat × Int => #[Value.int .i64 (x.1 : Int), Value.int .i32 x.2]) (Below w.heap.size) (fun ys => ys = upto (backOf zs len) len)
      (fun pre => ∃ k, k ≤ len ∧ pre = upto (backOf zs len) k) len w := fun l J Jx W hW _ _ hY h0 =>
  back1_in F n hF hro hn l Bs w.heap.size ad len cap zs hlen hBs hb J Jx hY W ((hW.cell (p := ⟨Bs, 0, none⟩) hBs).trans hc) (fun j hj => (hW.cell (p := ad.add j) (by rw [add_block]; exact hb)).trans (hcs j hj)) h0
theorem ahead_none {l : List Int} {k : Nat} (hk : k ≤ l.length) (h : ∀ p ∈ upto (backOf l k) k, joinOf p.2 = 3) : Ctx.ahead l k = none := by
  unfold Ctx.ahead
  rw [List.find?_eq_none]
  intro x hx
  rw [List.mem_reverse] at hx
  obtain ⟨j, hj, rfl⟩ := List.getElem_of_mem hx
  rw [List.length_take] at hj
  have := h _ (upto_mem (backOf l k) (show k - 1 - j < k by omega))
  unfold backOf at this
  rw [show k - 1 - (k - 1 - j) = j by omega] at this
  simp only at this
  rw [List.getElem_take, ← getElem!_pos l j (by omega)]
  unfold Ctx.hard
  rw [this]
  decide
theorem ahead_some {l : List Int} {k j : Nat} (hk : k ≤ l.length) (hj : j < k) (h : ∀ p ∈ upto (backOf l k) j, joinOf p.2 = 3) (hx : joinOf (backOf l k j).2 ≠ 3) : Ctx.ahead l k = some (backOf l k j).2 := by
  unfold Ctx.ahead
  have hl : (l.take k).reverse.length = k := by rw [List.length_reverse, List.length_take]; omega
  have at_ : ∀ i, i < k → (l.take k).reverse[i]! = (backOf l k i).2 := fun i hi => by
    unfold backOf
    rw [getElem!_pos _ i (by rw [hl]; exact hi), List.getElem_reverse, List.getElem_take, getElem!_pos l (k - 1 - i) (by omega)]
    congr 1
    rw [List.length_take]
    omega
  rw [← at_ j hj]
  refine find_hit Ctx.hard _ j (by rw [hl]; exact hj) (fun i hi => ?_) ?_
  · rw [at_ i (by omega)]
    unfold Ctx.hard
    rw [h _ (upto_mem _ hi)]
    decide
  · rw [at_ j hj]
    unfold Ctx.hard
    exact bne_iff_ne.2 hx
theorem KeepsOthers.below {W W' : World} (hb : Below W.heap.size W W') : KeepsOthers W W' := ⟨hb.size, fun k _ hk _ => (hb.block k (Array.getElem?_eq_some_iff.1 hk).1).trans hk⟩
set_option maxRecDepth 100000 in
set_option maxHeartbeats 4000000 in
theorem joinAhead_any (g : Nat) (t v : Value) (l : List Int) (k : Nat) (w : World) (hR : RowIs g t v l w) (hn : l.length ≤ 1000) (hk : k < l.length) :
    Calls Tryz.prog 139 #[.pointer (some ⟨g, 0, none⟩), .int .i64 k] w fun e w' => e = .returned (.int .i64 (joinsOf (Ctx.ahead l k))) ∧ Below w.heap.size w w' := by
  have HR := Lib.hid hR
  have KJ := Lib.hid (fun W (h : Below w.heap.size w W) x => join_any t x W (hR.1.below h))
  obtain ⟨b0, b1, b2, b3, A, c, rfl, rfl, hc, hg, ⟨c0, c1, c2, c3, c4⟩, hx⟩ := hR.form
  obtain ⟨ad, rfl, hb, -⟩ := hx k hk
  have HX : Hid (∀ j, j < l.length → w.cell? (ad.add j) = some (.int .i32 l[j]!)) := Lib.hid (fun j hj => by obtain ⟨ad', e, -, h⟩ := hx j hj; obtain rfl : ad = ad' := (by injection e); exact h)
  clear hR hx
  have C0 := Lib.hid (show ∀ W, Below w.heap.size w W → W.cell? ⟨g, 0, none⟩ = some (.slice (some ⟨b0, 0, none⟩) 74 74) ∧ W.cell? ⟨g, 1, none⟩ = some (.slice (some ⟨b1, 0, none⟩) 10 10) ∧ W.cell? ⟨g, 2, none⟩ = some (.slice (some ⟨b2, 0, none⟩) 11 11) ∧ W.cell? ⟨g, 3, none⟩ = some (.slice (some ⟨b3, 0, none⟩) 42 42) from fun W h => ⟨(h.cell (p := ⟨g, 0, none⟩) hg).trans c0, (h.cell (p := ⟨g, 1, none⟩) hg).trans c1, (h.cell (p := ⟨g, 2, none⟩) hg).trans c2, (h.cell (p := ⟨g, 3, none⟩) hg).trans c3⟩)
  obtain ⟨n, hnn⟩ : ∃ n, n = l.length := ⟨_, rfl⟩
  rw [← hnn] at hn hk hc c4
  have HN := Lib.hid hnn
  clear hnn
  obtain ⟨r, hr⟩ : ∃ r, r = joinsOf (Ctx.ahead l k) := ⟨_, rfl⟩
  rw [← hr]
  have HRes := Lib.hid hr
  clear hr
  have hkz : (k : Int) < (n : Int) := by omega
  have hcz : (n : Int) ≤ (c : Int) := by omega
  refine (callsIn_wide (n := 3)).1 ?_
  refine callsIn_of_wp_marks Tryz.func139 rfl trivial ?_ rfl
  simp only [Tryz.ntmps139, List.size_toArray, List.length_cons, List.length_nil, Nat.reduceAdd, Nat.reduceSub, Array.replicate_succ, Array.replicate_zero, List.push_toArray, List.append_toArray, List.nil_append, List.cons_append]
  gi_wp2_with (refine ⟨trivial, ?_⟩; gi_at_call 160; refine (back_in Fence.wide _ trivial rfl _ _ _ _).mono ?_; rintro e w' ⟨rfl, rfl⟩)
  have h1 : Below w.heap.size w (((w.alloc (.cells #[.pointer (some ⟨g, 0, none⟩)] 89)).alloc (.cells #[.int .i64 0] 3)).alloc (.cells #[.slice (some ad) k c] 51)) := below_three _ _ _ _
  have y0 : (((w.alloc (.cells #[.pointer (some ⟨g, 0, none⟩)] 89)).alloc (.cells #[.int .i64 0] 3)).alloc (.cells #[.slice (some ad) k c] 51)).cell? ⟨w.heap.size, 0, none⟩ = some (.pointer (some ⟨g, 0, none⟩)) := by go_simp
  have y1 : (((w.alloc (.cells #[.pointer (some ⟨g, 0, none⟩)] 89)).alloc (.cells #[.int .i64 0] 3)).alloc (.cells #[.slice (some ad) k c] 51)).cell? ⟨w.heap.size + 1, 0, none⟩ = some (.int .i64 0) := by go_simp
  have y2 : (((w.alloc (.cells #[.pointer (some ⟨g, 0, none⟩)] 89)).alloc (.cells #[.int .i64 0] 3)).alloc (.cells #[.slice (some ad) k c] 51)).cell? ⟨w.heap.size + 1 + 1, 0, none⟩ = some (.slice (some ad) k c) := by go_simp
  have yf : (((w.alloc (.cells #[.pointer (some ⟨g, 0, none⟩)] 89)).alloc (.cells #[.int .i64 0] 3)).alloc (.cells #[.slice (some ad) k c] 51)).frozen? ⟨w.heap.size + 1, 0, none⟩ = false := by go_simp
  obtain ⟨W0, hW0⟩ : ∃ W0, W0 = (((w.alloc (.cells #[.pointer (some ⟨g, 0, none⟩)] 89)).alloc (.cells #[.int .i64 0] 3)).alloc (.cells #[.slice (some ad) k c] 51)) := ⟨_, rfl⟩
  have hS : W0.heap.size = w.heap.size + 1 + 1 + 1 := by rw [hW0]; simp
  rw [← hW0] at h1 y0 y1 y2 yf ⊢
  clear hW0
  have hR0 := HR.out.keep h1
  have hst := back_stops Fence.wide 2 trivial rfl (by omega) (w.heap.size + 1 + 1) ad k c l (by omega) W0 (by omega) (Nat.lt_of_lt_of_le hb h1.size) y2 (fun j hj => (h1.cell (p := ad.add j) (by rw [add_block]; exact hb)).trans (HX.out j (by have := HN.out; omega)))
  refine wpIn_rangeFunc_ownG rfl (by omega) (gf := 173) (lb := #[.pointer (some ⟨w.heap.size + 1 + 1, 0, none⟩)]) rfl trivial (enters_of Tryz.func173 (by kernel_rfl) rfl)
    hst belowK_t (belowK_b (Nat.le_refl _)) (Below.refl _ _) (fun _ => rfl)
    (fun pre W => (∀ p ∈ pre, joinOf p.2 = 3) ∧ Below W0.heap.size W0 W)
    (fun c pre W => (c = .ret ∧ ∃ ini last, pre = ini ++ [last] ∧ (∀ p ∈ ini, joinOf p.2 = 3) ∧ joinOf last.2 ≠ 3 ∧ W.cell? ⟨w.heap.size + 1, 0, none⟩ = some (.int .i64 (joinOf last.2))) ∧ Below w.heap.size w W)
    (OwnFrom.and (Own.from (fun s A B row hs hg hr => hs) _) (ownFrom_below (Nat.le_refl _) (Nat.le_refl _)))
    (fun c => OwnFrom.and (Own.from (fun s A B row hs hg hr => by obtain ⟨hc, ini, last, e1, e2, e3, e4⟩ := hs; exact ⟨hc, ini, last, e1, e2, e3, Go.cell_kept e4 hg hr⟩) _) (ownFrom_below (Nat.le_refl _) (by omega)))
    ⟨by simp, Below.refl _ _⟩
    (fun x => { tmps := #[.pointer (some ⟨g, 0, none⟩), .int .i64 k, .pointer (some ⟨w.heap.size, 0, none⟩), undef, .pointer (some ⟨w.heap.size + 1, 0, none⟩), undef, .int .i32 x.2, undef, .pointer (some ⟨g, 0, none⟩), .pointer (some ⟨g, 0, none⟩), .pointer (some ⟨g, 4, none⟩), .slice (some ad) n c, .int .i64 k, .slice (some ad) k c, .func (.func 173) #[] #[.pointer (some ⟨w.heap.size + 1 + 1, 0, none⟩)], .int .i64 (x.1 : Int), .int .i32 x.2, undef, undef, undef, undef, undef, undef, undef, undef, undef], defers := [] }) ?assign ?body ?done ?stop
  case assign =>
    intro l x W K hK
    gi_wp2
    exact hK
  case body =>
    rintro l' pre ⟨p, x⟩ W ⟨hp, hB⟩ _
    have hBw := h1.trans (hB.mono h1.size)
    obtain ⟨d0, d1, d2, d3⟩ := C0.out W hBw
    have z0 := (hB.cell (p := ⟨w.heap.size, 0, none⟩) (show w.heap.size < W0.heap.size by omega)).trans y0
    have K := KJ.out W hBw x
    obtain ⟨y, hy⟩ : ∃ y, y = joinOf x := ⟨_, rfl⟩
    rw [← hy] at K
    have HY := Lib.hid hy
    have HP := Lib.hid hp
    have HB := Lib.hid hB
    have HBw := Lib.hid hBw
    have K := Lib.hid K
    have HS := Lib.hid hS
    have Y1 := Lib.hid y1
    have YF := Lib.hid yf
    have H1 := Lib.hid h1
    clear hy hp hB hBw hS y0 y1 y2 yf h1 hst hR0 c0 c1 c2 c3 c4
    by_cases h3 : y = 3
    · subst h3
      gi_wp2_with (refine ⟨trivial, ?_⟩; gi_at_call 159; refine (CallsIn.inRound l' (callsIn_wide.2 K.out)).mono ?_; rintro e w5 ⟨rfl, hb5⟩; have HB5 := Lib.hid hb5; clear hb5)
      exact ⟨(KeepsOthers.below HB5.out).from _, HB5.out.mono HB.out.size, ⟨fun q hq => (List.mem_append.1 hq).elim (HP.out q) (fun e => by simp at e; subst e; exact HY.out.symm), HB.out.trans (HB5.out.mono HB.out.size)⟩⟩
    · have e3 : (y == 3) = false := by simpa using h3
      have H3 := Lib.hid h3
      clear h3
      gi_wp2_with (refine ⟨trivial, ?_⟩; gi_at_call 159; refine (CallsIn.inRound l' (callsIn_wide.2 K.out)).mono ?_; rintro e w5 ⟨rfl, hb5⟩; have HB5 := Lib.hid hb5; clear hb5; have z1 := ((HB.out.trans (HB5.out.mono HB.out.size)).cell (p := ⟨w.heap.size + 1, 0, none⟩) (show w.heap.size + 1 < W0.heap.size by have := HS.out; omega)).trans Y1.out; have zf := ((HB.out.trans (HB5.out.mono HB.out.size)).frozen (p := ⟨w.heap.size + 1, 0, none⟩) (show w.heap.size + 1 < W0.heap.size by have := HS.out; omega)).trans YF.out)
      exact ⟨((KeepsOthers.below HB5.out).trans (KeepsOthers.setCell _ _ _)).from _, ⟨rfl, pre, (p, x), rfl, HP.out, (fun e => H3.out (HY.out.trans e)), by rw [← HY.out]; exact World.cell?_setCell_same' _ _ _ (by rw [z1]; rfl)⟩, (HBw.out.trans (HB5.out.mono HBw.out.size)).setCell (p := ⟨w.heap.size + 1, 0, none⟩) (by show w.heap.size ≤ w.heap.size + 1; omega) _⟩
  case done =>
    rintro D ys W hD rfl ⟨hne, hB⟩ hK
    have z1 := (hB.cell (p := ⟨w.heap.size + 1, 0, none⟩) (show w.heap.size + 1 < W0.heap.size by omega)).trans y1
    have zf := (hB.frozen (p := ⟨w.heap.size + 1, 0, none⟩) (show w.heap.size + 1 < W0.heap.size by omega)).trans yf
    have R : r = 0 := by rw [HRes.out, ahead_none (by have := HN.out; omega) hne]; rfl
    have hBw := h1.trans (hB.mono h1.size)
    subst R
    clear y0 y1 y2 yf c0 c1 c2 c3 c4
    gi_wp2
    have hK' := (KeepsOthers.setCell W ⟨w.heap.size + 1, 0, none⟩ (.int .i64 0)).same D _ hK rfl
    refine ⟨by simp, .inl ⟨_, _, rfl, run_takeDeferred hK', ?_⟩⟩
    have hc5 := Go.cell_kept (World.cell?_setCell_same' W ⟨w.heap.size + 1, 0, none⟩ (.int .i64 0) (by rw [z1]; rfl)) (grownBy_putObj' _ D (.deferred none)) (fun r e => by cases e; exact ⟨_, hK', rfl⟩)
    refine ⟨.int .i64 0, ?_, rfl, (hBw.setCell (p := ⟨w.heap.size + 1, 0, none⟩) (by show w.heap.size ≤ w.heap.size + 1; omega) _).trans (belowK_b (w := w) (Nat.le_refl _) _ D _ _ (by omega) hK' rfl rfl)⟩
    simp [results, Tryz.results139, go_sem, hc5]
  case stop =>
    rintro D c' pre W hD ⟨j, hj, rfl⟩ ⟨⟨rfl, ini, last, e1, e2, e3, hcr⟩, hB⟩ hK
    obtain ⟨j', rfl⟩ : ∃ j', j = j' + 1 := by
      cases j with
      | zero => simp [upto] at e1
      | succ j' => exact ⟨j', rfl⟩
    rw [upto_succ] at e1
    obtain ⟨rfl, e5⟩ := List.append_inj' e1 rfl
    obtain rfl : backOf l k j' = last := by simpa using e5
    have R : r = joinOf (backOf l k j').2 := by rw [HRes.out, ahead_some (by have := HN.out; omega) hj e2 e3]; rfl
    subst R
    clear y0 y1 y2 yf c0 c1 c2 c3 c4 e1 e5
    gi_wp2
    refine ⟨by simp, .inl ⟨_, _, rfl, run_takeDeferred hK, ?_⟩⟩
    have hc5 := Go.cell_kept hcr (grownBy_putObj' _ D (.deferred none)) (fun r e => by cases e; exact ⟨_, hK, rfl⟩)
    refine ⟨.int .i64 (joinOf (backOf l k j').2), ?_, rfl, hB.trans (belowK_b (w := w) (Nat.le_refl _) W D _ _ (by omega) hK rfl rfl)⟩
    simp [results, Tryz.results139, go_sem, hc5]
end Go.Proofs.YtmbammhkkcnoaaaGreat
