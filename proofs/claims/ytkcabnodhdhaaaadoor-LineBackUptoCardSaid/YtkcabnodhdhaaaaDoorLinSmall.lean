/-
  Proved here: the small case of the laws of layer 16 comes out right; whether strings are short. Conditions: the library's tables are laid.
-/
import Derived.Test.YtkcabnodhdhaaaaDoorLinFeed
import Derived.Test.YtkcabnodhdhaaaaDoorLinPrint
namespace Go.Proofs.YtkcabnodhdhaaaaDoor
open Go.RowKit
/-- Feed, with what is told and left by name. -/
theorem feed_to (base B : Nat) (m0 : Int) (v : Value) (r : List UInt8) (s : ByteArray) (w : World) (hF : FAt base B m0 v r w) (hB : base ≤ B) (hbase : base ≤ w.heap.size) (hL : LT base w) (hw : Lin.wholes r = []) (hs : r.length + s.size ≤ 100000) (ts : List Lin.Fr) (r2 : List UInt8) (e1 : Lin.told m0 r s.data.toList = ts) (e2 : Lin.rest (r ++ s.data.toList) = r2) :
    Calls Tryd.prog 14 #[.pointer (some ⟨B, 0, none⟩), .string s] w fun e w' => ∃ L v', e = .returned L ∧ OwnF w.heap.size L ts w' ∧ FAt base B m0 v' r2 w' ∧ Fed B v v' w w' := by
  subst e1 e2
  exact feed_any base B m0 v r s w hF hB hbase hL hw hs
set_option maxHeartbeats 2000000 in
set_option maxRecDepth 100000 in
theorem small16_any (w : World) (hT : LTabs w) : Calls Tryd.prog 8 #[] w fun e w' => e = .returned (.bool true) ∧ Below w.heap.size w w' := by
  have HL := Lib.hid (LT.of hT)
  have K1 := Lib.hid (new_frm 4 w)
  have hmax : max (4 : Int) 0 = 4 := by decide
  rw [hmax] at K1
  clear hT hmax
  go_enter Tryd.func8, Tryd.ntmps8
  go_wp2_with fail
  refine K1.out.mono ?_
  rintro e w1 ⟨rfl, hF1, hb1⟩
  have hB1 := Lib.hid hb1
  have hs1 := hb1.size
  have K2 := Lib.hid (feed_to w.heap.size w.heap.size 4 _ [] ⟨#[97, 98, 13]⟩ w1 hF1 (Nat.le_refl _) hb1.size (HL.out.keep hb1) rfl (by decide) [] [97, 98, 13] rfl rfl)
  have HF1 := Lib.hid hF1
  clear hb1 hF1 K1
  go_wp2_with fail
  refine K2.out.mono ?_
  rintro e w2 ⟨L2, v2, rfl, hO2, hF2, hD2⟩
  have B2 := Lib.hid (hB1.out.trans (hD2.below hs1 (Nat.le_refl _) HF1.out.own.off))
  have K3 := Lib.hid (rest_any w.heap.size w.heap.size 4 v2 [97, 98, 13] w2 hF2)
  have K4 := Lib.hid (feed_to w.heap.size w.heap.size 4 v2 [97, 98, 13] ⟨#[10, 99, 10, 100, 13, 10, 97, 98, 99, 100, 101, 13, 10, 13, 13, 10, 120]⟩ w2 hF2 (Nat.le_refl _) B2.out.size (HL.out.keep B2.out) rfl (by decide) [⟨[97, 98], false, false⟩, ⟨[], false, true⟩, ⟨[], true, false⟩, ⟨[], false, true⟩] [120] rfl rfl)
  have HF2 := Lib.hid hF2
  obtain ⟨A2, p2, e2, -, -⟩ := hO2.shape
  subst e2
  clear hO2 hF2 hD2 hB1 HF1 K2 hs1
  go_wp2_with fail
  refine K3.out.mono ?_
  rintro e w2' ⟨rfl, rfl⟩
  go_wp2_with fail
  refine K4.out.mono ?_
  rintro e w3 ⟨L3, v3, rfl, hO3, hF3, hD3⟩
  have B3 := Lib.hid (B2.out.trans (hD3.below B2.out.size (Nat.le_refl _) HF2.out.own.off))
  have K5 := Lib.hid (rest_any w.heap.size w.heap.size 4 v3 [120] w3 hF3)
  have K6 := Lib.hid (most_any w.heap.size w.heap.size 4 9 v3 [120] w3 hF3)
  have HF3 := Lib.hid hF3
  have HO3 := Lib.hid hO3
  obtain ⟨A3, p3, e3, hp3, -, h3⟩ := hO3.frs
  obtain ⟨g3, o3, rfl, hg3, h3⟩ := h3 (by decide)
  subst e3
  clear hO3 hF3 hD3 B2 HF2 K3 K4 h3 
  go_wp2_with fail
  refine K5.out.mono ?_
  rintro e w3' ⟨rfl, rfl⟩
  go_wp2_with fail
  refine K6.out.mono ?_
  rintro e w4 ⟨rfl, hF4, hD4⟩
  have hmax : max (9 : Int) 0 = 9 := by decide
  rw [hmax] at hF4
  have B4 := Lib.hid (B3.out.trans (hD4.below B3.out.size (Nat.le_refl _) HF3.out.own.off))
  have O4 := Lib.hid (HO3.out.fed HF3.out hD4)
  have K7 := Lib.hid (feed_to w.heap.size w.heap.size 9 v3 [120] ⟨#[98, 99, 100, 101, 13, 10]⟩ w4 hF4 (Nat.le_refl _) B4.out.size (HL.out.keep B4.out) rfl (by decide) [⟨[120, 98, 99, 100, 101], false, false⟩] [] rfl rfl)
  have HF4 := Lib.hid hF4
  clear hF4 hD4 B3 HF3 HO3 K5 K6 hmax
  go_wp2_with fail
  refine K7.out.mono ?_
  rintro e w5 ⟨L5, v5, rfl, hO5, hF5, hD5⟩
  have B5 := Lib.hid (B4.out.trans (hD5.below B4.out.size (Nat.le_refl _) HF4.out.own.off))
  have O5 := Lib.hid (O4.out.fed HF4.out hD5)
  have K8 := Lib.hid (feed_to w.heap.size w.heap.size 9 v5 [] ⟨#[113]⟩ w5 hF5 (Nat.le_refl _) B5.out.size (HL.out.keep B5.out) rfl (by decide) [] [113] rfl rfl)
  have HF5 := Lib.hid hF5
  have P5 := Lib.hid hO5
  obtain ⟨A5, p5, e5, hp5, -, h5⟩ := hO5.frs
  obtain ⟨g5, o5, rfl, hg5, h5⟩ := h5 (by decide)
  subst e5
  clear hO5 hF5 hD5 B4 HF4 O4 K7 h5
  go_wp2_with fail
  refine K8.out.mono ?_
  rintro e w6 ⟨L6, v6, rfl, hO6, hF6, hD6⟩
  have B6 := Lib.hid (B5.out.trans (hD6.below B5.out.size (Nat.le_refl _) HF5.out.own.off))
  have O6 := Lib.hid (O5.out.fed HF5.out hD6)
  have P6 := Lib.hid (P5.out.fed HF5.out hD6)
  have K9 := Lib.hid (reset_fed w.heap.size w.heap.size 9 v6 [113] w6 hF6)
  have HF6 := Lib.hid hF6
  obtain ⟨A6, p6, e6, -, -⟩ := hO6.shape
  subst e6
  clear hO6 hF6 hD6 B5 HF5 O5 P5 K8
  go_wp2_with fail
  refine K9.out.mono ?_
  rintro e w7 ⟨rfl, hF7, hD7⟩
  have B7 := Lib.hid (B6.out.trans (hD7.below B6.out.size (Nat.le_refl _) HF6.out.own.off))
  have O7 := O6.out.fed HF6.out hD7
  have P7 := P6.out.fed HF6.out hD7
  obtain ⟨A, c, eA, -, -, h⟩ := O7.frs
  obtain ⟨g, o, rfl, hg, h⟩ := h (by decide)
  injection eA with eA _ _
  injection eA with eA
  injection eA with eg eo _
  subst eg eo
  obtain ⟨a0, a1, a2⟩ := h 0 (by decide)
  obtain ⟨b0, b1, b2⟩ := h 1 (by decide)
  obtain ⟨c0, c1, c2⟩ := h 2 (by decide)
  obtain ⟨d0, d1, d2⟩ := h 3 (by decide)
  obtain ⟨A', c', eA, -, -, h'⟩ := P7.frs
  obtain ⟨g', o', rfl, hg', h'⟩ := h' (by decide)
  injection eA with eA _ _
  injection eA with eA
  injection eA with eg eo _
  subst eg eo
  obtain ⟨x0, x1, x2⟩ := h' 0 (by decide)
  have K10 := Lib.hid (rest_any w.heap.size w.heap.size 9 _ [] w7 hF7)
  clear O6 P6 O7 P7 h h' hF7 hD7 B6 HF6 K9
  simp only [Lin.nthF, List.getD_cons_zero, List.getD_cons_succ, Nat.zero_mul, Nat.add_zero] at a0 a1 a2 b0 b1 b2 c0 c1 c2 d0 d1 d2 x0 x1 x2
  have K11 := Lib.hid (print16_any (.slice (some ⟨w7.heap.size, 0, none⟩) 2 2) [[97], []] (w7.alloc (.cells #[.string ⟨#[97]⟩, .string ⟨#[]⟩] 9)) (ownS_lit w7 w7.heap.size w7.heap.size rfl (Nat.le_refl _) [[97], []] (by decide)).strs (by decide) (by decide))
  go_wp2_with fail
  refine K10.out.mono ?_
  rintro e w7' ⟨rfl, rfl⟩
  go_wp2_with fail
  refine K11.out.mono ?_
  rintro e w8 ⟨rfl, hb8⟩
  have B8 := Lib.hid ((below_new B7.out (Nat.le_refl _) (.cells #[.string ⟨#[97]⟩, .string ⟨#[]⟩] 9)).trans (hb8.mono (by have := B7.out.size; simp; omega)))
  clear hb8 K10 K11
  go_wp2
  go_ret
  exact ⟨rfl, B8.out⟩
namespace Lin
/-- How many bytes strings have, and one more each. -/
def room : List (List UInt8) → Nat
  | [] => 0
  | x :: l => x.length + 1 + room l
theorem room_app : ∀ a b : List (List UInt8), room (a ++ b) = room a + room b
  | [], _ => by simp [room]
  | x :: a, b => by rw [List.cons_append, room, room, room_app a b]; omega
theorem room_take {l : List (List UInt8)} {k : Nat} (h : k < l.length) : room (l.take (k + 1)) = room (l.take k) + l[k]!.length + 1 := by
  rw [List.take_succ_eq_append_getElem h, room_app, getElem!_pos l k h, room, room]
  omega
theorem room_le (l : List (List UInt8)) (k : Nat) : room (l.take k) ≤ room l := by
  have := room_app (l.take k) (l.drop k)
  rw [List.take_append_drop] at this
  omega
theorem room_len : ∀ l : List (List UInt8), l.length ≤ room l
  | [] => Nat.le_refl _
  | x :: l => by have := room_len l; rw [List.length_cons, room]; omega
theorem room_print : ∀ l : List (List UInt8), (printL l).length ≤ 2 * room l
  | [] => by simp [printL, room]
  | x :: l => by have := room_print l; rw [printL, room, List.length_append]; simp; omega
end Lin
set_option maxHeartbeats 1000000 in
set_option maxRecDepth 100000 in
theorem short_any (v : Value) (l : List (List UInt8)) (most : Int) (w : World) (hv : Strs v l w) (hr : Lin.room l ≤ 2000000) : Calls Tryd.prog 9 #[v, .int .i64 most] w fun e w' => e = .returned (.bool (decide ((Lin.room l : Int) ≤ most))) ∧ w = w' := by
  obtain ⟨A, c, rfl, hc, hcell⟩ := hv.form
  have hll := Lin.room_len l
  have HC := Lib.hid hcell
  have HR := Lib.hid hr
  clear hv hcell
  generalize hlen : l.length = n at *
  have HN := Lib.hid hlen
  clear hlen
  obtain ⟨R, hRm⟩ : ∃ R, Lin.room l = R := ⟨_, rfl⟩
  rw [hRm] at hr hll ⊢
  have HRM := Lib.hid hRm
  clear hRm
  go_enter Tryd.func9, Tryd.ntmps9
  go_wp2
  go_loopg [5, 6] (n + 1) (fun gk s5 s6 wr => ∃ k m : Nat, k ≤ n ∧ m ≤ R ∧ s5 = .int .i64 m ∧ s6 = .int .i64 k ∧ n - k < gk ∧ wr = w ∧ Hid (m = Lin.room (l.take k)))
  case atStart => exact ⟨0, 0, Nat.zero_le _, Nat.zero_le _, rfl, rfl, by omega, rfl, Lib.hid rfl⟩
  case round =>
    obtain ⟨k, m, hk, hm, rfl, rfl, hg, rfl, I⟩ := hrel
    by_cases hlt : k < n
    · obtain ⟨ad, rfl, hb, hx⟩ := HC.out k hlt
      obtain ⟨x, hxe⟩ : ∃ x, x = l[k]! := ⟨_, rfl⟩
      rw [← hxe] at hx
      unfold strV at hx
      have hrt := Lin.room_take (l := l) (k := k) (by rw [HN.out]; exact hlt)
      have hle := Lin.room_le l (k + 1)
      rw [hrt, HRM.out, ← I.out, ← hxe] at hle
      have hsz : (⟨x.toArray⟩ : ByteArray).size = x.length := rfl
      have I2 : Hid (m + x.length + 1 = Lin.room (l.take (k + 1))) := Lib.hid (by rw [hrt, ← I.out, ← hxe])
      clear hrt hxe hb
      go_wp2
      go_roundg (n - k)
      case measure => omega
      case rel => exact ⟨k + 1, m + x.length + 1, by omega, by omega, by simp, by simp, by omega, rfl, I2⟩
    · obtain rfl : k = n := by omega
      have hmR : m = R := by rw [I.out, List.take_of_length_le (by rw [HN.out]; exact Nat.le_refl _), HRM.out]
      subst hmR
      go_wp2
      go_ret
      exact ⟨rfl, rfl⟩
end Go.Proofs.YtkcabnodhdhaaaaDoor
