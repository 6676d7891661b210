/-
  Proved here: puny's Encode. Conditions: the slice can be read, and holds at most 300 numbers.
-/
import Derived.Test.YtkgikkdgfhonlaaPunyOwnD
namespace Go.Proofs.Ytkgikkdgfhonlaa
open Go.RowKit Utf
theorem dash_same (l : List Int) : dashOf (Puny.plainB l) = Puny.dashB l := by
  unfold dashOf Puny.dashB Puny.plainB
  rw [List.length_map]
set_option maxHeartbeats 4000000 in
set_option maxRecDepth 100000 in
theorem encodeP_no (v : Value) (l : List Int) (w : World) (hl : Runes v l w) (hn : l.length ≤ 300) (hr : rightsZ l = false) :
    Calls Try.prog 16 #[v] w (Wrote [] false w) := by
  have K := Lib.hid (plainOf_no v l w hl (by omega) hr)
  clear hl hr
  go_enter Try.func16, Try.ntmps16
  go_wp2_with fail
  refine K.out.mono ?_
  rintro e w1 ⟨rfl, hb1⟩
  have B1 := Lib.hid hb1
  clear hb1
  go_wp2
  go_ret2
  exact ⟨rfl, B1.out⟩
set_option maxHeartbeats 8000000 in
set_option maxRecDepth 100000 in
theorem encodeP_len (v : Value) (l : List Int) (w : World) (hl : Runes v l w) (hn : l.length ≤ 300) (hr : rightsZ l = true) :
    Calls Try.prog 16 #[v] w fun e w' => Wrote (Puny.encB l) true w e w' ∧ (Puny.encB l).length ≤ 200 + 40 * l.length := by
  have K := Lib.hid (plainOf_yes v l w hl (by omega) hr)
  have HRU := Lib.hid hl
  obtain ⟨A, c, rfl, -, -⟩ := hl.form
  have HR := Lib.hid hr
  have LT := Lib.hid (rights_lt hr)
  clear hl hr
  go_enter Try.func16, Try.ntmps16
  go_wp2_with fail
  refine K.out.mono ?_
  rintro e w1 ⟨v1, rfl, ho1, hb1⟩
  have hpl := plainB_len l
  have hpq : (Puny.plainB l).length = (Puny.lt 128 l).length := by unfold Puny.plainB; rw [List.length_map]
  have K2 := newWriter_any w.heap.size v1 (Puny.plainB l) w1 ho1 hb1.size (by omega)
  have B1 := Lib.hid hb1
  rw [dash_same] at K2
  obtain ⟨q, hq⟩ : ∃ q, q = (Puny.plainB l).length := ⟨_, rfl⟩
  rw [← hq] at K2 hpl hpq
  have HK2 := Lib.hid K2
  have HPQ := Lib.hid hpq
  have HQ := Lib.hid hq
  clear K K2 hpq hq hb1 ho1
  go_wp2_with fail
  refine HK2.out.mono ?_
  rintro e w2 ⟨rfl, hw2, hb2⟩
  obtain ⟨B, hBe⟩ : ∃ B, B = w1.heap.size := ⟨_, rfl⟩
  rw [← hBe] at hw2 ⊢
  have HW2 := Lib.hid hw2
  have B2 := Lib.hid (B1.out.trans hb2)
  clear hBe hw2 hb2 HK2
  go_wp2
  go_loopg [7, 8] (l.length + 1) (fun gk s7 _ wr => ∃ n : Int, s7 = .int .i32 n ∧ 128 ≤ n ∧ n ≤ 1114112 ∧
    Hid (∃ (bs : List UInt8) (h f : Nat) (d b : Int), Writer w.heap.size B bs q h d b wr ∧ Below w.heap.size w wr ∧ q ≤ h ∧ h ≤ l.length ∧ l.length - h < gk ∧ l.length - h ≤ f ∧ h = (Puny.lt n l).length ∧ Puny.encB l = bs ++ Puny.tailB (Puny.rows l (Puny.msF f l n) n d) b h ((h : Int) == (q : Int)) ∧ 0 ≤ d ∧ d ≤ 301 ∧ 0 ≤ b ∧ b ≤ 5000000000 ∧ bs.length ≤ 200 + 40 * h))
  case atStart =>
    refine ⟨128, rfl, by omega, by omega, ⟨_, q, l.length, 0, 72, HW2.out, B2.out, Nat.le_refl _, by omega, by omega, by omega, HPQ.out, ?_, by omega, by omega, by omega, by omega, ?_⟩⟩
    · rw [beq_self_eq_true, HPQ.out]
      rfl
    · rw [List.length_append]
      have h1 := HQ.out
      have h2 : (Puny.dashB l).length ≤ 1 := by unfold Puny.dashB; split <;> simp
      omega
  case round =>
    obtain ⟨n, rfl, n0, n1, I⟩ := hrel
    obtain ⟨bs, h, f, d, b, i1, i2, hqh, hhl, hg, hf, i3, i4, d0, d1, b0, b1, i5⟩ := I.out
    have HW := Lib.hid i1
    have BI := Lib.hid i2
    have I5 := Lib.hid i5
    obtain ⟨v3, ho3, hne3, hat3⟩ := i1.has
    have e0 := hat3.c0
    have e2 := hat3.c2
    have e3 := hat3.c3
    have f3 := hat3.fr 3
    have HO3 := Lib.hid ho3
    have HN3 := Lib.hid hne3
    have HA3 := Lib.hid hat3
    clear ho3 hne3 hat3 i1 i2 i5 I
    by_cases hlt : h < l.length
    · have hne : (Puny.lt n l).length ≠ l.length := by omega
      obtain ⟨f, rfl⟩ : ∃ f', f = f' + 1 := ⟨f - 1, by omega⟩
      obtain ⟨m1, m2, m3⟩ := Puny.least_ok LT.out hne
      have hmx := LT.out _ m1
      have hlow := Puny.lt_len_less m2 l m1
      have hls := Puny.lt_same m2 m3
      have hnl : Puny.least n l 1114112 ≠ 1114112 := by omega
      have KL := leastP_any (.slice A l.length c) l n wr (HRU.out.keep BI.out) (by omega) HR.out (by omega)
      rw [Puny.msF_more hne, Puny.rest_start] at i4
      obtain ⟨m, hme⟩ : ∃ m, Puny.least n l 1114112 = m := ⟨_, rfl⟩
      rw [hme] at m2 hmx hlow hls i4 KL hnl
      obtain ⟨P, hP⟩ : ∃ P, (m - n) * ((h : Int) + 1) = P := ⟨_, rfl⟩
      rw [← i3, hP] at i4
      have hP0 : 0 ≤ P := by rw [← hP]; exact Int.mul_nonneg (by omega) (by omega)
      have hP1 : P ≤ 335347712 := by
        rw [← hP]
        have a1 : (m - n) * ((h : Int) + 1) ≤ (m - n) * 301 := Int.mul_le_mul_of_nonneg_left (by omega) (by omega)
        omega
      have KL2 : Calls Try.prog 26 #[.slice A l.length c, .int .i32 n] wr fun e w' => e = .returned (.int .i32 m) ∧ Below wr.heap.size wr w' := KL.mono fun e w' hh => ⟨hh.1 hnl, hh.2⟩
      have HKL := Lib.hid KL2
      have HLOW := Lib.hid (show h < (Puny.lt (m + 1) l).length by omega)
      have HLS := Lib.hid (show h = (Puny.lt m l).length by rw [hls]; exact i3)
      have HEQ := Lib.hid i4
      have hlz : (h : Int) < (l.length : Int) := by omega
      have hmn : 0 ≤ m - n := by omega
      have hmn2 : m - n ≤ 1114111 := by omega
      have hw1 : IntKind.i64.wrap ((h : Int) + 1) = (h : Int) + 1 := by rw [IntKind.wrap_i64]; omega
      have hw2 : IntKind.i32.wrap (m - n) = m - n := by rw [IntKind.wrap_i32]; omega
      have hw3 : IntKind.i64.wrap (m - n) = m - n := by rw [IntKind.wrap_i64]; omega
      have hw4 : IntKind.i64.wrap P = P := by rw [IntKind.wrap_i64]; omega
      have hw5 : IntKind.i64.wrap (d + P) = d + P := by rw [IntKind.wrap_i64]; omega
      clear hne m1 m3 hlow hls i3 i4 hme KL KL2 hnl
      go_wp2_with fail
      refine HKL.out.mono ?_
      rintro e w4 ⟨rfl, hb4⟩
      have B4 := Lib.hid (BI.out.trans (hb4.mono BI.out.size))
      have hW4 := HW.out.keep hb4
      have HW4 := Lib.hid hW4
      obtain ⟨v5, ho5, hne5, hat5⟩ := hW4.has
      have g2 := hat5.c2
      have g3 := hat5.c3
      have gf := hat5.fr 3
      clear e0 e2 e3 f3 HO3 HN3 HA3 hW4 hb4 ho5 hne5 hat5 HKL HW
      go_wp2
      go_region
      have KR := Lib.hid (row_any w B (.slice A l.length c) l (Puny.msF f l (m + 1)) m (Puny.encB l) bs q h (d + P) b ((w4.setCell ⟨B, 3, none⟩ (.int .i64 (d + P))).drew) HRU.out (B4.out.setCell (p := ⟨B, 3, none⟩) HW4.out.low _).drew hn (HW4.out.set3 (d + P)).drew (by omega) hqh HLS.out HLOW.out (by omega) (by omega) I5.out HEQ.out)
      have hsm : ¬ 2147483647 < d + P := by omega
      go_wp2_with fail
      with_reducible refine KR.out.mono ?_
      rintro e w6 ⟨bs', h', d', b', rfl, hw6, hb6, j1, j2, j3, j4, j5, j6, j7⟩
      have HW6 := Lib.hid hw6
      have B6 := Lib.hid ((B4.out.setCell (p := ⟨B, 3, none⟩) HW4.out.low (.int .i64 (d + P))).drew.trans hb6)
      have J1 := Lib.hid j1
      have J2 := Lib.hid j2
      have J7 := Lib.hid j7
      have hh' : h < h' := by rw [j1]; exact HLOW.out
      have hhl' : h' ≤ l.length := by rw [j1]; exact Puny.lt_len _ _
      obtain ⟨v7, ho7, hne7, hat7⟩ := hw6.has
      have k3 := hat7.c3
      have kf := hat7.fr 3
      clear hw6 hb6 j1 j2 j7 ho7 hne7 hat7 KR
      go_wp2
      go_roundg (l.length - h)
      case measure => omega
      case rel => exact ⟨m + 1, rfl, by omega, by omega, ⟨bs', h', f, d' + 1, b', HW6.out.set3 _, B6.out.setCell (p := ⟨B, 3, none⟩) HW6.out.low _, by omega, hhl', by omega, by omega, J1.out, J2.out, by omega, by omega, j5, j6, J7.out⟩⟩
    · obtain rfl : h = l.length := by omega
      have R := Lib.hid (show Puny.encB l = bs by rw [i4, Puny.msF_done i3.symm]; show bs ++ [] = _; rw [List.append_nil])
      have hcv := string_of HO3.out.bytes
      clear i3 i4
      go_wp2
      go_ret2
      refine ⟨⟨?_, BI.out⟩, by rw [R.out]; exact I5.out⟩
      rw [R.out]
      rfl
theorem encodeP_yes (v : Value) (l : List Int) (w : World) (hl : Runes v l w) (hn : l.length ≤ 300) (hr : rightsZ l = true) :
    Calls Try.prog 16 #[v] w (Wrote (Puny.encB l) true w) := (encodeP_len v l w hl hn hr).mono fun _ _ h => h.1
end Go.Proofs.Ytkgikkdgfhonlaa
