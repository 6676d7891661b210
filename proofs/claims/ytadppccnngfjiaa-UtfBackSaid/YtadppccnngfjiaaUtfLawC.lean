/-
  Proved here: the statement UtfBack, as a call: it answers true at every slice of numbers and every string. Conditions: the slice can be read.
-/
import Derived.Test.YtadppccnngfjiaaUtfLawA
namespace Go.Proofs.Ytadppccnngfjiaa
open Go.RowKit Utf
theorem ints_back {l : List Int} (h : rightsZ l = true) : ints (l.map Int.toNat) = l ∧ rights (l.map Int.toNat) = true ∧ encAll (l.map Int.toNat) = encZ l := by
  induction l with
  | nil => exact ⟨rfl, rfl, rfl⟩
  | cons r l ih =>
    simp only [rightsZ, List.all_cons, Bool.and_eq_true] at h
    obtain ⟨h1, h2, h3⟩ := ih h.2
    have hr := (rightZ_iff r).1 h.1
    simp only [ints, rights, encAll, encZ, List.map_cons, List.all_cons, List.flatMap_cons, Bool.and_eq_true] at h1 h2 h3 ⊢
    refine ⟨?_, ⟨(right_iff _).2 (by omega), h2⟩, by rw [h3]⟩
    rw [h1, show Int.ofNat r.toNat = r by simp; omega]
theorem ints_right (m : List Nat) (h : rights m = true) : rightsZ (ints m) = true ∧ encZ (ints m) = encAll m := by
  induction m with
  | nil => exact ⟨rfl, rfl⟩
  | cons r m ih =>
    simp only [rights, List.all_cons, Bool.and_eq_true] at h
    obtain ⟨h1, h2⟩ := ih h.2
    have hr := (right_iff r).1 h.1
    simp only [ints, rightsZ, encAll, encZ, List.map_cons, List.all_cons, List.flatMap_cons, Bool.and_eq_true] at h1 h2 ⊢
    exact ⟨⟨(rightZ_iff _).2 (by simp; omega), h1⟩, by rw [h2]; simp⟩
theorem rd_enc {l : List Int} (h : rightsZ l = true) : rdOf (encZ l) = (l.map Int.toNat, -1) := by
  obtain ⟨h1, h2, h3⟩ := ints_back h
  unfold rdOf
  rw [readAll_is (l.map Int.toNat) (encZ l).length (encZ l) [] (by rw [h3]; simp) h2 rfl (Nat.le_refl _)]
  simp
theorem rd_cases {s : List UInt8} {m : List Nat} {z : Int} (h : rdOf s = (m, z)) : rights m = true ∧ m.length ≤ s.length ∧ ((z = -1 ∧ encAll m = s) ∨ ∃ k : Nat, z = k ∧ k < s.length ∧ encAll m = s.take k) := by
  obtain ⟨h1, h2⟩ := readAll_sound s.length s
  unfold rdOf at h
  simp only [Prod.mk.injEq] at h
  obtain ⟨rfl, rfl⟩ := h
  have h3 := congrArg List.length h2
  rw [List.length_append] at h3
  have h4 := encAll_le (readAll s.length s).1
  refine ⟨h1, by omega, ?_⟩
  by_cases h0 : (readAll s.length s).2.length = 0
  · rw [if_pos h0]
    refine .inl ⟨rfl, ?_⟩
    rw [List.eq_nil_of_length_eq_zero h0, List.append_nil] at h2
    exact h2.symm
  · rw [if_neg h0]
    refine .inr ⟨_, rfl, by omega, ?_⟩
    have e : s.length - (readAll s.length s).2.length = (encAll (readAll s.length s).1).length := by omega
    rw [e]
    exact (by rw [List.take_left] : List.take (encAll (readAll s.length s).1).length (encAll (readAll s.length s).1 ++ (readAll s.length s).2) = _).symm.trans (by rw [← h2])
set_option maxHeartbeats 4000000 in
set_option maxRecDepth 100000 in
theorem back_walk (v : Value) (l : List Int) (s : ByteArray) (w : World) (hl : Runes v l w) : Calls Try.prog 5 #[v, .string s] w fun e w' => e = .returned (.bool true) ∧ Below w.heap.size w w' := by
  obtain ⟨A, c, rfl, -, -⟩ := hl.form
  have HL := Lib.hid hl
  clear hl
  by_cases hn : l.length ≤ 2000
  · have hnz : (l.length : Int) ≤ 2000 := by omega
    by_cases hs : s.size ≤ 5000
    · have hsz : (s.size : Int) ≤ 5000 := by omega
      obtain ⟨⟨m, z⟩, hrd⟩ : ∃ p, rdOf s.data.toList = p := ⟨_, rfl⟩
      obtain ⟨hm1, hm2, hmz⟩ := rd_cases hrd
      obtain ⟨hm3, hm4⟩ := ints_right m hm1
      have hml : m.length ≤ 5000 := by simp at hm2; omega
      have h2 := fun W => runes_at s W (by omega) hrd
      have H2 := Lib.hid h2
      have h3 := fun x W (h : Runes x (ints m) W) => string_at x (ints m) W h (by simp only [ints, List.length_map]; omega) hm3 (show strB (ints m) = encAll m by unfold strB; rw [hm3, if_pos rfl, hm4])
      clear h2 hrd hm1 hm2 hm3 hm4
      cases hok : rightsZ l with
      | true =>
        obtain ⟨i1, i2, i3⟩ := ints_back hok
        obtain ⟨x, hx⟩ : ∃ x, encZ l = x := ⟨_, rfl⟩
        have h1 := fun W (h : Runes (.slice A l.length c) l W) => string_at _ l W h (by omega) hok (show strB l = x by unfold strB; rw [hok, if_pos rfl, hx])
        have hxl : x.length ≤ 8000 := by rw [← hx]; have := encZ_len l; omega
        have hrx := rd_enc hok
        rw [hx] at hrx
        have h4 := fun W => runes_at ⟨x.toArray⟩ W (by simp [ByteArray.size]; omega) (show rdOf (⟨x.toArray⟩ : ByteArray).data.toList = _ by simpa using hrx)
        unfold RunesAt at h4
        rw [i1] at h4
        have hll : (l.map Int.toNat).length = l.length := List.length_map _
        rw [hll] at h4
        have H1 := Lib.hid h1
        have H4 := Lib.hid h4
        have HS := Lib.hid (fun a b W (ha : Runes a l W) (hb : Runes b l W) => refSame_any a b l l W ha hb (by omega))
        clear h1 h4 hok i1 i2 i3 hx hrx hll
        rcases hmz with ⟨rfl, he⟩ | ⟨k, rfl, hk, he⟩
        · rw [he] at h3
          have H3 := Lib.hid h3
          clear h3 he
          go_enter Try.func5, Try.ntmps5
          go_wp2_with fail
          refine (small_any _).mono ?_
          rintro e w1 ⟨rfl, hb1⟩
          have B1 := Lib.hid hb1
          clear hb1
          go_wp2_with fail
          refine (H1.out _ (HL.out.keep B1.out)).mono ?_
          rintro e w2 ⟨rfl, hb2⟩
          have B2 := Lib.hid (below_then B1.out hb2)
          clear hb2 B1
          go_wp2_with fail
          refine (H4.out _).mono ?_
          rintro e w3 ⟨A3, c3, rfl, hr3, hb3⟩
          have B3 := Lib.hid (below_then B2.out hb3)
          have R3 := Lib.hid hr3
          clear hb3 B2 hr3
          go_wp2_with fail
          refine (HS.out _ _ _ R3.out (HL.out.keep B3.out)).mono ?_
          unfold SamePost
          rw [decide_eq_true rfl]
          rintro e w4 ⟨rfl, hb4⟩
          have B4 := Lib.hid (below_then B3.out hb4)
          clear hb4 B3 R3
          go_wp2_with fail
          refine (H2.out _).mono ?_
          rintro e w5 ⟨A5, c5, rfl, hr5, hb5⟩
          have B5 := Lib.hid (below_then B4.out hb5)
          have R5 := Lib.hid hr5
          clear hb5 B4 hr5
          go_wp2_with fail
          refine (H3.out _ _ R5.out).mono ?_
          rintro e w6 ⟨rfl, hb6⟩
          have B6 := Lib.hid (below_then B5.out hb6)
          clear hb6 B5 R5
          go_wp2
          go_ret
          exact ⟨rfl, B6.out⟩
        · rw [he] at h3
          have H3 := Lib.hid h3
          have hkz : k ≤ s.size := by simp at hk; omega
          have hceq : (s.data.toList.take k == (s.extract 0 k).toList) = true := by rw [ByteArray.toList_eq, ByteArray.data_extract, Array.toList_extract, List.extract_eq_take_drop, List.drop_zero, Nat.sub_zero, beq_self_eq_true]
          generalize s.data.toList.take k = cb at H3 hceq
          clear h3 he hk
          go_enter Try.func5, Try.ntmps5
          go_wp2_with fail
          refine (small_any _).mono ?_
          rintro e w1 ⟨rfl, hb1⟩
          have B1 := Lib.hid hb1
          clear hb1
          go_wp2_with fail
          refine (H1.out _ (HL.out.keep B1.out)).mono ?_
          rintro e w2 ⟨rfl, hb2⟩
          have B2 := Lib.hid (below_then B1.out hb2)
          clear hb2 B1
          go_wp2_with fail
          refine (H4.out _).mono ?_
          rintro e w3 ⟨A3, c3, rfl, hr3, hb3⟩
          have B3 := Lib.hid (below_then B2.out hb3)
          have R3 := Lib.hid hr3
          clear hb3 B2 hr3
          go_wp2_with fail
          refine (HS.out _ _ _ R3.out (HL.out.keep B3.out)).mono ?_
          unfold SamePost
          rw [decide_eq_true rfl]
          rintro e w4 ⟨rfl, hb4⟩
          have B4 := Lib.hid (below_then B3.out hb4)
          clear hb4 B3 R3
          go_wp2_with fail
          refine (H2.out _).mono ?_
          rintro e w5 ⟨A5, c5, rfl, hr5, hb5⟩
          have B5 := Lib.hid (below_then B4.out hb5)
          have R5 := Lib.hid hr5
          clear hb5 B4 hr5
          go_wp2_with fail
          refine (H3.out _ _ R5.out).mono ?_
          rintro e w6 ⟨rfl, hb6⟩
          have B6 := Lib.hid (below_then B5.out hb6)
          clear hb6 B5 R5
          go_wp2
          go_ret
          exact ⟨rfl, B6.out⟩
      | false =>
        have h1 := fun W (h : Runes (.slice A l.length c) l W) => string_at _ l W h (by omega) hok (show strB l = [] by unfold strB; rw [hok, if_neg (by decide)])
        have H1 := Lib.hid h1
        clear h1 hok
        rcases hmz with ⟨rfl, he⟩ | ⟨k, rfl, hk, he⟩
        · rw [he] at h3
          have H3 := Lib.hid h3
          clear h3 he
          go_enter Try.func5, Try.ntmps5
          go_wp2_with fail
          refine (small_any _).mono ?_
          rintro e w1 ⟨rfl, hb1⟩
          have B1 := Lib.hid hb1
          clear hb1
          go_wp2_with fail
          refine (H1.out _ (HL.out.keep B1.out)).mono ?_
          rintro e w2 ⟨rfl, hb2⟩
          have B2 := Lib.hid (below_then B1.out hb2)
          clear hb2 B1
          go_wp2_with fail
          refine (H2.out _).mono ?_
          rintro e w5 ⟨A5, c5, rfl, hr5, hb5⟩
          have B5 := Lib.hid (below_then B2.out hb5)
          have R5 := Lib.hid hr5
          clear hb5 B2 hr5
          go_wp2_with fail
          refine (H3.out _ _ R5.out).mono ?_
          rintro e w6 ⟨rfl, hb6⟩
          have B6 := Lib.hid (below_then B5.out hb6)
          clear hb6 B5 R5
          go_wp2
          go_ret
          exact ⟨rfl, B6.out⟩
        · rw [he] at h3
          have H3 := Lib.hid h3
          have hkz : k ≤ s.size := by simp at hk; omega
          have hceq : (s.data.toList.take k == (s.extract 0 k).toList) = true := by rw [ByteArray.toList_eq, ByteArray.data_extract, Array.toList_extract, List.extract_eq_take_drop, List.drop_zero, Nat.sub_zero, beq_self_eq_true]
          generalize s.data.toList.take k = cb at H3 hceq
          clear h3 he hk
          go_enter Try.func5, Try.ntmps5
          go_wp2_with fail
          refine (small_any _).mono ?_
          rintro e w1 ⟨rfl, hb1⟩
          have B1 := Lib.hid hb1
          clear hb1
          go_wp2_with fail
          refine (H1.out _ (HL.out.keep B1.out)).mono ?_
          rintro e w2 ⟨rfl, hb2⟩
          have B2 := Lib.hid (below_then B1.out hb2)
          clear hb2 B1
          go_wp2_with fail
          refine (H2.out _).mono ?_
          rintro e w5 ⟨A5, c5, rfl, hr5, hb5⟩
          have B5 := Lib.hid (below_then B2.out hb5)
          have R5 := Lib.hid hr5
          clear hb5 B2 hr5
          go_wp2_with fail
          refine (H3.out _ _ R5.out).mono ?_
          rintro e w6 ⟨rfl, hb6⟩
          have B6 := Lib.hid (below_then B5.out hb6)
          clear hb6 B5 R5
          go_wp2
          go_ret
          exact ⟨rfl, B6.out⟩
    · have hsz : (5000 : Int) < (s.size : Int) := by omega
      go_enter Try.func5, Try.ntmps5
      go_wp2_with fail
      refine (small_any _).mono ?_
      rintro e w1 ⟨rfl, hb1⟩
      have B1 := Lib.hid hb1
      clear hb1
      go_wp2
      go_ret
      exact ⟨rfl, B1.out⟩
  · have hnz : (2000 : Int) < (l.length : Int) := by omega
    go_enter Try.func5, Try.ntmps5
    go_wp2_with fail
    refine (small_any _).mono ?_
    rintro e w1 ⟨rfl, hb1⟩
    have B1 := Lib.hid hb1
    clear hb1
    go_wp2
    go_ret
    exact ⟨rfl, B1.out⟩
end Go.Proofs.Ytadppccnngfjiaa
