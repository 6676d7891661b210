/-
  Proved here: the statement UtfReads, as a call: it answers true at every string. Conditions: none beyond that the string has a length.
-/
import Derived.Test.YtadppccnngfjiaaUtfHead
import Derived.Test.YtadppccnngfjiaaUtfRefRunes
namespace Go.Proofs.Ytadppccnngfjiaa
open Go.RowKit Utf
theorem refRunes_at (s : ByteArray) (w : World) (hs : s.size ≤ 100000) {l : List Nat} {z : Int} (h : rdOf s.data.toList = (l, z)) : Calls Try.prog 10 #[.string s] w (RunesAt l z w) :=
  (refRunes_any s w hs).mono fun _ _ ⟨v, he, hv, hb⟩ => by
    rw [h] at he hv
    obtain ⟨A, c, rfl, -, -⟩ := hv.form
    simp only [ints, List.length_map] at he hv ⊢
    exact ⟨A, c, he, hv, hb⟩
theorem rd_len (s : List UInt8) : (rdOf s).1.length ≤ s.length := by
  have h := readAll_sound s.length s
  have h2 := congrArg List.length h.2
  rw [List.length_append] at h2
  have h3 := encAll_le (readAll s.length s).1
  unfold rdOf
  simp only
  omega
set_option maxHeartbeats 4000000 in
set_option maxRecDepth 100000 in
theorem reads_walk (s : ByteArray) (w : World) : Calls Try.prog 3 #[.string s] w fun e w' => e = .returned (.bool true) ∧ Below w.heap.size w w' := by
  by_cases hn : s.size ≤ 5000
  · have hnz : (s.size : Int) ≤ 5000 := by omega
    have hll := rd_len s.data.toList
    obtain ⟨⟨l, z⟩, hrd⟩ : ∃ p, rdOf s.data.toList = p := ⟨_, rfl⟩
    rw [hrd] at hll
    obtain ⟨x, hx⟩ : ∃ x, eightOf s.data.toList = x := ⟨_, rfl⟩
    have h1 := fun W => runes_at s W (by omega) hrd
    have h2 := fun W => refRunes_at s W (by omega) hrd
    have h3 := fun W => eight_any s W (by omega)
    have h4 := fun W => refEight_any s W (by omega)
    rw [hx] at h3 h4
    have hl5 : (ints l).length ≤ 100000 := by simp only [ints, List.length_map]; simp at hll; omega
    have H1 := Lib.hid h1
    have H2 := Lib.hid h2
    have H3 := Lib.hid h3
    have H4 := Lib.hid h4
    have HS := Lib.hid (fun a b W (ha : Runes a (ints l) W) (hb : Runes b (ints l) W) => refSame_any a b (ints l) (ints l) W ha hb hl5)
    clear h1 h2 h3 h4 hrd hx hll hl5
    go_enter Try.func3, Try.ntmps3
    go_wp2_with fail
    refine (small_any _).mono ?_
    rintro e w1 ⟨rfl, hb1⟩
    have B1 := Lib.hid hb1
    clear hb1
    go_wp2_with fail
    refine (H1.out _).mono ?_
    rintro e w2 ⟨A2, c2, rfl, hr2, hb2⟩
    have B2 := Lib.hid (below_then B1.out hb2)
    have R2 := Lib.hid hr2
    clear hb2 B1 hr2
    go_wp2_with fail
    refine (H2.out _).mono ?_
    rintro e w3 ⟨A3, c3, rfl, hr3, hb3⟩
    have B3 := Lib.hid (below_then B2.out hb3)
    have R3 := Lib.hid hr3
    have R23 := Lib.hid (R2.out.keep hb3)
    clear hb3 B2 hr3 R2
    go_wp2_with fail
    refine (HS.out _ _ _ R23.out R3.out).mono ?_
    unfold SamePost
    rw [decide_eq_true rfl]
    rintro e w4 ⟨rfl, hb4⟩
    have B4 := Lib.hid (below_then B3.out hb4)
    clear hb4 B3 R3 R23
    go_wp2_with fail
    refine (H3.out _).mono ?_
    rintro e w5 ⟨rfl, rfl⟩
    go_wp2_with fail
    refine (H4.out _).mono ?_
    rintro e w5 ⟨rfl, rfl⟩
    go_wp2
    go_ret
    exact ⟨rfl, B4.out⟩
  · have hnz : (5000 : Int) < (s.size : Int) := by omega
    go_enter Try.func3, Try.ntmps3
    go_wp2_with fail
    refine (small_any _).mono ?_
    rintro e w1 ⟨rfl, hb1⟩
    have B1 := Lib.hid hb1
    clear hb1
    go_wp2
    go_ret
    exact ⟨rfl, B1.out⟩
end Go.Proofs.Ytadppccnngfjiaa
