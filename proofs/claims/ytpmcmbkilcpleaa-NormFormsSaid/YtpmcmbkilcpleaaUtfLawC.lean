/-
  Proved here: the statement UtfBack, as a call: it answers true at every slice of numbers and every string. Conditions: the slice can be read.
-/
import Derived.Test.YtpmcmbkilcpleaaUtfLawA
namespace Go.Proofs.Ytpmcmbkilcpleaa
open Go.RowKit Utf
theorem ints_back {l : List Int} (h : rightsZ l = true) : ints (l.map Int.toNat) = l ∧ rights (l.map Int.toNat) = true ∧ encAll (l.map Int.toNat) = encZ l := by
  induction l with
  | nil => exact ⟨rfl, rfl, rfl⟩
  | cons r l ih =>
    simp only [rightsZ, List.all_cons, Bool.and_eq_true] at h
    obtain ⟨h1, h2, h3⟩ := ih h.2
    have hr := (rightZ_iff r).1 h.1
    simp only [ints, rights, encAll, encZ, List.map_cons, List.all_cons, List.flatMap_cons, Bool.and_eq_true] at h1 h2 h3 ⊢
    refine ⟨?_, ⟨(right_iff _).2 (by omega), h2⟩, by rw [h3]⟩
    rw [h1, show Int.ofNat r.toNat = r by simp; omega]
theorem ints_right (m : List Nat) (h : rights m = true) : rightsZ (ints m) = true ∧ encZ (ints m) = encAll m := by
  induction m with
  | nil => exact ⟨rfl, rfl⟩
  | cons r m ih =>
    simp only [rights, List.all_cons, Bool.and_eq_true] at h
    obtain ⟨h1, h2⟩ := ih h.2
    have hr := (right_iff r).1 h.1
    simp only [ints, rightsZ, encAll, encZ, List.map_cons, List.all_cons, List.flatMap_cons, Bool.and_eq_true] at h1 h2 ⊢
    exact ⟨⟨(rightZ_iff _).2 (by simp; omega), h1⟩, by rw [h2]; simp⟩
theorem rd_enc {l : List Int} (h : rightsZ l = true) : rdOf (encZ l) = (l.map Int.toNat, -1) := by
  obtain ⟨h1, h2, h3⟩ := ints_back h
  unfold rdOf
  rw [readAll_is (l.map Int.toNat) (encZ l).length (encZ l) [] (by rw [h3]; simp) h2 rfl (Nat.le_refl _)]
  simp
theorem rd_cases {s : List UInt8} {m : List Nat} {z : Int} (h : rdOf s = (m, z)) : rights m = true ∧ m.length ≤ s.length ∧ ((z = -1 ∧ encAll m = s) ∨ ∃ k : Nat, z = k ∧ k < s.length ∧ encAll m = s.take k) := by
  obtain ⟨h1, h2⟩ := readAll_sound s.length s
  unfold rdOf at h
  simp only [Prod.mk.injEq] at h
  obtain ⟨rfl, rfl⟩ := h
  have h3 := congrArg List.length h2
  rw [List.length_append] at h3
  have h4 := encAll_le (readAll s.length s).1
  refine ⟨h1, by omega, ?_⟩
  by_cases h0 : (readAll s.length s).2.length = 0
  · rw [if_pos h0]
    refine .inl ⟨rfl, ?_⟩
    rw [List.eq_nil_of_length_eq_zero h0, List.append_nil] at h2
    exact h2.symm
  · rw [if_neg h0]
    refine .inr ⟨_, rfl, by omega, ?_⟩
    have e : s.length - (readAll s.length s).2.length = (encAll (readAll s.length s).1).length := by omega
    rw [e]
    exact (by rw [List.take_left] : List.take (encAll (readAll s.length s).1).length (encAll (readAll s.length s).1 ++ (readAll s.length s).2) = _).symm.trans (by rw [← h2])
end Go.Proofs.Ytpmcmbkilcpleaa
