/-
  Proved here: small facts on strings and their characters: what is read of what was written; bytes that are all below 80. Conditions: as they stand in each.
-/
import Derived.Test.YtmcjgdajnppbhaaGreatDoorUtfHead
namespace Go.Proofs.YtmcjgdajnppbhaaGreatDoor
open Go.RowKit Utf
theorem ints_back {l : List Int} (h : rightsZ l = true) : ints (l.map Int.toNat) = l ∧ rights (l.map Int.toNat) = true ∧ encAll (l.map Int.toNat) = encZ l := by
  induction l with
  | nil => exact ⟨rfl, rfl, rfl⟩
  | cons r l ih =>
    simp only [rightsZ, List.all_cons, Bool.and_eq_true] at h
    obtain ⟨h1, h2, h3⟩ := ih h.2
    have hr := (rightZ_iff r).1 h.1
    simp only [ints, rights, encAll, encZ, List.map_cons, List.all_cons, List.flatMap_cons, Bool.and_eq_true] at h1 h2 h3 ⊢
    refine ⟨?_, ⟨(right_iff _).2 (by omega), h2⟩, by rw [h3]⟩
    rw [h1, show Int.ofNat r.toNat = r by simp; omega]
theorem ints_right (m : List Nat) (h : rights m = true) : rightsZ (ints m) = true ∧ encZ (ints m) = encAll m := by
  induction m with
  | nil => exact ⟨rfl, rfl⟩
  | cons r m ih =>
    simp only [rights, List.all_cons, Bool.and_eq_true] at h
    obtain ⟨h1, h2⟩ := ih h.2
    have hr := (right_iff r).1 h.1
    simp only [ints, rightsZ, encAll, encZ, List.map_cons, List.all_cons, List.flatMap_cons, Bool.and_eq_true] at h1 h2 ⊢
    exact ⟨⟨(rightZ_iff _).2 (by simp; omega), h1⟩, by rw [h2]; simp⟩
theorem rd_enc {l : List Int} (h : rightsZ l = true) : rdOf (encZ l) = (l.map Int.toNat, -1) := by
  obtain ⟨h1, h2, h3⟩ := ints_back h
  unfold rdOf
  rw [readAll_is (l.map Int.toNat) (encZ l).length (encZ l) [] (by rw [h3]; simp) h2 rfl (Nat.le_refl _)]
  simp
theorem rd_cases {s : List UInt8} {m : List Nat} {z : Int} (h : rdOf s = (m, z)) : rights m = true ∧ m.length ≤ s.length ∧ ((z = -1 ∧ encAll m = s) ∨ ∃ k : Nat, z = k ∧ k < s.length ∧ encAll m = s.take k) := by
  obtain ⟨h1, h2⟩ := readAll_sound s.length s
  unfold rdOf at h
  simp only [Prod.mk.injEq] at h
  obtain ⟨rfl, rfl⟩ := h
  have h3 := congrArg List.length h2
  rw [List.length_append] at h3
  have h4 := encAll_le (readAll s.length s).1
  refine ⟨h1, by omega, ?_⟩
  by_cases h0 : (readAll s.length s).2.length = 0
  · rw [if_pos h0]
    refine .inl ⟨rfl, ?_⟩
    rw [List.eq_nil_of_length_eq_zero h0, List.append_nil] at h2
    exact h2.symm
  · rw [if_neg h0]
    refine .inr ⟨_, rfl, by omega, ?_⟩
    have e : s.length - (readAll s.length s).2.length = (encAll (readAll s.length s).1).length := by omega
    rw [e]
    exact (by rw [List.take_left] : List.take (encAll (readAll s.length s).1).length (encAll (readAll s.length s).1 ++ (readAll s.length s).2) = _).symm.trans (by rw [← h2])
theorem eight_all : ∀ (t : List UInt8) (k : Nat), eightFrom t k = -1 → ∀ b ∈ t, b.toNat < 128
  | [], _, _ => fun b hb => by cases hb
  | x :: t, k, h => by
    unfold eightFrom at h
    split at h
    · rename_i hx
      intro b hb
      rcases List.mem_cons.1 hb with rfl | hb
      · exact hx
      · exact eight_all t (k + 1) h b hb
    · omega
theorem eight_some : ∀ (t : List UInt8) (k : Nat), eightFrom t k = -1 ∨ 0 ≤ eightFrom t k
  | [], _ => .inl rfl
  | x :: t, k => by
    unfold eightFrom
    split
    · exact eight_some t (k + 1)
    · right; omega
theorem enc_byte (b : UInt8) (h : b.toNat < 128) : enc b.toNat = [b] := by
  unfold enc
  rw [if_pos (by omega)]
  congr 1
  unfold u
  exact UInt8.ofNat_toNat
theorem enc_bytes : ∀ (t : List UInt8), (∀ b ∈ t, b.toNat < 128) → encZ (t.map fun b => (b.toNat : Int)) = t
  | [], _ => rfl
  | x :: t, h => by
    have := enc_bytes t fun b hb => h b (by simp [hb])
    unfold encZ at this ⊢
    rw [List.map_cons, List.flatMap_cons, this]
    show enc (x.toNat : Int).toNat ++ t = _
    rw [Int.toNat_natCast, enc_byte x (h x (by simp))]
    rfl
/-- Bytes that are all below 80 are read one by one. -/
theorem ascii_rd {t : List UInt8} (h : ∀ b ∈ t, b.toNat < 128) : rdOf t = (t.map fun b => b.toNat, -1) := by
  have hr : rightsZ (t.map fun b => (b.toNat : Int)) = true := by
    unfold rightsZ
    rw [List.all_eq_true]
    intro c hc
    obtain ⟨b, hb, rfl⟩ := List.mem_map.1 hc
    have := h b hb
    exact (rightZ_iff _).2 (by omega)
  have := rd_enc hr
  rw [enc_bytes t h, List.map_map] at this
  exact this
end Go.Proofs.YtmcjgdajnppbhaaGreatDoor
