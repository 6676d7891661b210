/-
  PLAIN: bytes that are characters, and what is cut out of them at a byte of ASCII. Conditions: none. Nothing of the program is used here.
-/
import Derived.Test.YtmcjgdajnppbhaaGreatDoorUtfAscii
namespace Go.Proofs.YtmcjgdajnppbhaaGreatDoor
open Utf
namespace Lex
/-- Are the bytes characters? -/
def ok (l : List UInt8) : Prop := (rdOf l).2 = -1
theorem ok_iff (l : List UInt8) : ok l ↔ ∃ m : List Int, rightsZ m = true ∧ l = encZ m := by
  constructor
  · intro h
    obtain ⟨h1, -, h3⟩ := rd_cases (s := l) (m := (rdOf l).1) (z := (rdOf l).2) rfl
    obtain ⟨h4, h5⟩ := ints_right _ h1
    rcases h3 with ⟨-, h3⟩ | ⟨k, hk, -⟩
    · exact ⟨_, h4, by rw [h5, h3]⟩
    · unfold ok at h
      omega
  · rintro ⟨m, hm, rfl⟩
    unfold ok
    rw [rd_enc hm]
theorem ok_nil : ok [] := (ok_iff []).2 ⟨[], rfl, rfl⟩
theorem ok_app {a b : List UInt8} (ha : ok a) (hb : ok b) : ok (a ++ b) := by
  obtain ⟨m, hm, rfl⟩ := (ok_iff a).1 ha
  obtain ⟨q, hq, rfl⟩ := (ok_iff b).1 hb
  refine (ok_iff _).2 ⟨m ++ q, ?_, ?_⟩
  · unfold rightsZ at hm hq ⊢
    rw [List.all_append, hm, hq]
    rfl
  · unfold encZ
    exact List.flatMap_append.symm
theorem ok_ascii {l : List UInt8} (h : ∀ b ∈ l, b.toNat < 128) : ok l := by
  unfold ok
  rw [ascii_rd h]
theorem enc_high {r : Nat} (h : 128 ≤ r) (hr : right r = true) : ∀ b ∈ enc r, 128 ≤ b.toNat := by
  rw [right_iff] at hr
  unfold enc
  rw [if_neg (by omega)]
  split
  · intro b hb
    simp only [List.mem_cons, List.not_mem_nil, or_false] at hb
    rcases hb with rfl | rfl <;> rw [u_toNat (by omega)] <;> omega
  · split
    · intro b hb
      simp only [List.mem_cons, List.not_mem_nil, or_false] at hb
      rcases hb with rfl | rfl | rfl <;> rw [u_toNat (by omega)] <;> omega
    · intro b hb
      simp only [List.mem_cons, List.not_mem_nil, or_false] at hb
      rcases hb with rfl | rfl | rfl | rfl <;> rw [u_toNat (by omega)] <;> omega
theorem split_enc {c : UInt8} (hc : c.toNat < 128) : ∀ (m : List Int) (A B : List UInt8), rightsZ m = true → encZ m = A ++ c :: B → ∃ p q : List Int, rightsZ p = true ∧ rightsZ q = true ∧ A = encZ p ∧ B = encZ q
  | [], A, B, _, h => by
    have := congrArg List.length h
    simp [encZ] at this
  | y :: m, A, B, hm, h => by
    have hy : rightZ y = true ∧ rightsZ m = true := by
      unfold rightsZ at hm ⊢
      rw [List.all_cons, Bool.and_eq_true] at hm
      exact hm
    have hyr : right y.toNat = true := by
      have := hy.1
      unfold rightZ at this
      rw [Bool.and_eq_true] at this
      exact this.2
    have he : encZ (y :: m) = enc y.toNat ++ encZ m := by simp [encZ]
    rw [he, List.append_eq_append_iff] at h
    rcases h with ⟨A2, h1, h2⟩ | ⟨bs, h1, h2⟩
    · obtain ⟨p, q, hp, hq, rfl, rfl⟩ := split_enc hc m A2 B hy.2 h2
      refine ⟨y :: p, q, ?_, hq, ?_, rfl⟩
      · unfold rightsZ at hp ⊢
        rw [List.all_cons, hy.1, hp]
        rfl
      · rw [h1]
        simp [encZ]
    · cases bs with
      | nil =>
        rw [List.append_nil] at h1
        rw [List.nil_append] at h2
        obtain ⟨p, q, hp, hq, e, rfl⟩ := split_enc hc m [] B hy.2 h2.symm
        refine ⟨[y], q, ?_, hq, ?_, rfl⟩
        · unfold rightsZ
          rw [List.all_cons, hy.1]
          rfl
        · rw [← h1]
          simp [encZ]
      | cons d bs =>
        rw [List.cons_append] at h2
        injection h2 with h3 h4
        subst h3
        by_cases hb : y.toNat < 128
        · have e : enc y.toNat = [u y.toNat] := by unfold enc; rw [if_pos hb]
          rw [e] at h1
          cases A with
          | nil =>
            rw [List.nil_append] at h1
            injection h1 with h5 h6
            subst h6
            exact ⟨[], m, rfl, hy.2, rfl, h4⟩
          | cons a A =>
            rw [List.cons_append] at h1
            injection h1 with h5 h6
            have := congrArg List.length h6
            simp at this
        · have := enc_high (by omega) hyr c (by rw [h1]; simp)
          omega
theorem ok_split {c : UInt8} (hc : c.toNat < 128) {A B : List UInt8} (h : ok (A ++ c :: B)) : ok A ∧ ok B := by
  obtain ⟨m, hm, e⟩ := (ok_iff _).1 h
  obtain ⟨p, q, hp, hq, rfl, rfl⟩ := split_enc hc m A B hm e.symm
  exact ⟨(ok_iff _).2 ⟨p, hp, rfl⟩, (ok_iff _).2 ⟨q, hq, rfl⟩⟩
theorem ok_drop {c : UInt8} (hc : c.toNat < 128) {A B : List UInt8} (h : ok (A ++ c :: B)) : ok (A ++ B) := ok_app (ok_split hc h).1 (ok_split hc h).2
end Lex
end Go.Proofs.YtmcjgdajnppbhaaGreatDoor
