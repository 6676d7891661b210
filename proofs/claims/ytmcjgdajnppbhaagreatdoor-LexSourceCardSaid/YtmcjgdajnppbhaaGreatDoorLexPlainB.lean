/-
  PLAIN: the Sources of what was cut, one behind the other, are cut into the same tokens. Conditions: none. Nothing of the program is used here.
-/
import Derived.Test.YtmcjgdajnppbhaaGreatDoorLexPlain
namespace Go.Proofs.YtmcjgdajnppbhaaGreatDoor
open Utf
namespace Lex
/-! ### one token's ends -/
theorem on_fine {r : Cut} {y x : List UInt8} {k n : Nat} (h : r.on y k = .fine x n) : ∃ x' n', r = .fine x' n' ∧ x = y ++ x' ∧ n = n' + k := by
  cases r with
  | fine x' n' => injection h with h1 h2; exact ⟨x', n', rfl, h1.symm, h2.symm⟩
  | bad i => cases h
  | gap => cases h
  | deep i => cases h
theorem on_bad {r : Cut} {y : List UInt8} {k i : Nat} (h : r.on y k = .bad i) : ∃ i', r = .bad i' ∧ i = i' + k := by
  cases r with
  | fine x' n' => cases h
  | bad i' => injection h with h1; exact ⟨i', rfl, h1.symm⟩
  | gap => cases h
  | deep i => cases h
theorem on_deep {r : Cut} {y : List UInt8} {k i : Nat} (h : r.on y k = .deep i) : ∃ i', r = .deep i' ∧ i = i' + k := by
  cases r with
  | fine x' n' => cases h
  | bad i' => cases h
  | gap => cases h
  | deep i' => injection h with h1; exact ⟨i', rfl, h1.symm⟩
theorem quo_cases (l : List UInt8) : (l = [] ∧ quo l = .gap) ∨ (∃ c t, l = c :: t ∧ c.toNat = 34 ∧ quo l = .fine [] 1) ∨ (∃ c, l = [c] ∧ c.toNat = 92 ∧ quo l = .gap) ∨
    (∃ c d r, l = c :: d :: r ∧ c.toNat = 92 ∧ fineB d = true ∧ quo l = (quo r).on [d] 2) ∨ (∃ c d r, l = c :: d :: r ∧ c.toNat = 92 ∧ fineB d = false ∧ quo l = .bad 1) ∨
    (∃ c t, l = c :: t ∧ c.toNat ≠ 34 ∧ c.toNat ≠ 92 ∧ fineB c = true ∧ quo l = (quo t).on [c] 1) ∨ (∃ c t, l = c :: t ∧ c.toNat ≠ 34 ∧ c.toNat ≠ 92 ∧ fineB c = false ∧ quo l = .bad 0) := by
  match l with
  | [] => exact .inl ⟨rfl, rfl⟩
  | c :: t =>
    right
    by_cases h34 : c.toNat = 34
    · exact .inl ⟨c, t, rfl, h34, by rw [quo.eq_def]; simp only [if_pos h34]⟩
    right
    by_cases h92 : c.toNat = 92
    · match t with
      | [] => exact .inl ⟨c, rfl, h92, by rw [quo.eq_def]; simp only [if_neg h34, if_pos h92]⟩
      | d :: r =>
        right
        cases hd : fineB d with
        | true => exact .inl ⟨c, d, r, rfl, h92, hd, by rw [quo.eq_def]; simp only [if_neg h34, if_pos h92, hd, if_true]⟩
        | false => exact .inr (.inl ⟨c, d, r, rfl, h92, hd, by rw [quo.eq_def]; simp only [if_neg h34, if_pos h92, hd, Bool.false_eq_true, if_false]⟩)
    · right; right; right
      cases hc : fineB c with
      | true => exact .inl ⟨c, t, rfl, h34, h92, hc, by rw [quo.eq_def]; simp only [if_neg h34, if_neg h92, hc, if_true]⟩
      | false => exact .inr ⟨c, t, rfl, h34, h92, hc, by rw [quo.eq_def]; simp only [if_neg h34, if_neg h92, hc, Bool.false_eq_true, if_false]⟩
theorem byte_is {c : UInt8} {n : Nat} (h : c.toNat = n) : c = UInt8.ofNat n := by rw [← h, UInt8.ofNat_toNat]
theorem esc_sp {c : UInt8} {t : List UInt8} (h : c.toNat = 34 ∨ c.toNat = 92) : esc (c :: t) = 92 :: c :: esc t := by rw [esc, if_pos h]
theorem esc_no {c : UInt8} {t : List UInt8} (h : ¬ (c.toNat = 34 ∨ c.toNat = 92)) : esc (c :: t) = c :: esc t := by rw [esc, if_neg h]
theorem esc_len : ∀ x : List UInt8, (esc x).length ≤ 2 * x.length
  | [] => Nat.le_refl _
  | c :: t => by
    have ih := esc_len t
    rw [esc]
    split <;> simp only [List.length_cons] <;> omega
/-- A quote's end: what is said of it. -/
theorem quo_fine (m : Nat) : ∀ (t x : List UInt8) (n : Nat), t.length ≤ m → quo t = .fine x n → 0 < n ∧ n ≤ t.length ∧ x.length + 1 ≤ n ∧ (esc x).length + 1 ≤ n ∧ (∀ b ∈ x, fineB b = true) ∧ ∀ pre, ok (pre ++ t) → ok (pre ++ (esc x ++ 34 :: t.drop n)) := by
  induction m with
  | zero =>
    intro t x n ht h
    obtain rfl : t = [] := List.eq_nil_of_length_eq_zero (by omega)
    cases h
  | succ m ih =>
    intro t x n ht h
    rcases quo_cases t with ⟨rfl, e⟩ | ⟨c, r, rfl, hc, e⟩ | ⟨c, rfl, hc, e⟩ | ⟨c, d, r, rfl, hc, hd, e⟩ | ⟨c, d, r, rfl, hc, hd, e⟩ | ⟨c, r, rfl, h1, h2, hc, e⟩ | ⟨c, r, rfl, h1, h2, hc, e⟩
    · rw [e] at h; cases h
    · rw [e] at h
      injection h with h1 h2
      subst h1 h2
      refine ⟨by omega, by simp, by simp, by simp [esc], fun b hb => (by cases hb), fun pre hp => ?_⟩
      rw [byte_is hc] at hp
      exact hp
    · rw [e] at h; cases h
    · rw [e] at h
      obtain ⟨x', n', hr, rfl, rfl⟩ := on_fine h
      simp only [List.length_cons] at ht
      obtain ⟨g1, g2, g3, g4, g5, g6⟩ := ih r x' n' (by omega) hr
      refine ⟨by omega, by simp only [List.length_cons]; omega, by simp only [List.length_append, List.length_cons, List.length_nil]; omega, ?_, ?_, ?_⟩
      · show (esc (d :: x')).length + 1 ≤ _
        rw [esc]
        split <;> simp only [List.length_cons] <;> omega
      · intro b hb
        rcases List.mem_cons.1 hb with rfl | hb
        · exact hd
        · exact g5 b hb
      · intro pre hp
        show ok (pre ++ (esc (d :: x') ++ 34 :: (c :: d :: r).drop (n' + 2)))
        rw [List.drop_succ_cons, List.drop_succ_cons]
        by_cases hs : d.toNat = 34 ∨ d.toNat = 92
        · rw [esc_sp hs]
          have := g6 (pre ++ [92, d]) (by rw [byte_is hc] at hp; simpa using hp)
          simpa using this
        · rw [esc_no hs]
          have h2 := ok_drop (by omega) hp
          have := g6 (pre ++ [d]) (by simpa using h2)
          simpa using this
    · rw [e] at h; cases h
    · rw [e] at h
      obtain ⟨x', n', hr, rfl, rfl⟩ := on_fine h
      simp only [List.length_cons] at ht
      obtain ⟨g1, g2, g3, g4, g5, g6⟩ := ih r x' n' (by omega) hr
      have hs : ¬ (c.toNat = 34 ∨ c.toNat = 92) := by omega
      refine ⟨by omega, by simp only [List.length_cons]; omega, by simp only [List.length_append, List.length_cons, List.length_nil]; omega, ?_, ?_, ?_⟩
      · show (esc (c :: x')).length + 1 ≤ _
        rw [esc_no hs]
        simp only [List.length_cons]
        omega
      · intro b hb
        rcases List.mem_cons.1 hb with rfl | hb
        · exact hc
        · exact g5 b hb
      · intro pre hp
        show ok (pre ++ (esc (c :: x') ++ 34 :: (c :: r).drop (n' + 1)))
        rw [List.drop_succ_cons, esc_no hs]
        have := g6 (pre ++ [c]) (by simpa using hp)
        simpa using this
    · rw [e] at h; cases h
theorem quo_34 (r : List UInt8) : quo (34 :: r) = .fine [] 1 := by rw [quo.eq_def]; rfl
theorem quo_esc {d : UInt8} (hd : fineB d = true) (r : List UInt8) : quo (92 :: d :: r) = (quo r).on [d] 2 := by
  rw [quo.eq_def]
  simp only [show (92 : UInt8).toNat = 92 from rfl, hd, if_true]
  rfl
theorem quo_on {c : UInt8} (h1 : c.toNat ≠ 34) (h2 : c.toNat ≠ 92) (hc : fineB c = true) (r : List UInt8) : quo (c :: r) = (quo r).on [c] 1 := by
  rw [quo.eq_def]
  simp only [if_neg h1, if_neg h2, hc, if_true]
/-- What is escaped is read as it was. -/
theorem quo_back : ∀ (x r : List UInt8), (∀ b ∈ x, fineB b = true) → quo (esc x ++ 34 :: r) = .fine x ((esc x).length + 1)
  | [], r, _ => quo_34 r
  | c :: x, r, h => by
    have hc := h c (by simp)
    have ih := quo_back x r (fun b hb => h b (by simp [hb]))
    by_cases hs : c.toNat = 34 ∨ c.toNat = 92
    · rw [esc_sp hs, List.cons_append, List.cons_append, quo_esc hc, ih]
      rfl
    · rw [esc_no hs, List.cons_append, quo_on (by omega) (by omega) hc, ih]
      rfl
theorem quo_not : ∀ (x r : List UInt8), (∃ b ∈ x, fineB b = false) → ∃ i, quo (esc x ++ 34 :: r) = .bad i
  | [], r, h => by obtain ⟨b, hb, -⟩ := h; cases hb
  | c :: x, r, h => by
    cases hc : fineB c with
    | false =>
      have h1 : c.toNat ≠ 34 := fun e => by have h2 : fineB c = fineN 34 := congrArg fineN e; rw [hc, ends_fine.1] at h2; cases h2
      have h2 : c.toNat ≠ 92 := fun e => by have h2 : fineB c = fineN 92 := congrArg fineN e; rw [hc, ends_fine.2.1] at h2; cases h2
      refine ⟨0, ?_⟩
      rw [esc_no (by omega), List.cons_append, quo.eq_def]
      simp only [if_neg h1, if_neg h2, hc, Bool.false_eq_true, if_false]
    | true =>
      obtain ⟨b, hb, hf⟩ := h
      have hb' : b ∈ x := by
        rcases List.mem_cons.1 hb with rfl | hb
        · rw [hc] at hf; cases hf
        · exact hb
      obtain ⟨i, hi⟩ := quo_not x r ⟨b, hb', hf⟩
      by_cases hs : c.toNat = 34 ∨ c.toNat = 92
      · exact ⟨i + 2, by rw [esc_sp hs, List.cons_append, List.cons_append, quo_esc hc, hi]; rfl⟩
      · exact ⟨i + 1, by rw [esc_no hs, List.cons_append, quo_on (by omega) (by omega) hc, hi]; rfl⟩
/-! ### literals and notes: what was read is read again, whatever stands behind -/
theorem lit_fine : ∀ (t x : List UInt8) (n : Nat), lit t = .fine x n → 0 < n ∧ n ≤ t.length ∧ x ++ [93] = t.take n ∧ ∀ r, lit (t.take n ++ r) = .fine x n
  | [], x, n, h => by cases h
  | c :: t, x, n, h => by
    rw [lit] at h
    by_cases h1 : c.toNat = 93
    · rw [if_pos h1] at h
      injection h with h2 h3
      subst h2 h3
      refine ⟨by omega, by simp, by rw [byte_is h1]; rfl, fun r => ?_⟩
      show lit (c :: r) = _
      rw [lit, if_pos h1]
    · rw [if_neg h1] at h
      by_cases h2 : printN c.toNat = true ∧ c.toNat ≠ 91 ∧ c.toNat ≠ 92
      · rw [if_pos h2] at h
        obtain ⟨x', n', hr, rfl, rfl⟩ := on_fine h
        obtain ⟨g1, g2, g3, g4⟩ := lit_fine t x' n' hr
        refine ⟨by omega, by simp only [List.length_cons]; omega, by rw [List.take_succ_cons, ← g3]; rfl, fun r => ?_⟩
        rw [List.take_succ_cons, List.cons_append, lit, if_neg h1, if_pos h2, g4 r]
        rfl
      · rw [if_neg h2] at h; cases h
theorem note_cases (l : List UInt8) (d : Nat) : (l = [] ∧ note l d = .gap) ∨ (∃ c t, l = c :: t ∧ c.toNat = 40 ∧ note l d = if 32 ≤ d then .deep 0 else (note t (d + 1)).on [c] 1) ∨
    (∃ c t, l = c :: t ∧ c.toNat = 41 ∧ note l d = if d ≤ 1 then .fine [] 1 else (note t (d - 1)).on [c] 1) ∨ (∃ c, l = [c] ∧ c.toNat = 92 ∧ note l d = .gap) ∨
    (∃ c e r, l = c :: e :: r ∧ c.toNat = 92 ∧ note l d = if fineB e then (note r d).on [c, e] 2 else .bad 1) ∨
    (∃ c t, l = c :: t ∧ c.toNat ≠ 40 ∧ c.toNat ≠ 41 ∧ c.toNat ≠ 92 ∧ note l d = if fineB c then (note t d).on [c] 1 else .bad 0) := by
  match l with
  | [] => exact .inl ⟨rfl, by rw [note]⟩
  | c :: t =>
    right
    by_cases h40 : c.toNat = 40
    · exact .inl ⟨c, t, rfl, h40, by rw [note.eq_def]; simp only [if_pos h40]⟩
    right
    by_cases h41 : c.toNat = 41
    · exact .inl ⟨c, t, rfl, h41, by rw [note.eq_def]; simp only [if_neg h40, if_pos h41]⟩
    right
    by_cases h92 : c.toNat = 92
    · match t with
      | [] => exact .inl ⟨c, rfl, h92, by rw [note.eq_def]; simp only [if_neg h40, if_neg h41, if_pos h92]⟩
      | e :: r => exact .inr (.inl ⟨c, e, r, rfl, h92, by rw [note.eq_def]; simp only [if_neg h40, if_neg h41, if_pos h92]⟩)
    · exact .inr (.inr ⟨c, t, rfl, h40, h41, h92, by rw [note.eq_def]; simp only [if_neg h40, if_neg h41, if_neg h92]⟩)
theorem note_40 {c : UInt8} {t : List UInt8} {d : Nat} (h : c.toNat = 40) : note (c :: t) d = if 32 ≤ d then .deep 0 else (note t (d + 1)).on [c] 1 := by rw [note.eq_def]; simp only [if_pos h]
theorem note_41 {c : UInt8} {t : List UInt8} {d : Nat} (h : c.toNat = 41) : note (c :: t) d = if d ≤ 1 then .fine [] 1 else (note t (d - 1)).on [c] 1 := by
  rw [note.eq_def]; simp only [if_neg (show ¬ c.toNat = 40 by omega), if_pos h]
theorem note_92 {c e : UInt8} {t : List UInt8} {d : Nat} (h : c.toNat = 92) : note (c :: e :: t) d = if fineB e then (note t d).on [c, e] 2 else .bad 1 := by
  rw [note.eq_def]; simp only [if_neg (show ¬ c.toNat = 40 by omega), if_neg (show ¬ c.toNat = 41 by omega), if_pos h]
theorem note_on {c : UInt8} {t : List UInt8} {d : Nat} (h0 : c.toNat ≠ 40) (h1 : c.toNat ≠ 41) (h2 : c.toNat ≠ 92) : note (c :: t) d = if fineB c then (note t d).on [c] 1 else .bad 0 := by
  rw [note.eq_def]; simp only [if_neg h0, if_neg h1, if_neg h2]
theorem note_fine (m : Nat) : ∀ (t x : List UInt8) (n d : Nat), t.length ≤ m → note t d = .fine x n → 0 < n ∧ n ≤ t.length ∧ x ++ [41] = t.take n ∧ ∀ r, note (t.take n ++ r) d = .fine x n := by
  induction m with
  | zero =>
    intro t x n d ht h
    obtain rfl : t = [] := List.eq_nil_of_length_eq_zero (by omega)
    rw [note] at h
    cases h
  | succ m ih =>
    intro t x n d ht h
    rcases note_cases t d with ⟨rfl, e⟩ | ⟨c, r, rfl, hc, e⟩ | ⟨c, r, rfl, hc, e⟩ | ⟨c, rfl, hc, e⟩ | ⟨c, b, r, rfl, hc, e⟩ | ⟨c, r, rfl, h0, h1, h2, e⟩
    · rw [e] at h; cases h
    · rw [e] at h
      by_cases hd : 32 ≤ d
      · rw [if_pos hd] at h; cases h
      · rw [if_neg hd] at h
        obtain ⟨x', n', hr, rfl, rfl⟩ := on_fine h
        simp only [List.length_cons] at ht
        obtain ⟨g1, g2, g3, g4⟩ := ih r x' n' _ (by omega) hr
        refine ⟨by omega, by simp only [List.length_cons]; omega, by rw [List.take_succ_cons, ← g3]; rfl, fun q => ?_⟩
        rw [List.take_succ_cons, List.cons_append, note_40 hc, if_neg hd, g4 q]
        rfl
    · rw [e] at h
      by_cases hd : d ≤ 1
      · rw [if_pos hd] at h
        injection h with h2 h3
        subst h2 h3
        refine ⟨by omega, by simp, by rw [byte_is hc]; rfl, fun q => ?_⟩
        show note (c :: q) d = _
        rw [note_41 hc, if_pos hd]
      · rw [if_neg hd] at h
        obtain ⟨x', n', hr, rfl, rfl⟩ := on_fine h
        simp only [List.length_cons] at ht
        obtain ⟨g1, g2, g3, g4⟩ := ih r x' n' _ (by omega) hr
        refine ⟨by omega, by simp only [List.length_cons]; omega, by rw [List.take_succ_cons, ← g3]; rfl, fun q => ?_⟩
        rw [List.take_succ_cons, List.cons_append, note_41 hc, if_neg hd, g4 q]
        rfl
    · rw [e] at h; cases h
    · rw [e] at h
      cases hb : fineB b with
      | false => rw [hb] at h; cases h
      | true =>
        rw [hb] at h
        obtain ⟨x', n', hr, rfl, rfl⟩ := on_fine h
        simp only [List.length_cons] at ht
        obtain ⟨g1, g2, g3, g4⟩ := ih r x' n' _ (by omega) hr
        refine ⟨by omega, by simp only [List.length_cons]; omega, by rw [List.take_succ_cons, List.take_succ_cons, ← g3]; rfl, fun q => ?_⟩
        rw [List.take_succ_cons, List.take_succ_cons, List.cons_append, List.cons_append, note_92 hc, hb, g4 q]
        rfl
    · rw [e] at h
      cases hb : fineB c with
      | false => rw [hb] at h; cases h
      | true =>
        rw [hb] at h
        obtain ⟨x', n', hr, rfl, rfl⟩ := on_fine h
        simp only [List.length_cons] at ht
        obtain ⟨g1, g2, g3, g4⟩ := ih r x' n' _ (by omega) hr
        refine ⟨by omega, by simp only [List.length_cons]; omega, by rw [List.take_succ_cons, ← g3]; rfl, fun q => ?_⟩
        rw [List.take_succ_cons, List.cons_append, note_on h0 h1 h2, hb, g4 q]
        rfl
end Lex
end Go.Proofs.YtmcjgdajnppbhaaGreatDoor
