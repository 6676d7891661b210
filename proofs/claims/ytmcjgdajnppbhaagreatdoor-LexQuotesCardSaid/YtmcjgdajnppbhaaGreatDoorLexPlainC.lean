/-
  PLAIN: tokens one behind the other, and their Sources. Conditions: none. Nothing of the program is used here.
-/
import Derived.Test.YtmcjgdajnppbhaaGreatDoorLexPlainB
namespace Go.Proofs.YtmcjgdajnppbhaaGreatDoor
open Utf
namespace Lex
theorem while_all (p : UInt8 → Bool) : ∀ l : List UInt8, (l.takeWhile p).length ≤ l.length ∧ l.takeWhile p = l.take (l.takeWhile p).length ∧ (∀ b ∈ l.takeWhile p, p b = true) ∧ ∀ c t, l.drop (l.takeWhile p).length = c :: t → p c = false
  | [] => ⟨Nat.le_refl _, rfl, fun b hb => (by cases hb), fun c t h => (by cases h)⟩
  | x :: l => by
    obtain ⟨h1, h2, h3, h4⟩ := while_all p l
    cases hx : p x with
    | true =>
      rw [List.takeWhile_cons, hx]
      simp only [if_true, List.length_cons, List.take_succ_cons, List.drop_succ_cons]
      refine ⟨by omega, congrArg _ h2, fun b hb => ?_, h4⟩
      rcases List.mem_cons.1 hb with rfl | hb
      · exact hx
      · exact h3 b hb
    | false =>
      rw [List.takeWhile_cons, hx]
      simp only [Bool.false_eq_true, if_false]
      refine ⟨Nat.zero_le _, rfl, fun b hb => (by cases hb), fun c t h => ?_⟩
      injection h with e1 e2
      rw [← e1]
      exact hx
theorem while_app (p : UInt8 → Bool) : ∀ (x r : List UInt8), (∀ b ∈ x, p b = true) → (∀ c t, r = c :: t → p c = false) → (x ++ r).takeWhile p = x
  | [], r, _, hr => by
    cases r with
    | nil => rfl
    | cons c t =>
      show (c :: t).takeWhile p = []
      rw [List.takeWhile_cons, hr c t rfl]
      rfl
  | b :: x, r, hx, hr => by
    rw [List.cons_append, List.takeWhile_cons, hx b (by simp), if_pos rfl, while_app p x r (fun y hy => hx y (by simp [hy])) hr]
theorem atom_not (c : UInt8) : atomB c = true → fineB c = true ∧ signN c.toNat = false ∧ blankN c.toNat = false ∧ c.toNat ≠ 13 ∧ c.toNat ≠ 34 ∧ c.toNat ≠ 91 ∧ c.toNat ≠ 40 ∧ c.toNat ≠ 41 ∧ c.toNat ≠ 92 := by
  intro h
  have h2 := atom_is c.toNat (lt256 c)
  unfold atomB at h
  rw [h] at h2
  simp only [Bool.not_true, Bool.false_or, Bool.and_eq_true, Bool.not_eq_true', bne_iff_ne, ne_eq] at h2
  unfold fineB
  obtain ⟨⟨⟨⟨⟨⟨⟨⟨⟨⟨g1, g2⟩, g3⟩, g4⟩, g5⟩, g6⟩, g7⟩, -⟩, g8⟩, g9⟩, -⟩ := h2
  exact ⟨g1, g2, g3, g4, g5, g6, g7, g8, g9⟩
theorem sign_not (c : UInt8) : signN c.toNat = true → fineB c = true ∧ atomB c = false ∧ blankN c.toNat = false ∧ c.toNat ≠ 13 ∧ c.toNat ≠ 34 ∧ c.toNat ≠ 91 ∧ c.toNat ≠ 40 ∧ c.toNat < 128 := by
  intro h
  have h2 := sign_is2 c.toNat (lt256 c)
  rw [h] at h2
  simp only [Bool.not_true, Bool.false_or, Bool.and_eq_true, Bool.not_eq_true', bne_iff_ne, ne_eq, decide_eq_true_eq] at h2
  unfold fineB atomB
  obtain ⟨⟨⟨⟨⟨⟨⟨g1, g2⟩, g3⟩, g4⟩, g5⟩, g6⟩, g7⟩, g8⟩ := h2
  exact ⟨g1, g2, g3, g4, g5, g6, g7, g8⟩
theorem others_not : (∀ n, n < 256 → (!(blankN n || n == 13 || n == 34 || n == 91 || n == 40) || (!atomN n && !signN n)) = true) ∧ blankN 34 = false ∧ blankN 91 = false ∧ blankN 40 = false ∧ blankN 13 = false := by decide +kernel
theorem other_is {c : UInt8} (h : blankN c.toNat = true ∨ c.toNat = 13 ∨ c.toNat = 34 ∨ c.toNat = 91 ∨ c.toNat = 40) : atomB c = false ∧ signN c.toNat = false := by
  have h2 := others_not.1 c.toNat (lt256 c)
  have : (blankN c.toNat || c.toNat == 13 || c.toNat == 34 || c.toNat == 91 || c.toNat == 40) = true := by
    rcases h with h | h | h | h | h <;> simp [h]
  rw [this] at h2
  simp only [Bool.not_true, Bool.false_or, Bool.and_eq_true, Bool.not_eq_true'] at h2
  exact h2
theorem one_atom {c : UInt8} (t : List UInt8) (h : atomB c = true) : one (c :: t) = (0, .fine ((c :: t).takeWhile atomB) ((c :: t).takeWhile atomB).length) := by rw [one, if_pos h]
theorem one_sign {c : UInt8} (t : List UInt8) (h : signN c.toNat = true) : one (c :: t) = (2, .fine [c] 1) := by rw [one, if_neg (by rw [(sign_not c h).2.1]; decide), if_pos h]
theorem one_white {c : UInt8} {t : List UInt8} (h : white (c :: t) ≠ 0) : one (c :: t) = (4, .fine ((c :: t).take (white (c :: t))) (white (c :: t))) := by
  obtain ⟨h1, h2⟩ := other_is (c := c) (by rcases white_head h with h | h; exact .inl h; exact .inr (.inl h))
  rw [one, if_neg (by rw [h1]; decide), if_neg (by rw [h2]; decide), if_pos h]
theorem one_quo (c : UInt8) (t : List UInt8) (hc : c.toNat = 34) : one (c :: t) = (1, (quo t).top) := by
  obtain ⟨h1, h2⟩ := other_is (c := c) (.inr (.inr (.inl hc)))
  rw [one, if_neg (by rw [h1]; decide), if_neg (by rw [h2]; decide), if_neg (by rw [white_none (by rw [hc]; exact others_not.2.1) (by omega)]; decide), if_pos hc]
theorem one_lit (c : UInt8) (t : List UInt8) (hc : c.toNat = 91) : one (c :: t) = (5, (lit t).top) := by
  obtain ⟨h1, h2⟩ := other_is (c := c) (.inr (.inr (.inr (.inl hc))))
  rw [one, if_neg (by rw [h1]; decide), if_neg (by rw [h2]; decide), if_neg (by rw [white_none (by rw [hc]; exact others_not.2.2.1) (by omega)]; decide), if_neg (by omega), if_pos hc]
theorem one_note (c : UInt8) (t : List UInt8) (hc : c.toNat = 40) : one (c :: t) = (3, (note t 1).top) := by
  obtain ⟨h1, h2⟩ := other_is (c := c) (.inr (.inr (.inr (.inr hc))))
  rw [one, if_neg (by rw [h1]; decide), if_neg (by rw [h2]; decide), if_neg (by rw [white_none (by rw [hc]; exact others_not.2.2.2.1) (by omega)]; decide), if_neg (by omega), if_neg (by omega), if_pos hc]
theorem one_cases (c : UInt8) (t : List UInt8) : (atomB c = true) ∨ (signN c.toNat = true) ∨ (white (c :: t) ≠ 0) ∨ c.toNat = 34 ∨ c.toNat = 91 ∨ c.toNat = 40 ∨ (one (c :: t) = (0, .bad 0)) := by
  by_cases h1 : atomB c = true
  · exact .inl h1
  by_cases h2 : signN c.toNat = true
  · exact .inr (.inl h2)
  by_cases h3 : white (c :: t) ≠ 0
  · exact .inr (.inr (.inl h3))
  by_cases h4 : c.toNat = 34
  · exact .inr (.inr (.inr (.inl h4)))
  by_cases h5 : c.toNat = 91
  · exact .inr (.inr (.inr (.inr (.inl h5))))
  by_cases h6 : c.toNat = 40
  · exact .inr (.inr (.inr (.inr (.inr (.inl h6)))))
  · exact .inr (.inr (.inr (.inr (.inr (.inr (by rw [one, if_neg h1, if_neg h2, if_neg h3, if_neg h4, if_neg h5, if_neg h6]))))))
theorem top_fine {r : Cut} {x : List UInt8} {n : Nat} (h : r.top = .fine x n) : ∃ m, r = .fine x m ∧ n = m + 1 := by
  cases r with
  | fine x' n' => injection h with h1 h2; exact ⟨n', by rw [h1], h2.symm⟩
  | bad i => cases h
  | gap => cases h
  | deep i => cases h
/-- What a token tells, and that its Source is cut into it again. -/
theorem one_fine {l x : List UInt8} {k : Int} {n : Nat} (h : one l = (k, .fine x n)) : 0 < n ∧ n ≤ l.length ∧ (srcT k x).length ≤ n ∧ (k ≠ 1 → srcT k x = l.take n) ∧
    (k = 1 → x.length + 2 ≤ n ∧ ∀ pre, ok (pre ++ l) → ok (pre ++ (srcT k x ++ l.drop n))) ∧ (∃ c t u, l = c :: t ∧ srcT k x = c :: u ∧ (c.toNat = 13 → white l ≠ 0)) ∧
    ∀ r, (k = 0 → (∀ c t, l.drop n = c :: t → atomB c = false) → ∀ c t, r = c :: t → atomB c = false) → (k = 4 → white (l.drop n) = 0 → white r = 0) → one (srcT k x ++ r) = (k, .fine x (srcT k x).length) := by
  cases l with
  | nil => exact absurd h (by rw [one]; intro e; cases e)
  | cons c t =>
    rcases one_cases c t with h1 | h1 | h1 | h1 | h1 | h1 | h1
    · obtain ⟨w1, w2, w3, w4⟩ := while_all atomB (c :: t)
      have hne : (c :: t).takeWhile atomB = c :: t.takeWhile atomB := by rw [List.takeWhile_cons, if_pos h1]
      rw [one_atom t h1] at h
      injection h with hk hx
      injection hx with hx hn
      subst hk hx hn
      have hs : srcT 0 ((c :: t).takeWhile atomB) = (c :: t).takeWhile atomB := rfl
      rw [hs]
      refine ⟨by rw [hne]; simp, w1, Nat.le_refl _, fun _ => w2, fun e => absurd e (by decide), ⟨c, t, _, rfl, hne, fun e => absurd e (atom_not c h1).2.2.2.1⟩, fun r hr _ => ?_⟩
      have hr' := hr rfl w4
      have hw := while_app atomB _ r w3 hr'
      rw [hne, List.cons_append] at hw ⊢
      rw [one_atom _ h1, hw]
    · rw [one_sign t h1] at h
      injection h with hk hx
      injection hx with hx hn
      subst hk hx hn
      refine ⟨by omega, by simp, by simp [srcT], fun _ => rfl, fun e => absurd e (by decide), ⟨c, t, [], rfl, rfl, fun e => absurd e (sign_not c h1).2.2.2.1⟩, fun r _ _ => ?_⟩
      show one (c :: r) = _
      rw [one_sign r h1]
      rfl
    · have hwl := white_le (c :: t)
      have hwa := white_app (c :: t)
      have hwe := white_end (c :: t)
      rw [one_white h1] at h
      injection h with hk hx
      injection hx with hx hn
      obtain ⟨n, hn'⟩ : ∃ n, n = white (c :: t) := ⟨_, rfl⟩
      rw [← hn'] at hx hn hwl hwa hwe h1
      subst hk hx hn
      have hs : srcT 4 ((c :: t).take n) = (c :: t).take n := rfl
      have hl : ((c :: t).take n).length = n := by rw [List.length_take]; omega
      obtain ⟨n', rfl⟩ : ∃ n', n = n' + 1 := ⟨n - 1, by omega⟩
      rw [hs, hl]
      refine ⟨by omega, hwl, Nat.le_refl _, fun _ => rfl, fun e => absurd e (by decide), ⟨c, t, _, rfl, rfl, fun _ => by rw [← hn']; exact h1⟩, fun r _ hr => ?_⟩
      have hwr := hwa r
      rw [hr rfl hwe, Nat.add_zero] at hwr
      rw [List.take_succ_cons, List.cons_append] at hwr ⊢
      rw [one_white (by rw [hwr]; omega), hwr]
      rw [List.take_succ_cons, List.take_append_of_le_length (by rw [List.length_take]; simp only [List.length_cons] at hwl; omega), List.take_take, Nat.min_self]
    · rw [one_quo c t h1] at h
      injection h with hk hx
      obtain ⟨m, hq, rfl⟩ := top_fine hx
      subst hk
      obtain ⟨g1, g2, g3, g4, g5, g6⟩ := quo_fine _ t x m (Nat.le_refl _) hq
      have hs : srcT 1 x = c :: (esc x ++ [34]) := by rw [byte_is h1]; rfl
      rw [hs]
      refine ⟨by omega, by simp only [List.length_cons]; omega, by simp only [List.length_cons, List.length_append, List.length_nil]; omega, fun e => absurd rfl e, fun _ => ⟨by omega, fun pre hp => ?_⟩, ⟨c, t, _, rfl, rfl, fun e => by omega⟩, fun r _ _ => ?_⟩
      · have := g6 (pre ++ [c]) (by simpa using hp)
        simpa using this
      · rw [List.cons_append, List.append_assoc, one_quo c _ h1]
        show (1, (quo (esc x ++ 34 :: r)).top) = _
        rw [quo_back x r g5]
        simp only [Cut.top, List.length_cons, List.length_append, List.length_nil]
    · rw [one_lit c t h1] at h
      injection h with hk hx
      obtain ⟨m, hq, rfl⟩ := top_fine hx
      subst hk
      obtain ⟨g1, g2, g3, g4⟩ := lit_fine t x m hq
      have hs : srcT 5 x = c :: t.take m := by rw [byte_is h1, ← g3]; rfl
      have hl : (c :: t.take m).length = m + 1 := by rw [List.length_cons, List.length_take]; omega
      rw [hs, hl]
      refine ⟨by omega, by simp only [List.length_cons]; omega, Nat.le_refl _, fun _ => (List.take_succ_cons).symm, fun e => absurd e (by decide), ⟨c, t, _, rfl, rfl, fun e => by omega⟩, fun r _ _ => ?_⟩
      rw [List.cons_append, one_lit c _ h1, g4 r]
      rfl
    · rw [one_note c t h1] at h
      injection h with hk hx
      obtain ⟨m, hq, rfl⟩ := top_fine hx
      subst hk
      obtain ⟨g1, g2, g3, g4⟩ := note_fine _ t x m 1 (Nat.le_refl _) hq
      have hs : srcT 3 x = c :: t.take m := by rw [byte_is h1, ← g3]; rfl
      have hl : (c :: t.take m).length = m + 1 := by rw [List.length_cons, List.length_take]; omega
      rw [hs, hl]
      refine ⟨by omega, by simp only [List.length_cons]; omega, Nat.le_refl _, fun _ => (List.take_succ_cons).symm, fun e => absurd e (by decide), ⟨c, t, _, rfl, rfl, fun e => by omega⟩, fun r _ _ => ?_⟩
      rw [List.cons_append, one_note c _ h1, g4 r]
      rfl
    · rw [h1] at h
      injection h with hk hx
      cases hx
end Lex
end Go.Proofs.YtmcjgdajnppbhaaGreatDoor
