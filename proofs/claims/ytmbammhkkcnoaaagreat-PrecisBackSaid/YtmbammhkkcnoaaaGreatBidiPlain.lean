/-
  PLAIN: directions within a row of characters: what they tell, and what follows: marks at the end do not matter, the two sides do not stand together, ASCII, a digit behind. Conditions: as they stand in each. Nothing of the program is imported here.
-/
import Derived.Test.YtmbammhkkcnoaaaGreatTab
namespace Go.Proofs.YtmbammhkkcnoaaaGreat
namespace Bidi
def strong (b : Int) : Bool := b == 2 || b == 3 || b == 5
def has (l : List Int) : Bool := l.any fun r => strong (bidiOf r)
def sideB (b : Int) : Int := if b = 3 then 2 else if b = 1 ∨ b = 2 then b else 0
def side : List Int → Int
  | [] => 0
  | r :: _ => sideB (bidiOf r)
/-- The direction of the last one that is no mark. -/
def stopR : List Int → Int
  | [] => 0
  | r :: l => if bidiOf r = 6 then stopR l else bidiOf r
def stop (l : List Int) : Int := stopR l.reverse
def any (b : Int) (l : List Int) : Bool := l.any fun r => bidiOf r == b
def goodR (s : Int) : Bool := s == 2 || s == 3 || s == 4 || s == 5
def goodL (s : Int) : Bool := s == 1 || s == 4
def ruleOf (l : List Int) : Bool :=
  if side l = 2 then !any 1 l && goodR (stop l) && !(any 4 l && any 5 l)
  else if side l = 1 then !has l && goodL (stop l) else false
def rule (l : List Int) : Bool := l.isEmpty || ruleOf l
theorem rule_ne {l : List Int} (h : l ≠ []) : rule l = ruleOf l := by
  cases l with
  | nil => exact absurd rfl h
  | cons a l => rfl
theorem side_cases (l : List Int) : side l = 0 ∨ side l = 1 ∨ side l = 2 := by
  cases l with
  | nil => exact .inl rfl
  | cons a l => unfold side sideB; split <;> (try split) <;> omega
theorem side_app {l : List Int} (h : l ≠ []) (m : List Int) : side (l ++ m) = side l := by
  cases l with
  | nil => exact absurd rfl h
  | cons a l => rfl
theorem any_app (b : Int) (l m : List Int) : any b (l ++ m) = (any b l || any b m) := by unfold any; rw [List.any_append]
theorem has_app (l m : List Int) : has (l ++ m) = (has l || has m) := by unfold has; rw [List.any_append]
theorem has_any (l : List Int) : has l = (any 2 l || any 3 l || any 5 l) := by
  unfold has any strong
  induction l with
  | nil => rfl
  | cons a l ih =>
    simp only [List.any_cons, ih]
    cases (bidiOf a == 2) <;> cases (bidiOf a == 3) <;> cases (bidiOf a == 5) <;> simp
theorem any_none {b : Int} {l : List Int} (h : ∀ r ∈ l, bidiOf r ≠ b) : any b l = false := by
  unfold any
  rw [List.any_eq_false]
  intro r hr
  simpa using h r hr
theorem stopR_marks : ∀ {m : List Int} (l : List Int), (∀ r ∈ m, bidiOf r = 6) → stopR (m ++ l) = stopR l
  | [], _, _ => rfl
  | a :: m, l, h => by
    rw [List.cons_append, stopR, if_pos (h a (by simp))]
    exact stopR_marks l fun r hr => h r (by simp [hr])
/-- Marks at the end do not matter. -/
theorem marks {l m : List Int} (hl : l ≠ []) (hm : ∀ r ∈ m, bidiOf r = 6) : rule (l ++ m) = rule l ∧ stop (l ++ m) = stop l ∧ has (l ++ m) = has l := by
  have h1 := side_app hl m
  have h2 : stop (l ++ m) = stop l := by
    unfold stop
    rw [List.reverse_append]
    exact stopR_marks _ fun r hr => hm r (by simpa using hr)
  have hany : ∀ b, b ≠ 6 → any b (l ++ m) = any b l := fun b hb => by
    rw [any_app, any_none (b := b) (l := m) fun r hr => by rw [hm r hr]; exact fun e => hb e.symm, Bool.or_false]
  have h3 : has (l ++ m) = has l := by rw [has_any, has_any, hany 2 (by decide), hany 3 (by decide), hany 5 (by decide)]
  refine ⟨?_, h2, h3⟩
  rw [rule_ne hl, rule_ne (by simp [hl])]
  unfold ruleOf
  rw [h1, h2, h3, hany 1 (by decide), hany 4 (by decide), hany 5 (by decide)]
theorem stop_last (l : List Int) (x : Int) (h : bidiOf x ≠ 6) : stop (l ++ [x]) = bidiOf x := by
  unfold stop
  rw [List.reverse_append]
  show stopR (x :: l.reverse) = _
  rw [stopR, if_neg h]
theorem sideB_two {b : Int} (h : sideB b = 2) : b = 2 ∨ b = 3 := by
  unfold sideB at h
  by_cases h3 : b = 3
  · exact .inr h3
  · rw [if_neg h3] at h
    by_cases h4 : b = 1 ∨ b = 2
    · rw [if_pos h4] at h; exact .inl h
    · rw [if_neg h4] at h; omega
theorem sideB_one {b : Int} (h : sideB b = 1) : b = 1 := by
  unfold sideB at h
  by_cases h3 : b = 3
  · rw [if_pos h3] at h; omega
  · rw [if_neg h3] at h
    by_cases h4 : b = 1 ∨ b = 2
    · rw [if_pos h4] at h; exact h
    · rw [if_neg h4] at h; omega
theorem side_two {l : List Int} (h : side l = 2) : any 2 l = true ∨ any 3 l = true := by
  cases l with
  | nil => cases h
  | cons a l =>
    unfold any
    simp only [List.any_cons, Bool.or_eq_true, beq_iff_eq]
    rcases sideB_two h with h | h
    · exact .inl (.inl h)
    · exact .inr (.inl h)
theorem side_one {l : List Int} (h : side l = 1) : any 1 l = true := by
  cases l with
  | nil => cases h
  | cons a l =>
    unfold any
    simp only [List.any_cons, Bool.or_eq_true, beq_iff_eq]
    exact .inl (sideB_one h)
theorem dash_bidi : bidiOf 45 = 7 := by decide +kernel
/-- What has the rule has one side alone, and neither begins nor ends with a dash. -/
theorem sides {l : List Int} (hl : l ≠ []) (h : rule l = true) : any 1 l = !has l ∧ (∀ x t, l = x :: t → x ≠ 45) ∧ (∀ p x, l = p ++ [x] → x ≠ 45) := by
  rw [rule_ne hl] at h
  have hst : side l ≠ 0 ∧ (goodR (stop l) = true ∨ goodL (stop l) = true) ∧ any 1 l = !has l := by
    unfold ruleOf at h
    rcases side_cases l with e | e | e
    · rw [if_neg (by omega), if_neg (by omega)] at h; cases h
    · rw [if_neg (by omega), if_pos e, Bool.and_eq_true, Bool.not_eq_true'] at h
      exact ⟨by omega, .inr h.2, by rw [h.1, side_one e]; rfl⟩
    · rw [if_pos e, Bool.and_eq_true, Bool.and_eq_true, Bool.not_eq_true'] at h
      refine ⟨by omega, .inl h.1.2, ?_⟩
      rw [h.1.1, has_any]
      rcases side_two e with e2 | e2 <;> rw [e2] <;> simp
  refine ⟨hst.2.2, fun x t e hx => ?_, fun p x e hx => ?_⟩
  · apply hst.1
    rw [e, hx]
    show sideB (bidiOf 45) = 0
    rw [dash_bidi]
    rfl
  · have : stop l = 7 := by rw [e, hx, stop_last _ _ (by rw [dash_bidi]; decide), dash_bidi]
    rw [this] at hst
    rcases hst.2.1 with h | h <;> exact absurd h (by decide)
def plainC (c : Int) : Bool := (decide (97 ≤ c) && decide (c ≤ 122)) || (decide (65 ≤ c) && decide (c ≤ 90)) || (decide (48 ≤ c) && decide (c ≤ 57)) || c == 45
def plainOk (c : Int) : Bool := !plainC c || (if c = 45 then bidiOf c == 7 else if c < 65 then bidiOf c == 4 else bidiOf c == 1)
theorem rows_plain : ∀ i ∈ List.range 128, plainOk (i : Nat) = true := by decide +kernel
theorem plain_bidi {c : Int} (h : plainC c = true) : (c = 45 ∧ bidiOf c = 7) ∨ (c ≠ 45 ∧ c < 65 ∧ bidiOf c = 4) ∨ (65 ≤ c ∧ bidiOf c = 1) := by
  have hb : 0 ≤ c ∧ c < 128 := by
    unfold plainC at h
    simp only [Bool.or_eq_true, Bool.and_eq_true, decide_eq_true_eq, beq_iff_eq] at h
    omega
  have := rows_plain c.toNat (by rw [List.mem_range]; omega)
  rw [show ((c.toNat : Nat) : Int) = c by omega] at this
  unfold plainOk at this
  rw [h, Bool.not_true, Bool.false_or] at this
  split at this
  · exact .inl ⟨by assumption, by simpa using this⟩
  · split at this
    · exact .inr (.inl ⟨by assumption, by assumption, by simpa using this⟩)
    · exact .inr (.inr ⟨by omega, by simpa using this⟩)
/-- Letters, digits and dashes of ASCII. -/
theorem plain {l p : List Int} {x : Int} (h : ∀ c ∈ l, plainC c = true) (hl : l = p ++ [x]) : rule l = (decide (65 ≤ l.head!) && x != 45) ∧ has l = false := by
  have hb : ∀ c ∈ l, bidiOf c = 7 ∨ bidiOf c = 4 ∨ bidiOf c = 1 := fun c hc => by rcases plain_bidi (h c hc) with ⟨_, h⟩ | ⟨_, _, h⟩ | ⟨_, h⟩ <;> simp [h]
  have hh : has l = false := by
    rw [has_any, any_none fun r hr => by have := hb r hr; omega, any_none fun r hr => by have := hb r hr; omega, any_none fun r hr => by have := hb r hr; omega]
    rfl
  refine ⟨?_, hh⟩
  have hne : l ≠ [] := by rw [hl]; simp
  have hx := plain_bidi (h x (by rw [hl]; simp))
  have hstop : stop l = bidiOf x := by rw [hl]; exact stop_last p x (by rcases hx with ⟨_, h⟩ | ⟨_, _, h⟩ | ⟨_, h⟩ <;> omega)
  cases l with
  | nil => exact absurd rfl hne
  | cons a t =>
    have ha := plain_bidi (h a (by simp))
    rw [rule_ne hne]
    show ruleOf (a :: t) = (decide (65 ≤ a) && x != 45)
    have hs : side (a :: t) = sideB (bidiOf a) := rfl
    unfold ruleOf
    rw [hs, hh, hstop]
    rcases ha with ⟨rfl, h1⟩ | ⟨_, h2, h1⟩ | ⟨h2, h1⟩
    · rw [h1]; rfl
    · rw [h1, decide_eq_false (by omega)]; rfl
    · rw [h1, decide_eq_true h2]
      rcases hx with ⟨rfl, g1⟩ | ⟨g2, _, g1⟩ | ⟨g2, g1⟩
      · rw [g1]; rfl
      · rw [g1, show (x != 45) = true by simpa using g2]; rfl
      · rw [g1, show (x != 45) = true by rw [bne_iff_ne]; omega]; rfl
theorem rows_digit : ∀ i ∈ List.range 10, bidiOf (48 + (i : Nat)) = 4 := by decide +kernel
theorem digit_bidi {c : Int} (h : 48 ≤ c ∧ c ≤ 57) : bidiOf c = 4 := by
  have := rows_digit (c - 48).toNat (by rw [List.mem_range]; omega)
  rwa [show (48 : Int) + ((c - 48).toNat : Int) = c by omega] at this
/-- A digit of ASCII behind what has the rule. -/
theorem digits {l : List Int} (hl : l ≠ []) (h : rule l = true) {c : Int} (hc : 48 ≤ c ∧ c ≤ 57) : rule (l ++ [c]) = !any 5 l ∧ side (l ++ [c]) = side l ∧ stop (l ++ [c]) = 4 := by
  have h4 := digit_bidi hc
  have h1 := side_app hl [c]
  have h2 : stop (l ++ [c]) = 4 := by rw [stop_last _ _ (by omega), h4]
  refine ⟨?_, h1, h2⟩
  rw [rule_ne hl] at h
  rw [rule_ne (by simp)]
  have a1 : any 1 (l ++ [c]) = any 1 l := by rw [any_app]; simp [any, h4]
  have a4 : any 4 (l ++ [c]) = true := by rw [any_app]; simp [any, h4]
  have a5 : any 5 (l ++ [c]) = any 5 l := by rw [any_app]; simp [any, h4]
  have ah : has (l ++ [c]) = has l := by rw [has_app]; simp [has, strong, h4]
  unfold ruleOf at h ⊢
  rw [h1, h2, a1, a4, a5, ah]
  rcases side_cases l with e | e | e
  · rw [if_neg (by omega), if_neg (by omega)] at h; cases h
  · rw [if_neg (by omega), if_pos e, Bool.and_eq_true, Bool.not_eq_true'] at h
    rw [if_neg (by omega), if_pos e, h.1]
    rw [has_any] at h
    simp only [Bool.or_eq_false_iff] at h
    rw [h.1.2]
    rfl
  · rw [if_pos e, Bool.and_eq_true, Bool.and_eq_true] at h
    rw [if_pos e, h.1.1]
    simp [goodR]
end Bidi
end Go.Proofs.YtmbammhkkcnoaaaGreat
