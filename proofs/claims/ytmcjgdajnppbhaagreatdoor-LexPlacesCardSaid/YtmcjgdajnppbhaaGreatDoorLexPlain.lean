/-
  PLAIN: what an address is made of: tokens, by their first bytes. Conditions: none. Nothing of the program is used here.
-/
import Derived.Test.YtmcjgdajnppbhaaGreatDoorLexUtf
namespace Go.Proofs.YtmcjgdajnppbhaaGreatDoor
open Utf
namespace Lex
def atomN (n : Nat) : Bool :=
  decide (128 ≤ n) || (decide (97 ≤ n) && decide (n ≤ 122)) || (decide (65 ≤ n) && decide (n ≤ 90)) || (decide (48 ≤ n) && decide (n ≤ 57)) ||
    [33, 35, 36, 37, 38, 39, 42, 43, 45, 47, 61, 63, 94, 95, 96, 123, 124, 125, 126].contains n
def printN (n : Nat) : Bool := (decide (33 ≤ n) && decide (n ≤ 126)) || decide (128 ≤ n)
def blankN (n : Nat) : Bool := n == 32 || n == 9
def signN (n : Nat) : Bool := n == 60 || n == 62 || n == 58 || n == 59 || n == 64 || n == 44 || n == 46
/-- What may stand between the ends of a quote, or of a note. -/
def fineN (n : Nat) : Bool := blankN n || printN n
def atomB (c : UInt8) : Bool := atomN c.toNat
def blankB (c : UInt8) : Bool := blankN c.toNat
def fineB (c : UInt8) : Bool := fineN c.toNat
/-- How many bytes of blanks and folds it begins with. -/
def white : List UInt8 → Nat
  | [] => 0
  | c :: t =>
    if blankB c then white t + 1
    else match t with
      | d :: e :: r => if c.toNat = 13 ∧ d.toNat = 10 ∧ blankB e = true then white r + 3 else 0
      | _ => 0
/-- What comes of cutting: the text and how many bytes it has; where it is wrong; no end; where it is too deep. -/
inductive Cut where
  | fine (x : List UInt8) (n : Nat)
  | bad (i : Nat)
  | gap
  | deep (i : Nat)
/-- x and k bytes ahead of it. -/
def Cut.on (x : List UInt8) (k : Nat) : Cut → Cut
  | .fine y n => .fine (x ++ y) (n + k)
  | .bad i => .bad (i + k)
  | .gap => .gap
  | .deep i => .deep (i + k)
/-- The opening byte ahead of it. -/
def Cut.top : Cut → Cut
  | .fine x n => .fine x (n + 1)
  | .bad i => .bad (i + 1)
  | .gap => .bad 0
  | .deep i => .deep (i + 1)
/-- Behind the opening byte of a quote. -/
def quo : List UInt8 → Cut
  | [] => .gap
  | c :: t =>
    if c.toNat = 34 then .fine [] 1
    else if c.toNat = 92 then
      match t with
      | [] => .gap
      | d :: r => if fineB d then (quo r).on [d] 2 else .bad 1
    else if fineB c then (quo t).on [c] 1
    else .bad 0
/-- Behind the opening byte of a literal. -/
def lit : List UInt8 → Cut
  | [] => .gap
  | c :: t =>
    if c.toNat = 93 then .fine [] 1
    else if printN c.toNat = true ∧ c.toNat ≠ 91 ∧ c.toNat ≠ 92 then (lit t).on [c] 1
    else .bad 0
/-- Behind the opening byte of the outermost note, d deep. -/
def note : List UInt8 → Nat → Cut
  | [], _ => .gap
  | c :: t, d =>
    if c.toNat = 40 then (if 32 ≤ d then .deep 0 else (note t (d + 1)).on [c] 1)
    else if c.toNat = 41 then (if d ≤ 1 then .fine [] 1 else (note t (d - 1)).on [c] 1)
    else if c.toNat = 92 then
      match t with
      | [] => .gap
      | e :: r => if fineB e then (note r d).on [c, e] 2 else .bad 1
    else if fineB c then (note t d).on [c] 1
    else .bad 0
/-- The token that it begins with: its kind, and what comes of it. -/
def one : List UInt8 → Int × Cut
  | [] => (0, .bad 0)
  | c :: t =>
    if atomB c then (0, .fine ((c :: t).takeWhile atomB) ((c :: t).takeWhile atomB).length)
    else if signN c.toNat then (2, .fine [c] 1)
    else if white (c :: t) ≠ 0 then (4, .fine ((c :: t).take (white (c :: t))) (white (c :: t)))
    else if c.toNat = 34 then (1, (quo t).top)
    else if c.toNat = 91 then (5, (lit t).top)
    else if c.toNat = 40 then (3, (note t 1).top)
    else (0, .bad 0)
structure Tok where
  kind : Int
  text : List UInt8
  place : Nat
/-- All tokens: the error, the place, and they. -/
def all : Nat → Nat → List UInt8 → Int × Nat × List Tok
  | 0, _, _ => (0, 0, [])
  | f + 1, a, l =>
    if l = [] then (0, 0, [])
    else match one l with
      | (k, .fine x n) => if (all f (a + n) (l.drop n)).1 = 0 then (0, 0, ⟨k, x, a⟩ :: (all f (a + n) (l.drop n)).2.2) else all f (a + n) (l.drop n)
      | (_, .bad i) => (4, a + i, [])
      | (_, .deep i) => (6, a + i, [])
      | (_, .gap) => (4, a, [])
def lexE (l : List UInt8) : Int × Nat × List Tok :=
  if 2000 < l.length then (5, 0, [])
  else if (rdOf l).2 = -1 then all l.length 0 l
  else (7, (rdOf l).2.toNat, [])
/-- A \ ahead of what wants one. -/
def esc : List UInt8 → List UInt8
  | [] => []
  | c :: t => if c.toNat = 34 ∨ c.toNat = 92 then 92 :: c :: esc t else c :: esc t
def srcT (k : Int) (x : List UInt8) : List UInt8 :=
  if k = 3 then 40 :: (x ++ [41]) else if k = 5 then 91 :: (x ++ [93]) else if k = 1 then 34 :: (esc x ++ [34]) else x
def plainT (l : List UInt8) : Bool := !l.isEmpty && l.all atomB
/-- The parts between dots. -/
def dotL : List UInt8 → List (List UInt8)
  | [] => [[]]
  | c :: t => if c.toNat = 46 then [] :: dotL t else match dotL t with
    | [] => [[c]]
    | h :: r => (c :: h) :: r
def wordsT (l : List UInt8) : Bool := (dotL l).all plainT
/-! ### bytes -/
theorem bytes_all {p : UInt8 → Bool} (h : ∀ n, n < 256 → p (UInt8.ofNat n) = true) (c : UInt8) : p c = true := by
  have := h c.toNat (UInt8.toNat_lt c)
  rwa [UInt8.ofNat_toNat] at this
theorem atom_is : ∀ n, n < 256 → (!atomN n || (fineN n && !signN n && !blankN n && n != 13 && n != 34 && n != 91 && n != 40 && n != 46 && n != 41 && n != 92 && n != 93)) = true := by decide +kernel
theorem sign_is2 : ∀ n, n < 256 → (!signN n || (fineN n && !atomN n && !blankN n && n != 13 && n != 34 && n != 91 && n != 40 && decide (n < 128))) = true := by decide +kernel
theorem ends_fine : fineN 34 = true ∧ fineN 92 = true ∧ fineN 40 = true ∧ fineN 41 = true := by decide
/-! ### blanks and folds -/
theorem white_blank {c : UInt8} {t : List UInt8} (h : blankB c = true) : white (c :: t) = white t + 1 := by
  rw [white.eq_def]
  simp only [h, if_true]
theorem white_fold {c d e : UInt8} {r : List UInt8} (h0 : blankB c = false) (h : c.toNat = 13 ∧ d.toNat = 10 ∧ blankB e = true) : white (c :: d :: e :: r) = white r + 3 := by
  rw [white.eq_def]
  simp only [h0, if_pos h, Bool.false_eq_true, if_false]
theorem white_cases (l : List UInt8) : (white l = 0) ∨ (∃ c t, l = c :: t ∧ blankB c = true) ∨ (∃ c d e r, l = c :: d :: e :: r ∧ blankB c = false ∧ c.toNat = 13 ∧ d.toNat = 10 ∧ blankB e = true) := by
  match l with
  | [] => exact .inl rfl
  | c :: t =>
    cases hc : blankB c with
    | true => exact .inr (.inl ⟨c, t, rfl, hc⟩)
    | false =>
      match t with
      | [] => left; rw [white.eq_def]; simp [hc]
      | [_] => left; rw [white.eq_def]; simp [hc]
      | d :: e :: r =>
        by_cases h : c.toNat = 13 ∧ d.toNat = 10 ∧ blankB e = true
        · exact .inr (.inr ⟨c, d, e, r, rfl, hc, h⟩)
        · left
          rw [white.eq_def]
          simp only [hc, if_neg h, Bool.false_eq_true, if_false]
theorem white_all (n : Nat) : ∀ l r : List UInt8, l.length ≤ n → white l ≤ l.length ∧ white (l.take (white l) ++ r) = white l + white r := by
  induction n with
  | zero =>
    intro l r h
    obtain rfl : l = [] := List.eq_nil_of_length_eq_zero (by omega)
    exact ⟨Nat.le_refl _, by show white r = 0 + white r; omega⟩
  | succ n ih =>
    intro l r h
    rcases white_cases l with h0 | ⟨c, t, rfl, hc⟩ | ⟨c, d, e, q, rfl, hc, hf⟩
    · rw [h0]
      exact ⟨Nat.zero_le _, by simp⟩
    · rw [List.length_cons] at h
      obtain ⟨h1, h2⟩ := ih t r (by omega)
      rw [white_blank hc, List.take_succ_cons, List.cons_append, white_blank hc, h2, List.length_cons]
      omega
    · simp only [List.length_cons] at h
      obtain ⟨h1, h2⟩ := ih q r (by omega)
      rw [white_fold hc hf, List.take_succ_cons, List.take_succ_cons, List.take_succ_cons, List.cons_append, List.cons_append, List.cons_append, white_fold hc hf, h2]
      simp only [List.length_cons]
      omega
theorem white_le (l : List UInt8) : white l ≤ l.length := (white_all _ l [] (Nat.le_refl _)).1
theorem white_app (l r : List UInt8) : white (l.take (white l) ++ r) = white l + white r := (white_all _ l r (Nat.le_refl _)).2
theorem white_end (l : List UInt8) : white (l.drop (white l)) = 0 := by
  have := white_app l (l.drop (white l))
  rw [List.take_append_drop] at this
  omega
theorem white_head {c : UInt8} {t : List UInt8} (h : white (c :: t) ≠ 0) : blankN c.toNat = true ∨ c.toNat = 13 := by
  rcases white_cases (c :: t) with h0 | ⟨c', t', e, hc⟩ | ⟨c', d, e', q, e, hc, hf⟩
  · exact absurd h0 h
  · injection e with e1 e2; subst e1; exact .inl hc
  · injection e with e1 e2; subst e1; exact .inr hf.1
theorem white_none {c : UInt8} {t : List UInt8} (h : blankN c.toNat = false) (h2 : c.toNat ≠ 13) : white (c :: t) = 0 := by
  by_cases h0 : white (c :: t) = 0
  · exact h0
  · rcases white_head h0 with h3 | h3
    · rw [h] at h3; cases h3
    · exact absurd h3 h2
end Lex
end Go.Proofs.YtmcjgdajnppbhaaGreatDoor
