/-
  PLAIN: where the first line's end stands. Conditions: as they stand in each. Nothing of the program is used here.
-/
import Derived.Test.YtkcabnodhdhaaaaDoorLinPlain
namespace Go.Proofs.YtkcabnodhdhaaaaDoor
namespace Lin
def last13 (l : List UInt8) : Bool := match l.getLast? with
  | some c => c.toNat == 13
  | none => false
/-- Is a line's end whole with the byte of b at k, behind a rest? -/
def endsAt (r b : List UInt8) (k : Nat) : Bool := b[k]!.toNat == 10 && (if 0 < k then b[k - 1]!.toNat == 13 else last13 r)
theorem whole_tail {c d : UInt8} {t : List UInt8} (h : wholes (c :: d :: t) = []) : ¬ (c.toNat = 13 ∧ d.toNat = 10) ∧ wholes (d :: t) = [] := by
  unfold wholes at h ⊢
  by_cases hc : c.toNat = 13 ∧ d.toNat = 10
  · rw [cut_end t hc] at h; cases h
  · refine ⟨hc, ?_⟩
    rw [cut_on t hc] at h
    generalize cut (d :: t) = C at h ⊢
    obtain ⟨ls, r⟩ := C
    cases ls with
    | nil => rfl
    | cons a b => cases h
theorem last13_snoc (l : List UInt8) (c : UInt8) : last13 (l ++ [c]) = (c.toNat == 13) := by
  unfold last13
  rw [List.getLast?_append]
  rfl
theorem last13_cons (a x : UInt8) (t : List UInt8) : last13 (a :: x :: t) = last13 (x :: t) := by
  unfold last13
  rw [List.getLast?_cons_cons]
theorem whole_snoc (c : UInt8) : ∀ l : List UInt8, wholes l = [] → ¬ (last13 l = true ∧ c.toNat = 10) → wholes (l ++ [c]) = []
  | [], _, _ => rfl
  | [a], _, h => by
    show (cut (a :: c :: [])).1 = []
    rw [cut_on [] (fun x => h ⟨by simp [last13, x.1], x.2⟩)]
    rfl
  | a :: x :: t, hw, h => by
    obtain ⟨h1, h2⟩ := whole_tail hw
    have ih := whole_snoc c (x :: t) h2 (by rw [← last13_cons a]; exact h)
    show (cut (a :: x :: (t ++ [c]))).1 = []
    rw [cut_on _ h1]
    unfold wholes at ih
    rw [List.cons_append] at ih
    generalize cut (x :: (t ++ [c])) = C at ih ⊢
    obtain ⟨ls, r⟩ := C
    cases ls with
    | nil => rfl
    | cons a b => cases ih
/-- The first line's end. -/
theorem cut_here {c d : UInt8} (hc : c.toNat = 13) (hd : d.toNat = 10) (u : List UInt8) : ∀ t : List UInt8, wholes (t ++ [c]) = [] → cut (t ++ c :: d :: u) = (t :: (cut u).1, (cut u).2)
  | [], _ => cut_end u ⟨hc, hd⟩
  | a :: t, h => by
    obtain ⟨x, y, e⟩ : ∃ x y, t ++ [c] = x :: y := by cases t with
      | nil => exact ⟨_, _, rfl⟩
      | cons x y => exact ⟨_, _, rfl⟩
    have e2 : t ++ c :: d :: u = x :: (y ++ d :: u) := by
      rw [show t ++ c :: d :: u = (t ++ [c]) ++ d :: u by simp, e]
      rfl
    rw [List.cons_append, e] at h
    obtain ⟨h1, h2⟩ := whole_tail h
    rw [← e] at h2
    have ih := cut_here hc hd u t h2
    rw [List.cons_append, e2, cut_on _ h1, ← e2, ih]
    rfl
theorem take_snoc (l : List UInt8) (k : Nat) (h : k < l.length) : l.take (k + 1) = l.take k ++ [l[k]!] := by
  rw [List.take_succ_eq_append_getElem h, getElem!_pos l k h]
theorem last13_take (r b : List UInt8) (k : Nat) (hk : k ≤ b.length) : last13 (r ++ b.take k) = (if 0 < k then b[k - 1]!.toNat == 13 else last13 r) := by
  cases k with
  | zero => simp
  | succ k =>
    rw [if_pos (by omega), take_snoc b k (by omega), ← List.append_assoc, last13_snoc]
    rfl
/-- No end at k: none up to there. -/
theorem no_end {r b : List UInt8} {k : Nat} (hk : k < b.length) (h : wholes (r ++ b.take k) = []) (he : endsAt r b k = false) : wholes (r ++ b.take (k + 1)) = [] := by
  rw [take_snoc b k hk, ← List.append_assoc]
  refine whole_snoc _ _ h fun x => ?_
  rw [last13_take r b k (by omega)] at x
  unfold endsAt at he
  rw [Bool.and_eq_false_iff] at he
  rcases he with he | he
  · rw [beq_eq_false_iff_ne] at he; exact he x.2
  · rw [he] at x; cases x.1
/-- An end at k: the line ahead of it, and what is behind. -/
theorem end_at {r b : List UInt8} {k : Nat} (hk : k < b.length) (h : wholes (r ++ b.take k) = []) (he : endsAt r b k = true) :
    ∃ t c d, r ++ b.take (k + 1) = t ++ [c, d] ∧ cut (r ++ b) = (t :: (cut (b.drop (k + 1))).1, (cut (b.drop (k + 1))).2) := by
  unfold endsAt at he
  rw [Bool.and_eq_true, beq_iff_eq, ← last13_take r b k (by omega)] at he
  obtain ⟨h10, h13⟩ := he
  obtain ⟨t, c, e⟩ : ∃ t c, r ++ b.take k = t ++ [c] := by
    rcases List.eq_nil_or_concat (r ++ b.take k) with e | ⟨t, c, e⟩
    · rw [e] at h13; cases h13
    · exact ⟨t, c, by rw [e, List.concat_eq_append]⟩
  rw [e, last13_snoc, beq_iff_eq] at h13
  rw [e] at h
  refine ⟨t, c, b[k]!, by rw [take_snoc b k hk, ← List.append_assoc, e, List.append_assoc]; rfl, ?_⟩
  have e3 : r ++ b = t ++ c :: b[k]! :: b.drop (k + 1) := by
    conv => lhs; rw [← List.take_append_drop (k + 1) b, take_snoc b k hk]
    rw [List.append_assoc, ← List.append_assoc r, e]
    simp
  rw [e3]
  exact cut_here h13 h10 _ t h
end Lin
end Go.Proofs.YtkcabnodhdhaaaaDoor
