/-
  PLAIN: what Encode writes, all of it: the characters that rise, the bytes; how each loop of a writer goes on. Conditions: as they stand in each. Nothing of the program is imported here.
-/
import Derived.Test.YtkgikkdgfhonlaaPunyDigits
import Derived.Test.YtkgikkdgfhonlaaPunyWays
namespace Go.Proofs.Ytkgikkdgfhonlaa
namespace Puny
/-- The least one from n on, below m. -/
def least (n : Int) : List Int → Int → Int
  | [], m => m
  | x :: t, m => least n t (if n ≤ x ∧ x < m then x else m)
theorem least_le (n : Int) : ∀ (l : List Int) (m : Int), least n l m ≤ m
  | [], m => Int.le_refl _
  | x :: t, m => by
    unfold least
    have := least_le n t (if n ≤ x ∧ x < m then x else m)
    split at this
    · rename_i h; rw [if_pos h]; omega
    · rename_i h; rw [if_neg h]; exact this
theorem least_all (n : Int) : ∀ (l : List Int) (m : Int), ∀ x ∈ l, n ≤ x → least n l m ≤ x
  | [], _, x, hx, _ => by cases hx
  | y :: t, m, x, hx, hn => by
    unfold least
    rcases List.mem_cons.1 hx with rfl | hx
    · have := least_le n t (if n ≤ x ∧ x < m then x else m)
      by_cases h : n ≤ x ∧ x < m
      · rw [if_pos h] at this ⊢; exact this
      · rw [if_neg h] at this ⊢; omega
    · exact least_all n t _ x hx hn
theorem least_is (n : Int) : ∀ (l : List Int) (m : Int), least n l m = m ∨ (least n l m ∈ l ∧ n ≤ least n l m)
  | [], m => .inl rfl
  | y :: t, m => by
    unfold least
    by_cases h : n ≤ y ∧ y < m
    · rw [if_pos h]
      rcases least_is n t y with e | ⟨e1, e2⟩
      · exact .inr ⟨by rw [e]; simp, by rw [e]; exact h.1⟩
      · exact .inr ⟨by simp [e1], e2⟩
    · rw [if_neg h]
      rcases least_is n t m with e | ⟨e1, e2⟩
      · exact .inl e
      · exact .inr ⟨by simp [e1], e2⟩
theorem lt_len_le {n m : Int} (h : n ≤ m) : ∀ (l : List Int), (lt n l).length ≤ (lt m l).length
  | [] => Nat.le_refl _
  | x :: t => by
    have := lt_len_le h t
    rw [lt_cons, lt_cons]
    by_cases h1 : x < n
    · rw [if_pos h1, if_pos (by omega)]; simp only [List.length_cons]; omega
    · rw [if_neg h1]
      split
      · simp only [List.length_cons]; omega
      · exact this
theorem lt_len_less {n m : Int} (h : n ≤ m) : ∀ (l : List Int), m ∈ l → (lt n l).length < (lt (m + 1) l).length
  | [], hm => by cases hm
  | x :: t, hm => by
    rw [lt_cons, lt_cons]
    rcases List.mem_cons.1 hm with rfl | hm
    · rw [if_neg (by omega), if_pos (by omega), List.length_cons]
      have := lt_len_le (show n ≤ m + 1 by omega) t
      omega
    · have := lt_len_less h t hm
      by_cases h1 : x < n
      · rw [if_pos h1, if_pos (by omega)]; simp only [List.length_cons]; omega
      · rw [if_neg h1]
        split
        · simp only [List.length_cons]; omega
        · exact this
theorem lt_len (n : Int) (l : List Int) : (lt n l).length ≤ l.length := by unfold lt; exact List.length_filter_le _ _
theorem lt_full {n : Int} : ∀ {l : List Int}, (lt n l).length = l.length → ∀ x ∈ l, x < n
  | [], _, x, hx => by cases hx
  | y :: t, h, x, hx => by
    rw [lt_cons] at h
    have h0 := lt_len n t
    by_cases h1 : y < n
    · rw [if_pos h1] at h
      simp only [List.length_cons] at h
      rcases List.mem_cons.1 hx with rfl | hx
      · exact h1
      · exact lt_full (by omega) x hx
    · rw [if_neg h1, List.length_cons] at h
      omega
theorem lt_some {n : Int} : ∀ {l : List Int}, (lt n l).length ≠ l.length → ∃ x ∈ l, n ≤ x
  | [], h => absurd rfl h
  | y :: t, h => by
    rw [lt_cons] at h
    by_cases h1 : y < n
    · rw [if_pos h1] at h
      simp only [List.length_cons] at h
      obtain ⟨x, hx, hn⟩ := lt_some (l := t) (n := n) (by omega)
      exact ⟨x, by simp [hx], hn⟩
    · exact ⟨y, by simp, by omega⟩
/-- The characters from n on that rise. -/
def msF : Nat → List Int → Int → List Int
  | 0, _, _ => []
  | f + 1, l, n => if (lt n l).length = l.length then [] else least n l 1114112 :: msF f l (least n l 1114112 + 1)
theorem least_ok {l : List Int} {n : Int} (hl : ∀ x ∈ l, x < 1114112) (h : (lt n l).length ≠ l.length) : least n l 1114112 ∈ l ∧ n ≤ least n l 1114112 ∧ ∀ x ∈ l, x < n ∨ least n l 1114112 ≤ x := by
  obtain ⟨x, hx, hn⟩ := lt_some h
  have h1 := least_all n l 1114112 x hx hn
  rcases least_is n l 1114112 with e | ⟨e1, e2⟩
  · have := hl x hx; omega
  · refine ⟨e1, e2, fun y hy => ?_⟩
    by_cases hy1 : y < n
    · exact .inl hy1
    · exact .inr (least_all n l 1114112 y hy (by omega))
theorem msF_rises : ∀ (f : Nat) (l : List Int) (n : Int), (∀ x ∈ l, x < 1114112) → l.length - (lt n l).length ≤ f → Rises l (msF f l n) n
  | 0, l, n, hl, hf => by
    have := lt_len n l
    exact lt_full (by omega)
  | f + 1, l, n, hl, hf => by
    unfold msF
    by_cases h : (lt n l).length = l.length
    · rw [if_pos h]; exact lt_full h
    · rw [if_neg h]
      obtain ⟨h1, h2, h3⟩ := least_ok hl h
      have := lt_len_less h2 l h1
      exact ⟨h2, h3, msF_rises f l _ hl (by omega)⟩
/-- What Encode writes of l behind the plain ones, by its digits. -/
def deltas (l : List Int) : List Int := rows l (msF l.length l 128) 128 0
theorem deltas_rises (l : List Int) (hl : ∀ x ∈ l, x < 1114112) : Rises l (msF l.length l 128) 128 := msF_rises _ _ _ hl (by omega)
theorem emit_one (ad : Int → Int → Bool → Int) (d : Int) (ds : List Int) (b c : Int) (f : Bool) : emit ad (d :: ds) b c f = digits d 36 b ++ emit ad ds (ad d (c + 1) f) (c + 1) false := rfl
/-- What is left of a row and of those behind it. -/
def restOf (l ms : List Int) (m : Int) (t : List Int) (e : Int) : List Int := (row m t e).1 ++ rows l ms (m + 1) ((row m t e).2 + 1)
theorem rest_start (l ms : List Int) (m n e : Int) : rows l (m :: ms) n e = restOf l ms m l (e + (m - n) * ((lt n l).length + 1)) := rfl
theorem rest_less {l ms : List Int} {m x : Int} {t : List Int} {e : Int} (h : x < m) : restOf l ms m (x :: t) e = restOf l ms m t (e + 1) := by unfold restOf; rw [row, if_pos h]
theorem rest_same {l ms : List Int} {m : Int} {t : List Int} {e : Int} : restOf l ms m (m :: t) e = e :: restOf l ms m t 0 := by
  unfold restOf
  rw [row, if_neg (by omega), if_pos rfl]
  rfl
theorem rest_more {l ms : List Int} {m x : Int} {t : List Int} {e : Int} (h : m < x) : restOf l ms m (x :: t) e = restOf l ms m t e := by unfold restOf; rw [row, if_neg (by omega), if_neg (by omega)]
theorem rest_end (l ms : List Int) (m e : Int) : restOf l ms m [] e = rows l ms (m + 1) (e + 1) := rfl
end Puny
end Go.Proofs.Ytkgikkdgfhonlaa
