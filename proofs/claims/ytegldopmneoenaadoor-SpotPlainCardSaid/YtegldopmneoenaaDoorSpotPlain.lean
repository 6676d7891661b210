/-
  PLAIN: spots: lines and columns, that they rise, that two texts are stepped over one behind the other, and that a spot's text tells of it. Conditions: as they stand in each. Nothing of the program is imported here.
-/
import Derived.RowKit
namespace Go.Proofs.YtegldopmneoenaaDoor
namespace Spot
/-- From a line and a column on, byte by byte. -/
def steps : List UInt8 → Nat → Nat → Nat × Nat
  | [], l, c => (l, c)
  | [_], l, c => (l, c + 1)
  | a :: b :: t, l, c => if a = 13 ∧ b = 10 then steps t (l + 1) 0 else steps (b :: t) l (c + 1)
theorem steps_one (a : UInt8) (l c : Nat) : steps [a] l c = (l, c + 1) := by unfold steps; rfl
theorem steps_two (a b : UInt8) (t : List UInt8) (l c : Nat) : steps (a :: b :: t) l c = if a = 13 ∧ b = 10 then steps t (l + 1) 0 else steps (b :: t) l (c + 1) := by rw [steps]
/-- How many line's ends there are. -/
def cnt : List UInt8 → Nat
  | [] => 0
  | [_] => 0
  | a :: b :: t => (if a = 13 ∧ b = 10 then 1 else 0) + cnt (b :: t)
theorem cnt_two (a b : UInt8) (t : List UInt8) : cnt (a :: b :: t) = (if a = 13 ∧ b = 10 then 1 else 0) + cnt (b :: t) := by rw [cnt]
theorem cnt_skip (t : List UInt8) : cnt (10 :: t) = cnt t := by
  cases t with
  | nil => rfl
  | cons b t => rw [cnt_two, if_neg (fun h => absurd h.1 (by decide)), Nat.zero_add]
theorem steps_line : ∀ (bs : List UInt8) (l c : Nat), (steps bs l c).1 = l + cnt bs
  | [], l, c => rfl
  | [a], l, c => by rw [steps_one]; rfl
  | a :: b :: t, l, c => by
    rw [steps_two, cnt_two]
    by_cases h : a = 13 ∧ b = 10
    · rw [if_pos h, if_pos h, steps_line t, h.2, cnt_skip]
      omega
    · rw [if_neg h, if_neg h, steps_line (b :: t)]
      omega
theorem steps_few : ∀ (bs : List UInt8) (l c : Nat), (steps bs l c).1 ≤ l + bs.length ∧ (steps bs l c).2 ≤ c + bs.length
  | [], l, c => ⟨Nat.le_refl _, Nat.le_refl _⟩
  | [a], l, c => by rw [steps_one]; exact ⟨Nat.le_add_right _ _, Nat.le_refl _⟩
  | a :: b :: t, l, c => by
    rw [steps_two]
    by_cases h : a = 13 ∧ b = 10
    · rw [if_pos h]
      have := steps_few t (l + 1) 0
      simp only [List.length_cons]
      omega
    · rw [if_neg h]
      have := steps_few (b :: t) l (c + 1)
      simp only [List.length_cons] at this ⊢
      omega
theorem steps_flat : ∀ (bs : List UInt8) (l c : Nat), cnt bs = 0 → steps bs l c = (l, c + bs.length)
  | [], l, c, _ => rfl
  | [a], l, c, _ => steps_one a l c
  | a :: b :: t, l, c, h => by
    rw [cnt_two] at h
    have hn : ¬ (a = 13 ∧ b = 10) := fun e => by rw [if_pos e] at h; omega
    rw [steps_two, if_neg hn, steps_flat (b :: t) l (c + 1) (by omega)]
    simp only [List.length_cons]
    congr 1
    omega
theorem cnt_take : ∀ (bs : List UInt8) (k : Nat), cnt (bs.take k) ≤ cnt bs
  | [], k => by rw [List.take_nil]; exact Nat.le_refl _
  | [a], k => by
    cases k with
    | zero => exact Nat.zero_le _
    | succ k => rw [List.take_succ_cons, List.take_nil]; exact Nat.le_refl _
  | a :: b :: t, k => by
    cases k with
    | zero => exact Nat.zero_le _
    | succ k =>
      have ih := cnt_take (b :: t) k
      rw [List.take_succ_cons]
      cases k with
      | zero => exact Nat.zero_le _
      | succ k =>
        rw [List.take_succ_cons] at ih ⊢
        rw [cnt_two, cnt_two]
        omega
/-- Two texts, one behind the other. -/
theorem steps_app : ∀ (a b : List UInt8) (l c : Nat), ¬ (a.getLast? = some 13 ∧ b.head? = some 10) → steps (a ++ b) l c = steps b (steps a l c).1 (steps a l c).2
  | [], b, l, c, _ => rfl
  | [x], b, l, c, h => by
    rw [steps_one]
    cases b with
    | nil => rw [List.append_nil, steps_one]; rfl
    | cons y t =>
      show steps (x :: y :: t) l c = _
      rw [steps_two, if_neg (fun e => h ⟨by rw [e.1]; rfl, by rw [e.2]; rfl⟩)]
  | x :: y :: t, b, l, c, h => by
    show steps (x :: y :: (t ++ b)) l c = _
    rw [steps_two, steps_two]
    by_cases e : x = 13 ∧ y = 10
    · rw [if_pos e, if_pos e]
      refine steps_app t b (l + 1) 0 (fun h2 => ?_)
      cases t with
      | nil => exact absurd h2.1 (by simp)
      | cons z t => exact h ⟨by rw [← h2.1]; simp, h2.2⟩
    · rw [if_neg e, if_neg e]
      exact steps_app (y :: t) b l (c + 1) (fun h2 => h ⟨by rw [← h2.1]; simp, h2.2⟩)
/-- One byte more. -/
theorem steps_snoc : ∀ (bs : List UInt8) (b : UInt8) (l c : Nat), steps (bs ++ [b]) l c = ((steps bs l c).1, (steps bs l c).2 + 1) ∨ steps (bs ++ [b]) l c = ((steps bs l c).1 + 1, 0)
  | [], b, l, c => .inl (steps_one b l c)
  | [a], b, l, c => by
    show steps [a, b] l c = _ ∨ steps [a, b] l c = _
    rw [steps_two, steps_one]
    by_cases h : a = 13 ∧ b = 10
    · rw [if_pos h]
      exact .inr rfl
    · rw [if_neg h, steps_one]
      exact .inl rfl
  | a :: a' :: t, b, l, c => by
    show steps (a :: a' :: (t ++ [b])) l c = _ ∨ steps (a :: a' :: (t ++ [b])) l c = _
    rw [steps_two, steps_two]
    by_cases h : a = 13 ∧ a' = 10
    · rw [if_pos h, if_pos h]
      exact steps_snoc t b (l + 1) 0
    · rw [if_neg h, if_neg h]
      exact steps_snoc (a' :: t) b l (c + 1)
/-- The spot of a place. -/
def spot (bs : List UInt8) (k : Nat) : Nat × Nat := steps (bs.take k) 0 0
def before (p q : Nat × Nat) : Prop := p.1 < q.1 ∨ (p.1 = q.1 ∧ p.2 < q.2)
theorem spot_next {bs : List UInt8} {k : Nat} (h : k < bs.length) : before (spot bs k) (spot bs (k + 1)) := by
  unfold spot
  rw [List.take_succ_eq_append_getElem h]
  rcases steps_snoc (bs.take k) bs[k] 0 0 with e | e <;> rw [e]
  · exact .inr ⟨rfl, Nat.lt_succ_self _⟩
  · exact .inl (Nat.lt_succ_self _)
/-- Spots rise. -/
theorem spot_rise {bs : List UInt8} {k : Nat} : ∀ {j : Nat}, k < j → j ≤ bs.length → before (spot bs k) (spot bs j)
  | 0, h, _ => absurd h (Nat.not_lt_zero _)
  | j + 1, h, hj => by
    have h1 := spot_next (bs := bs) (k := j) (by omega)
    by_cases e : k = j
    · subst e; exact h1
    · have h2 := spot_rise (bs := bs) (k := k) (j := j) (by omega) (by omega)
      unfold before at h1 h2 ⊢
      omega
theorem spot_inj {bs : List UInt8} {k j : Nat} (hk : k ≤ bs.length) (hj : j ≤ bs.length) (h : spot bs k = spot bs j) : k = j := by
  rcases Nat.lt_trichotomy k j with h1 | h1 | h1
  · have := spot_rise h1 hj
    rw [h] at this
    unfold before at this
    omega
  · exact h1
  · have := spot_rise h1 hk
    rw [h] at this
    unfold before at this
    omega
/-- The least place whose spot is told by two numbers of quarters. -/
def isAt (bs : List UInt8) (u v : Int) (k : Nat) : Bool := decide (4 * ((spot bs k).1 : Int) = u) && decide (4 * ((spot bs k).2 : Int) = v)
def place (bs : List UInt8) (u v : Int) : Option Nat := (List.range (bs.length + 1)).find? (isAt bs u v)
theorem place_hit {bs : List UInt8} {u v : Int} {k : Nat} (hk : k ≤ bs.length) (h0 : ∀ j, j < k → isAt bs u v j = false) (h : isAt bs u v k = true) : place bs u v = some k := by
  unfold place
  rw [List.find?_eq_some_iff_append]
  refine ⟨h, List.range k, (List.range (bs.length + 1)).drop (k + 1), ?_, fun j hj => by rw [h0 j (List.mem_range.1 hj)]; rfl⟩
  have h1 : List.range k = (List.range (bs.length + 1)).take k := by rw [List.take_range, Nat.min_eq_left (by omega)]
  have h2 := List.take_append_drop k (List.range (bs.length + 1))
  rw [h1]
  conv => lhs; rw [← h2]
  congr 1
  rw [List.drop_eq_getElem_cons (by rw [List.length_range]; omega), List.getElem_range]
theorem place_none {bs : List UInt8} {u v : Int} (h0 : ∀ j, j ≤ bs.length → isAt bs u v j = false) : place bs u v = none := by
  unfold place
  rw [List.find?_eq_none]
  intro j hj
  rw [h0 j (by have := List.mem_range.1 hj; omega)]
  decide
theorem place_spot {bs : List UInt8} {k : Nat} (hk : k ≤ bs.length) : place bs (4 * ((spot bs k).1 : Int)) (4 * ((spot bs k).2 : Int)) = some k := by
  refine place_hit hk (fun j hj => ?_) ?_
  · cases h : isAt bs (4 * ((spot bs k).1 : Int)) (4 * ((spot bs k).2 : Int)) j with
    | false => rfl
    | true =>
      unfold isAt at h
      simp only [Bool.and_eq_true, decide_eq_true_eq] at h
      have : spot bs j = spot bs k := Prod.ext (by omega) (by omega)
      have := spot_inj (by omega) hk this
      omega
  · unfold isAt
    simp
/-- A number in base 10. -/
def num (n : Nat) : List UInt8 := if h : n < 10 then [UInt8.ofNat (48 + n)] else num (n / 10) ++ [UInt8.ofNat (48 + n % 10)]
theorem num_small {n : Nat} (h : n < 10) : num n = [UInt8.ofNat (48 + n)] := by rw [num, dif_pos h]
theorem num_great {n : Nat} (h : ¬ n < 10) : num n = num (n / 10) ++ num (n % 10) := by
  rw [num, dif_neg h, num_small (Nat.mod_lt _ (by decide))]
def val (bs : List UInt8) : Nat := bs.foldl (fun a b => a * 10 + (b.toNat - 48)) 0
theorem digit_val {d : Nat} (h : d < 10) : (UInt8.ofNat (48 + d)).toNat = 48 + d := by
  rw [UInt8.toNat_ofNat', Nat.mod_eq_of_lt (by show 48 + d < 256; omega)]
theorem num_val (n : Nat) : val (num n) = n := by
  induction n using Nat.strongRecOn with
  | ind n ih =>
    by_cases h : n < 10
    · rw [num_small h]
      show 0 * 10 + ((UInt8.ofNat (48 + n)).toNat - 48) = n
      rw [digit_val h]
      omega
    · rw [num, dif_neg h]
      unfold val
      rw [List.foldl_append]
      show (val (num (n / 10))) * 10 + ((UInt8.ofNat (48 + n % 10)).toNat - 48) = n
      rw [ih (n / 10) (by omega), digit_val (Nat.mod_lt _ (by decide))]
      omega
theorem num_digits (n : Nat) : ∀ c ∈ num n, c ≠ 58 := by
  induction n using Nat.strongRecOn with
  | ind n ih =>
    intro c hc e
    have hd : ∀ d, d < 10 → (UInt8.ofNat (48 + d)) ≠ 58 := fun d hd e => by
      have := congrArg UInt8.toNat e
      rw [digit_val hd] at this
      have h58 : (58 : UInt8).toNat = 58 := rfl
      omega
    by_cases h : n < 10
    · rw [num_small h] at hc
      rw [List.mem_singleton.1 hc] at e
      exact hd n h e
    · rw [num, dif_neg h, List.mem_append, List.mem_singleton] at hc
      rcases hc with hc | hc
      · exact ih (n / 10) (by omega) c hc e
      · rw [hc] at e
        exact hd _ (Nat.mod_lt _ (by decide)) e
theorem num_len (n : Nat) : ∀ k, n < 10 ^ (k + 1) → (num n).length ≤ k + 1 := by
  induction n using Nat.strongRecOn with
  | ind n ih =>
    intro k hk
    by_cases h : n < 10
    · rw [num_small h]
      simp
    · rw [num, dif_neg h, List.length_append, List.length_singleton]
      cases k with
      | zero => simp at hk; omega
      | succ k =>
        have := ih (n / 10) (by omega) k (by rw [Nat.pow_succ] at hk; omega)
        omega
/-- A spot's text. -/
def text (l c : Nat) : List UInt8 := num (l + 1) ++ [58] ++ num (c + 1)
theorem split_at : ∀ {a b a' b' : List UInt8}, (∀ x ∈ a, x ≠ 58) → (∀ x ∈ a', x ≠ 58) → a ++ 58 :: b = a' ++ 58 :: b' → a = a' ∧ b = b'
  | [], b, [], b', _, _, h => ⟨rfl, by injection h⟩
  | [], b, y :: a', b', _, h2, h => by
    injection h with h3 h4
    exact absurd h3.symm (h2 y (by simp))
  | x :: a, b, [], b', h1, _, h => by
    injection h with h3 h4
    exact absurd h3 (h1 x (by simp))
  | x :: a, b, y :: a', b', h1, h2, h => by
    injection h with h3 h4
    obtain ⟨e1, e2⟩ := split_at (fun z hz => h1 z (by simp [hz])) (fun z hz => h2 z (by simp [hz])) h4
    exact ⟨by rw [h3, e1], e2⟩
theorem text_inj {l c l' c' : Nat} (h : text l c = text l' c') : l = l' ∧ c = c' := by
  unfold text at h
  rw [List.append_assoc, List.append_assoc] at h
  obtain ⟨h1, h2⟩ := split_at (num_digits (l + 1)) (num_digits (l' + 1)) h
  have h2 : num (c + 1) = num (c' + 1) := h2
  have e1 := congrArg val h1
  have e2 := congrArg val h2
  rw [num_val, num_val] at e1 e2
  omega
end Spot
end Go.Proofs.YtegldopmneoenaaDoor
