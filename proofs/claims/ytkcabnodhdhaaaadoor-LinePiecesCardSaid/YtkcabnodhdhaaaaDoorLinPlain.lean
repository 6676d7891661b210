/-
  PLAIN: lines out of bytes, in pieces or not. Conditions: as they stand in each. Nothing of the program is used here.
-/
import Derived.Test.YtkcabnodhdhaaaaDoorUtfPlain
namespace Go.Proofs.YtkcabnodhdhaaaaDoor
namespace Lin
/-- A byte ahead of all. -/
def onto (c : UInt8) : List (List UInt8) × List UInt8 → List (List UInt8) × List UInt8
  | ([], r) => ([], c :: r)
  | (l :: ls, r) => ((c :: l) :: ls, r)
/-- The lines that are whole, and the rest. -/
def cut : List UInt8 → List (List UInt8) × List UInt8
  | [] => ([], [])
  | [c] => ([], [c])
  | c :: d :: t => if c.toNat = 13 ∧ d.toNat = 10 then ([] :: (cut t).1, (cut t).2) else onto c (cut (d :: t))
def wholes (l : List UInt8) : List (List UInt8) := (cut l).1
def rest (l : List UInt8) : List UInt8 := (cut l).2
/-- A return, or a feed, in it? -/
def bare (l : List UInt8) : Bool := l.any fun c => c.toNat == 13 || c.toNat == 10
structure Fr where
  text : List UInt8
  long : Bool
  bare : Bool
/-- A line, as it is told. -/
def frame (most : Int) (l : List UInt8) : Fr :=
  if bare l || decide (most < l.length) then ⟨[], decide (most < l.length), bare l⟩ else ⟨l, false, false⟩
/-- What is told of bytes that come behind a rest. -/
def told (most : Int) (r b : List UInt8) : List Fr := (wholes (r ++ b)).map (frame most)
def printL : List (List UInt8) → List UInt8
  | [] => []
  | l :: ls => l ++ 13 :: 10 :: printL ls
theorem cut_end {c d : UInt8} (t : List UInt8) (h : c.toNat = 13 ∧ d.toNat = 10) : cut (c :: d :: t) = ([] :: (cut t).1, (cut t).2) := by rw [cut, if_pos h]
theorem cut_on {c d : UInt8} (t : List UInt8) (h : ¬ (c.toNat = 13 ∧ d.toNat = 10)) : cut (c :: d :: t) = onto c (cut (d :: t)) := by rw [cut, if_neg h]
/-- Where no line is whole, all is the rest. -/
theorem cut_none (n : Nat) : ∀ l : List UInt8, l.length ≤ n → (cut l).1 = [] → (cut l).2 = l := by
  induction n with
  | zero =>
    intro l hl _
    rw [List.eq_nil_of_length_eq_zero (by omega : l.length = 0)]
    rfl
  | succ n ih =>
    intro l hl h
    match l, hl, h with
    | [], _, _ => rfl
    | [c], _, _ => rfl
    | c :: d :: t, hl, h =>
      by_cases hc : c.toNat = 13 ∧ d.toNat = 10
      · rw [cut_end t hc] at h; cases h
      · rw [cut_on t hc] at h ⊢
        simp only [List.length_cons] at hl
        have := ih (d :: t) (by simp only [List.length_cons]; omega)
        generalize hC : cut (d :: t) = C at h this ⊢
        obtain ⟨ls, r⟩ := C
        cases ls with
        | nil => simp only [onto]; rw [show r = d :: t from this rfl]
        | cons a b => cases h
theorem cut_app (n : Nat) : ∀ a b : List UInt8, a.length ≤ n → cut (a ++ b) = ((cut a).1 ++ (cut ((cut a).2 ++ b)).1, (cut ((cut a).2 ++ b)).2) := by
  induction n with
  | zero =>
    intro a b hl
    rw [List.eq_nil_of_length_eq_zero (by omega : a.length = 0)]
    rfl
  | succ n ih =>
    intro a b hl
    match a, hl with
    | [], _ => rfl
    | [c], _ => rfl
    | c :: d :: t, hl =>
      simp only [List.length_cons] at hl
      by_cases hc : c.toNat = 13 ∧ d.toNat = 10
      · rw [List.cons_append, List.cons_append, cut_end _ hc, cut_end _ hc, ih t b (by omega)]
        rfl
      · have h1 := ih (d :: t) b (by simp only [List.length_cons]; omega)
        have h2 := cut_none _ (d :: t) (Nat.le_refl _)
        rw [List.cons_append, List.cons_append, cut_on _ hc, cut_on _ hc, ← List.cons_append, h1]
        generalize hC : cut (d :: t) = C at h1 h2 ⊢
        obtain ⟨ls, r⟩ := C
        cases ls with
        | nil =>
          have hr : r = d :: t := h2 rfl
          subst hr
          show onto c ([] ++ (cut ((d :: t) ++ b)).1, (cut ((d :: t) ++ b)).2) = _
          show _ = ([] ++ (cut (c :: d :: (t ++ b))).1, (cut (c :: d :: (t ++ b))).2)
          rw [cut_on _ hc]
          rfl
        | cons x y => rfl
theorem wholes_app (a b : List UInt8) : wholes (a ++ b) = wholes a ++ wholes (rest a ++ b) := congrArg Prod.fst (cut_app _ a b (Nat.le_refl _))
theorem rest_app (a b : List UInt8) : rest (a ++ b) = rest (rest a ++ b) := by
  have h := congrArg Prod.snd (cut_app _ a b (Nat.le_refl _))
  exact h
/-- In which pieces bytes come does not matter. -/
theorem told_app (most : Int) (r a b : List UInt8) : told most r (a ++ b) = told most r a ++ told most (rest (r ++ a)) b := by
  unfold told
  rw [← List.append_assoc, wholes_app (r ++ a) b, List.map_append]
/-- The rest has no whole line. -/
theorem rest_rest (n : Nat) : ∀ l : List UInt8, l.length ≤ n → wholes (rest l) = [] ∧ rest (rest l) = rest l := by
  intro l _
  have h := cut_app _ l [] (Nat.le_refl _)
  rw [List.append_nil, List.append_nil] at h
  have h1 := congrArg Prod.fst h
  have h2 := congrArg Prod.snd h
  simp only at h1 h2
  refine ⟨?_, h2.symm⟩
  have := congrArg List.length h1
  rw [List.length_append] at this
  exact List.eq_nil_of_length_eq_zero (by unfold wholes rest; omega)
theorem cut_line : ∀ (l t : List UInt8), bare l = false → cut (l ++ 13 :: 10 :: t) = (l :: (cut t).1, (cut t).2)
  | [], t, _ => cut_end t ⟨rfl, rfl⟩
  | c :: l, t, h => by
    unfold bare at h
    rw [List.any_cons, Bool.or_eq_false_iff, Bool.or_eq_false_iff, beq_eq_false_iff_ne] at h
    have ih := cut_line l t h.2
    obtain ⟨d, u, e⟩ : ∃ d u, l ++ 13 :: 10 :: t = d :: u := by cases l with
      | nil => exact ⟨_, _, rfl⟩
      | cons d u => exact ⟨_, _, rfl⟩
    rw [List.cons_append, e, cut_on _ (fun x => h.1.1 x.1), ← e, ih]
    rfl
/-- Lines that are printed come back. -/
theorem cut_print : ∀ ls : List (List UInt8), (∀ l ∈ ls, bare l = false) → cut (printL ls) = (ls, [])
  | [], _ => rfl
  | l :: ls, h => by
    rw [printL, cut_line l _ (h l (by simp)), cut_print ls (fun x hx => h x (by simp [hx]))]
theorem frame_fine {most : Int} {l : List UInt8} (hb : bare l = false) (hl : ¬ most < l.length) : frame most l = ⟨l, false, false⟩ := by
  unfold frame
  rw [hb, decide_eq_false hl]
  rfl
theorem frame_long {most : Int} {l : List UInt8} (hb : bare l = false) (hl : most < l.length) : frame most l = ⟨[], true, false⟩ := by
  unfold frame
  rw [hb, decide_eq_true hl]
  rfl
end Lin
end Go.Proofs.YtkcabnodhdhaaaaDoor
