/-
  PLAIN: the tables of characters as lists, and what is told of a character by them. Conditions: none. Nothing of the program is imported here.
-/
namespace Go.Proofs.YtmbammhkkcnoaaaGreat
structure Rg where
  lo : Int
  hi : Int
  cat : Int
  bidi : Int
  join : Int
  script : Int
structure Cl where
  lo : Int
  hi : Int
  cls : Int
  step : Int
structure Lw where
  lo : Int
  hi : Int
  far : Int
structure Sp where
  rune : Int
  one : Int
  two : Int
  soft : Bool
  out : Bool
instance : Inhabited Rg := ⟨⟨0, 0, 0, 0, 0, 0⟩⟩
instance : Inhabited Cl := ⟨⟨0, 0, 0, 0⟩⟩
instance : Inhabited Lw := ⟨⟨0, 0, 0⟩⟩
instance : Inhabited Sp := ⟨⟨0, 0, 0, false, false⟩⟩
def ranges : List Rg := [
  ⟨0, 31, 9, 0, 0, 0⟩, ⟨32, 32, 8, 0, 0, 0⟩, ⟨33, 44, 6, 0, 0, 0⟩, ⟨45, 47, 6, 7, 0, 0⟩, ⟨48, 57, 5, 4, 0, 0⟩, ⟨58, 64, 6, 0, 0, 0⟩, ⟨65, 90, 1, 1, 0, 1⟩, ⟨91, 96, 6, 0, 0, 0⟩,
  ⟨97, 122, 2, 1, 0, 1⟩, ⟨123, 126, 7, 0, 0, 0⟩, ⟨127, 127, 9, 0, 0, 0⟩, ⟨160, 160, 8, 0, 0, 0⟩, ⟨178, 179, 7, 4, 0, 0⟩, ⟨183, 183, 6, 0, 0, 0⟩, ⟨192, 214, 1, 1, 0, 1⟩, ⟨215, 215, 7, 0, 0, 0⟩,
  ⟨216, 222, 1, 1, 0, 1⟩, ⟨223, 246, 2, 1, 0, 1⟩, ⟨247, 247, 7, 0, 0, 0⟩, ⟨248, 255, 2, 1, 0, 1⟩, ⟨768, 772, 4, 6, 3, 0⟩, ⟨774, 776, 4, 6, 3, 0⟩, ⟨778, 778, 4, 6, 3, 0⟩, ⟨803, 803, 4, 6, 3, 0⟩,
  ⟨807, 807, 4, 6, 3, 0⟩, ⟨885, 885, 7, 0, 0, 2⟩, ⟨913, 929, 1, 1, 0, 2⟩, ⟨931, 937, 1, 1, 0, 2⟩, ⟨945, 969, 2, 1, 0, 2⟩, ⟨1040, 1071, 1, 1, 0, 3⟩, ⟨1072, 1103, 2, 1, 0, 3⟩, ⟨1456, 1465, 4, 6, 3, 4⟩,
  ⟨1488, 1514, 3, 2, 0, 4⟩, ⟨1523, 1524, 6, 2, 0, 4⟩, ⟨1575, 1575, 3, 3, 2, 5⟩, ⟨1576, 1576, 3, 3, 1, 5⟩, ⟨1577, 1577, 3, 3, 2, 5⟩, ⟨1578, 1582, 3, 3, 1, 5⟩, ⟨1583, 1586, 3, 3, 2, 5⟩, ⟨1587, 1594, 3, 3, 1, 5⟩,
  ⟨1601, 1607, 3, 3, 1, 5⟩, ⟨1608, 1608, 3, 3, 2, 5⟩, ⟨1610, 1610, 3, 3, 1, 5⟩, ⟨1611, 1618, 4, 6, 3, 0⟩, ⟨1632, 1641, 5, 5, 0, 5⟩, ⟨1776, 1785, 5, 4, 0, 5⟩, ⟨2325, 2361, 3, 1, 0, 6⟩, ⟨2364, 2364, 4, 6, 3, 6⟩,
  ⟨2381, 2381, 4, 6, 3, 6⟩, ⟨2392, 2392, 3, 1, 0, 6⟩, ⟨4352, 4370, 3, 1, 0, 9⟩, ⟨4449, 4469, 3, 1, 0, 9⟩, ⟨4520, 4546, 3, 1, 0, 9⟩, ⟨7844, 7844, 1, 1, 0, 1⟩, ⟨7845, 7845, 2, 1, 0, 1⟩, ⟨8204, 8205, 10, 0, 0, 0⟩,
  ⟨8490, 8491, 1, 1, 0, 1⟩, ⟨12290, 12290, 6, 0, 0, 0⟩, ⟨12353, 12438, 3, 1, 0, 7⟩, ⟨12441, 12441, 4, 6, 3, 0⟩, ⟨12449, 12538, 3, 1, 0, 7⟩, ⟨12539, 12539, 6, 0, 0, 0⟩, ⟨19968, 40959, 3, 1, 0, 8⟩, ⟨44032, 55203, 3, 1, 0, 9⟩,
  ⟨64257, 64258, 2, 1, 0, 1⟩, ⟨65281, 65295, 6, 0, 0, 0⟩, ⟨65296, 65305, 5, 4, 0, 0⟩, ⟨65306, 65312, 6, 0, 0, 0⟩, ⟨65313, 65338, 1, 1, 0, 1⟩, ⟨65339, 65344, 6, 0, 0, 0⟩, ⟨65345, 65370, 2, 1, 0, 1⟩, ⟨65371, 65374, 7, 0, 0, 0⟩,
  ⟨66560, 66599, 1, 1, 0, 10⟩, ⟨66600, 66639, 2, 1, 0, 10⟩]
def classes : List Cl := [
  ⟨768, 772, 230, 0⟩, ⟨774, 776, 230, 0⟩, ⟨778, 778, 230, 0⟩, ⟨803, 803, 220, 0⟩, ⟨807, 807, 202, 0⟩, ⟨1456, 1465, 10, 1⟩, ⟨1611, 1618, 27, 1⟩, ⟨2364, 2364, 7, 0⟩,
  ⟨2381, 2381, 9, 0⟩, ⟨12441, 12441, 8, 0⟩]
def lowers : List Lw := [
  ⟨65, 90, 32⟩, ⟨192, 214, 32⟩, ⟨216, 222, 32⟩, ⟨913, 929, 32⟩, ⟨931, 937, 32⟩, ⟨1040, 1071, 32⟩, ⟨7844, 7844, 1⟩, ⟨8490, 8490, (-8383)⟩,
  ⟨8491, 8491, (-8262)⟩, ⟨65313, 65338, 32⟩, ⟨66560, 66599, 40⟩]
def splits : List Sp := [
  ⟨160, 32, 0, true, true⟩, ⟨178, 50, 0, true, true⟩, ⟨179, 51, 0, true, true⟩, ⟨192, 65, 768, false, false⟩, ⟨193, 65, 769, false, false⟩, ⟨194, 65, 770, false, false⟩, ⟨195, 65, 771, false, false⟩, ⟨196, 65, 776, false, false⟩,
  ⟨197, 65, 778, false, false⟩, ⟨199, 67, 807, false, false⟩, ⟨200, 69, 768, false, false⟩, ⟨201, 69, 769, false, false⟩, ⟨202, 69, 770, false, false⟩, ⟨203, 69, 776, false, false⟩, ⟨209, 78, 771, false, false⟩, ⟨214, 79, 776, false, false⟩,
  ⟨220, 85, 776, false, false⟩, ⟨224, 97, 768, false, false⟩, ⟨225, 97, 769, false, false⟩, ⟨226, 97, 770, false, false⟩, ⟨227, 97, 771, false, false⟩, ⟨228, 97, 776, false, false⟩, ⟨229, 97, 778, false, false⟩, ⟨231, 99, 807, false, false⟩,
  ⟨232, 101, 768, false, false⟩, ⟨233, 101, 769, false, false⟩, ⟨234, 101, 770, false, false⟩, ⟨235, 101, 776, false, false⟩, ⟨241, 110, 771, false, false⟩, ⟨246, 111, 776, false, false⟩, ⟨252, 117, 776, false, false⟩, ⟨1049, 1048, 774, false, false⟩,
  ⟨1081, 1080, 774, false, false⟩, ⟨2392, 2325, 2364, false, true⟩, ⟨7844, 194, 769, false, false⟩, ⟨7845, 226, 769, false, false⟩, ⟨8490, 75, 0, false, true⟩, ⟨8491, 197, 0, false, true⟩, ⟨12460, 12459, 12441, false, false⟩, ⟨12468, 12467, 12441, false, false⟩,
  ⟨64257, 102, 105, true, true⟩, ⟨64258, 102, 108, true, true⟩]

section
variable {α : Type} [Inhabited α]
/-- The row that r is in, by rows that rise. -/
def seek (lo hi : α → Int) : List α → Int → Option α
  | [], _ => none
  | x :: t, r => if r ≤ hi x then (if lo x ≤ r then some x else none) else seek lo hi t r
/-- The rows rise, and each is one. -/
def rising (lo hi : α → Int) : List α → Bool
  | [] => true
  | x :: t => decide (lo x ≤ hi x) && (match t with | [] => true | y :: _ => decide (hi x < lo y)) && rising lo hi t
omit [Inhabited α] in
theorem rising_tail {lo hi : α → Int} {x : α} {t : List α} (h : rising lo hi (x :: t) = true) : rising lo hi t = true := by
  simp only [rising, Bool.and_eq_true] at h; exact h.2
omit [Inhabited α] in
theorem rising_after {lo hi : α → Int} : ∀ {t : List α} {x : α}, rising lo hi (x :: t) = true → ∀ y ∈ t, hi x < lo y ∧ hi x < hi y
  | [], _, _, _, h => by cases h
  | z :: t, x, h, y, hy => by
    have ht := rising_tail h
    have h1 : hi x < lo z := by simp only [rising, Bool.and_eq_true, decide_eq_true_eq] at h; exact h.1.2
    have h2 : lo z ≤ hi z := by simp only [rising, Bool.and_eq_true, decide_eq_true_eq] at ht; exact ht.1.1
    rcases List.mem_cons.1 hy with rfl | hy
    · exact ⟨h1, by omega⟩
    · have := rising_after ht y hy; omega
/-- The ends rise. -/
theorem rising_ends {lo hi : α → Int} : ∀ {l : List α}, rising lo hi l = true → ∀ a b, a ≤ b → b < l.length → hi l[a]! ≤ hi l[b]!
  | [], _, _, _, _, h => by simp at h
  | x :: t, h, a, b, hab, hb => by
    match a, b, hab with
    | 0, 0, _ => exact Int.le_refl _
    | 0, b + 1, _ =>
      have hb' : b < t.length := by simpa using hb
      have := (rising_after h t[b] (List.getElem_mem hb')).2
      simp only [List.getElem!_cons_zero, List.getElem!_cons_succ]
      rw [getElem!_pos t b hb']; omega
    | a + 1, b + 1, hab =>
      simp only [List.getElem!_cons_succ]
      exact rising_ends (rising_tail h) a b (by omega) (by simpa using hb)
/-- The first row that does not end ahead of r decides. -/
theorem seek_at {lo hi : α → Int} (r : Int) : ∀ (l : List α) (k : Nat), k ≤ l.length → (∀ t, t < k → decide (r ≤ hi l[t]!) = false) → (∀ t, k ≤ t → t < l.length → decide (r ≤ hi l[t]!) = true) →
    seek lo hi l r = if k < l.length then (if lo l[k]! ≤ r then some l[k]! else none) else none
  | [], k, _, _, _ => by simp [seek]
  | x :: t, 0, _, _, h => by
    have := h 0 (Nat.le_refl _) (by simp)
    simp only [List.getElem!_cons_zero, decide_eq_true_eq] at this
    simp [seek, this]
  | x :: t, k + 1, hk, h1, h2 => by
    have h0 := h1 0 (by omega)
    simp only [List.getElem!_cons_zero, decide_eq_false_iff_not] at h0
    have := seek_at (lo := lo) r t k (by simpa using hk) (fun j hj => by have := h1 (j + 1) (by omega); simpa using this) (fun j h3 h4 => by have := h2 (j + 1) (by omega) (by simpa using h4); simpa using this)
    simp only [seek, if_neg h0, this, List.length_cons, Nat.add_lt_add_iff_right, List.getElem!_cons_succ]
/-- The row that holds r is the one that is told. -/
theorem seek_hit {lo hi : α → Int} (r : Int) : ∀ {l : List α}, rising lo hi l = true → ∀ k, k < l.length → lo l[k]! ≤ r → r ≤ hi l[k]! → seek lo hi l r = some l[k]!
  | [], _, _, h, _, _ => by simp at h
  | x :: t, _, 0, _, h1, h2 => by
    simp only [List.getElem!_cons_zero] at h1 h2 ⊢
    simp [seek, h1, h2]
  | x :: t, h, k + 1, hk, h1, h2 => by
    have hk' : k < t.length := by simpa using hk
    simp only [List.getElem!_cons_succ] at h1 h2 ⊢
    have := (rising_after h t[k] (List.getElem_mem hk')).1
    rw [getElem!_pos t k hk'] at h1
    simp only [seek, if_neg (show ¬ r ≤ hi x by omega)]
    exact seek_hit r (rising_tail h) k hk' (by rw [getElem!_pos t k hk']; exact h1) h2
theorem seek_miss {lo hi : α → Int} (r : Int) : ∀ {l : List α}, (∀ k, k < l.length → ¬ (lo l[k]! ≤ r ∧ r ≤ hi l[k]!)) → seek lo hi l r = none
  | [], _ => rfl
  | x :: t, h => by
    have h0 := h 0 (by simp)
    simp only [List.getElem!_cons_zero] at h0
    simp only [seek]
    by_cases h1 : r ≤ hi x
    · rw [if_pos h1, if_neg (fun h2 => h0 ⟨h2, h1⟩)]
    · rw [if_neg h1]
      exact seek_miss r (fun k hk => by have := h (k + 1) (by simpa using hk); simpa using this)
omit [Inhabited α] in
/-- What is told is a row, and holds r. -/
theorem seek_some {lo hi : α → Int} {r : Int} {y : α} : ∀ {l : List α}, seek lo hi l r = some y → y ∈ l ∧ lo y ≤ r ∧ r ≤ hi y
  | [], h => by simp [seek] at h
  | x :: t, h => by
    simp only [seek] at h
    by_cases h1 : r ≤ hi x
    · rw [if_pos h1] at h
      by_cases h2 : lo x ≤ r
      · rw [if_pos h2] at h; obtain rfl := Option.some.inj h; exact ⟨by simp, h2, h1⟩
      · rw [if_neg h2] at h; cases h
    · rw [if_neg h1] at h
      have := seek_some h
      exact ⟨List.mem_cons_of_mem _ this.1, this.2⟩
end

theorem ranges_rise : rising Rg.lo Rg.hi ranges = true := by decide +kernel
theorem classes_rise : rising Cl.lo Cl.hi classes = true := by decide +kernel
theorem lowers_rise : rising Lw.lo Lw.hi lowers = true := by decide +kernel
theorem splits_rise : rising Sp.rune Sp.rune splits = true := by decide +kernel

def rangeOf (r : Int) : Option Rg := seek Rg.lo Rg.hi ranges r
def catOf (r : Int) : Int := ((rangeOf r).getD default).cat
def bidiOf (r : Int) : Int := ((rangeOf r).getD default).bidi
def joinOf (r : Int) : Int := ((rangeOf r).getD default).join
def scriptOf (r : Int) : Int := ((rangeOf r).getD default).script
def classOf (r : Int) : Option Cl := seek Cl.lo Cl.hi classes r
def clsOf (r : Int) : Int := match classOf r with | some x => x.cls + x.step * (r - x.lo) | none => 0
def lowerOf (r : Int) : Option Lw := seek Lw.lo Lw.hi lowers r
def lowOf (r : Int) : Int := match lowerOf r with | some x => r + x.far | none => r
def letterOf (r : Int) : Bool := decide (catOf r = 1 ∨ catOf r = 2 ∨ catOf r = 3)
def rowOf (r : Int) : Option Sp := seek Sp.rune Sp.rune splits r
def wideOf (r : Int) : Bool := decide (65281 ≤ r) && decide (r ≤ 65374)
def splitOf (r : Int) : Option Sp := match rowOf r with | some x => some x | none => if wideOf r then some ⟨r, r - 65248, 0, true, true⟩ else none
def makes (a b : Int) (s : Sp) : Bool := !s.soft && !s.out && s.one == a && s.two == b
def pairOf (a b : Int) : Option Int := if b = 0 then none else (splits.find? (makes a b)).map Sp.rune
end Go.Proofs.YtmbammhkkcnoaaaGreat
