/-
  PLAIN: what the tables of characters have among themselves: pairs and splits tell of each other, small letters, marks, wide characters. Conditions: none. By going over the rows.
-/
import Derived.Test.YtpmcmbkilcpleaaTab
namespace Go.Proofs.Ytpmcmbkilcpleaa
/-- A row tells itself. -/
def tellsRow (y : Sp) : Bool := match splitOf y.rune with | some s => s.one == y.one && s.two == y.two && s.out == y.out | none => false
theorem rows_tell : ∀ y ∈ splits, tellsRow y = true := by decide +kernel
theorem rows_pair : ∀ y ∈ splits, y.out = false → pairOf y.one y.two = some y.rune ∧ y.two ≠ 0 ∧ y.soft = false := by decide +kernel
theorem split_cases {x : Int} {y : Sp} (h : splitOf x = some y) : (y ∈ splits ∧ y.rune = x) ∨ (wideOf x = true ∧ y = ⟨x, x - 65248, 0, true, true⟩) := by
  unfold splitOf at h
  cases hr : rowOf x with
  | some z =>
    rw [hr] at h
    obtain rfl := Option.some.inj h
    obtain ⟨h1, h2, h3⟩ := seek_some hr
    exact .inl ⟨h1, Int.le_antisymm h2 h3⟩
  | none =>
    rw [hr] at h
    cases hw : wideOf x with
    | true => simp only [hw, if_true, Option.some.injEq] at h; exact .inr ⟨rfl, h.symm⟩
    | false => simp [hw] at h
theorem split_pair {x : Int} {y : Sp} (h : splitOf x = some y) (ho : y.out = false) : pairOf y.one y.two = some x ∧ y.two ≠ 0 ∧ y.soft = false := by
  rcases split_cases h with ⟨hy, rfl⟩ | ⟨_, rfl⟩
  · exact rows_pair y hy ho
  · cases ho
theorem pair_split {a b z : Int} (h : pairOf a b = some z) : ∃ y, splitOf z = some y ∧ y.one = a ∧ y.two = b ∧ y.out = false := by
  unfold pairOf at h
  by_cases hb : b = 0
  · rw [if_pos hb] at h; cases h
  · rw [if_neg hb] at h
    cases hf : splits.find? (makes a b) with
    | none => rw [hf] at h; cases h
    | some s =>
      rw [hf] at h
      have hz : s.rune = z := by simpa using h
      have hm := List.find?_some hf
      have hs := List.mem_of_find?_eq_some hf
      simp only [makes, Bool.and_eq_true, Bool.not_eq_true', beq_iff_eq] at hm
      have ht := rows_tell s hs
      unfold tellsRow at ht
      rw [hz] at ht
      cases hq : splitOf z with
      | none => rw [hq] at ht; cases ht
      | some y =>
        rw [hq] at ht
        simp only [Bool.and_eq_true, beq_iff_eq] at ht
        exact ⟨y, rfl, by rw [ht.1.1, hm.1.2], by rw [ht.1.2, hm.2], by rw [ht.2, hm.1.1.2]⟩
/-- What a great letter's small one is. -/
def lowOk (x : Int) : Bool := decide (lowOf (lowOf x) = lowOf x ∧ catOf x = 1 ∧ catOf (lowOf x) = 2 ∧ bidiOf (lowOf x) = bidiOf x ∧ clsOf (lowOf x) = 0 ∧ scriptOf (lowOf x) = scriptOf x)
theorem rows_low : ∀ y ∈ lowers, ∀ i ∈ List.range (y.hi - y.lo + 1).toNat, lowOk (y.lo + i) = true := by decide +kernel
theorem low_cases (x : Int) : lowOf x = x ∨ lowOk x = true := by
  cases h : lowerOf x with
  | none => left; unfold lowOf; rw [h]
  | some y =>
    right
    obtain ⟨h1, h2, h3⟩ := seek_some h
    have := rows_low y h1 (x - y.lo).toNat (by rw [List.mem_range]; omega)
    rwa [show y.lo + ((x - y.lo).toNat : Int) = x by omega] at this
def markOk (x : Int) : Bool := decide (0 < clsOf x ∧ catOf x = 4 ∧ bidiOf x = 6 ∧ joinOf x = 3)
theorem rows_class : ∀ y ∈ classes, ∀ i ∈ List.range (y.hi - y.lo + 1).toNat, markOk (y.lo + i) = true := by decide +kernel
theorem rows_mark : ∀ y ∈ ranges, y.cat = 4 → ∀ i ∈ List.range (y.hi - y.lo + 1).toNat, markOk (y.lo + i) = true := by decide +kernel
theorem mark_cases (x : Int) : markOk x = true ∨ (clsOf x = 0 ∧ catOf x ≠ 4) := by
  cases h : classOf x with
  | some y =>
    left
    obtain ⟨h1, h2, h3⟩ := seek_some h
    have := rows_class y h1 (x - y.lo).toNat (by rw [List.mem_range]; omega)
    rwa [show y.lo + ((x - y.lo).toNat : Int) = x by omega] at this
  | none =>
    by_cases hc : catOf x = 4
    · left
      cases hr : rangeOf x with
      | none => exfalso; unfold catOf at hc; rw [hr] at hc; exact absurd hc (by decide)
      | some y =>
        obtain ⟨h1, h2, h3⟩ := seek_some hr
        have hy : y.cat = 4 := by unfold catOf at hc; rw [hr] at hc; exact hc
        have := rows_mark y h1 hy (x - y.lo).toNat (by rw [List.mem_range]; omega)
        rwa [show y.lo + ((x - y.lo).toNat : Int) = x by omega] at this
    · right
      exact ⟨by unfold clsOf; rw [h], hc⟩
def partsOk (x one two : Int) (soft : Bool) : Bool := decide (clsOf one = 0 ∧ clsOf x = 0 ∧ (two = 0 ∨ soft = true ∨ 0 < clsOf two) ∧ catOf one ≠ 0)
theorem rows_parts : ∀ y ∈ splits, partsOk y.rune y.one y.two y.soft = true := by decide +kernel
theorem wide_parts : ∀ i ∈ List.range 94, partsOk (65281 + i) (65281 + i - 65248) 0 true = true := by decide +kernel
theorem split_parts {x : Int} {y : Sp} (h : splitOf x = some y) : partsOk x y.one y.two y.soft = true := by
  rcases split_cases h with ⟨hy, rfl⟩ | ⟨hw, rfl⟩
  · exact rows_parts y hy
  · simp only [wideOf, Bool.and_eq_true, decide_eq_true_eq] at hw
    have := wide_parts (x - 65281).toNat (by rw [List.mem_range]; omega)
    rwa [show (65281 : Int) + ((x - 65281).toNat : Int) = x by omega] at this
theorem rows_apart : ∀ y ∈ splits, y.one ≠ y.rune := by decide +kernel
theorem narrow_apart {x : Int} {y : Sp} (h : splitOf x = some y) : y.one ≠ x := by
  rcases split_cases h with ⟨hy, rfl⟩ | ⟨_, rfl⟩
  · exact rows_apart y hy
  · show x - 65248 ≠ x
    omega
def wideOk (x : Int) : Bool := match splitOf (lowOf x) with | some y => y.one == lowOf (x - 65248) | none => false
theorem rows_wide : ∀ i ∈ List.range 94, wideOk (65281 + i) = true := by decide +kernel
theorem wide_low {x : Int} (h1 : 65281 ≤ x) (h2 : x ≤ 65374) : ∃ y, splitOf (lowOf x) = some y ∧ y.one = lowOf (x - 65248) := by
  have := rows_wide (x - 65281).toNat (by rw [List.mem_range]; omega)
  rw [show (65281 : Int) + ((x - 65281).toNat : Int) = x by omega] at this
  unfold wideOk at this
  cases h : splitOf (lowOf x) with
  | none => rw [h] at this; cases this
  | some y => rw [h] at this; exact ⟨y, rfl, by simpa using this⟩
end Go.Proofs.Ytpmcmbkilcpleaa
