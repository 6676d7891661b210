/-
  PLAIN: what the tables of characters have among themselves: pairs and splits tell of each other, small letters, marks, wide characters. Conditions: none. By going over the rows.
  PLAIN: what characters are split into, marks in their order, what is joined; that each form, done again, changes nothing, and what the forms of forms are. Conditions: none. Nothing of the program is imported here.
  PLAIN: marks that are turned, neighbour by neighbour, as often as there are characters, come to stand in their order. Conditions: none. Nothing of the program is imported here.
  PLAIN: folded characters: small letters, narrow characters; what is folded again is as it was, and a string and its normal forms are folded alike. Conditions: none. Nothing of the program is imported here.
  PLAIN: ASCII is in all normal forms, and is folded letter by letter. Conditions: none. Nothing of the program is imported here.
  PLAIN: rows in which marks of unlike classes are turned: by neighbours, by parts that change their places; two rows in their order, and how they become one. Conditions: as they stand in each. Nothing of the program is imported here.
-/
import Derived.Test.YtmbammhkkcnoaaaGreatTab
namespace Go.Proofs.YtmbammhkkcnoaaaGreat
/-- A row tells itself. -/
def tellsRow (y : Sp) : Bool := match splitOf y.rune with | some s => s.one == y.one && s.two == y.two && s.out == y.out | none => false
theorem rows_tell : ∀ y ∈ splits, tellsRow y = true := by decide +kernel
theorem rows_pair : ∀ y ∈ splits, y.out = false → pairOf y.one y.two = some y.rune ∧ y.two ≠ 0 ∧ y.soft = false := by decide +kernel
theorem split_cases {x : Int} {y : Sp} (h : splitOf x = some y) : (y ∈ splits ∧ y.rune = x) ∨ (wideOf x = true ∧ y = ⟨x, x - 65248, 0, true, true⟩) := by
  unfold splitOf at h
  cases hr : rowOf x with
  | some z =>
    rw [hr] at h
    obtain rfl := Option.some.inj h
    obtain ⟨h1, h2, h3⟩ := seek_some hr
    exact .inl ⟨h1, Int.le_antisymm h2 h3⟩
  | none =>
    rw [hr] at h
    cases hw : wideOf x with
    | true => simp only [hw, if_true, Option.some.injEq] at h; exact .inr ⟨rfl, h.symm⟩
    | false => simp [hw] at h
theorem split_pair {x : Int} {y : Sp} (h : splitOf x = some y) (ho : y.out = false) : pairOf y.one y.two = some x ∧ y.two ≠ 0 ∧ y.soft = false := by
  rcases split_cases h with ⟨hy, rfl⟩ | ⟨_, rfl⟩
  · exact rows_pair y hy ho
  · cases ho
theorem pair_split {a b z : Int} (h : pairOf a b = some z) : ∃ y, splitOf z = some y ∧ y.one = a ∧ y.two = b ∧ y.out = false := by
  unfold pairOf at h
  by_cases hb : b = 0
  · rw [if_pos hb] at h; cases h
  · rw [if_neg hb] at h
    cases hf : splits.find? (makes a b) with
    | none => rw [hf] at h; cases h
    | some s =>
      rw [hf] at h
      have hz : s.rune = z := by simpa using h
      have hm := List.find?_some hf
      have hs := List.mem_of_find?_eq_some hf
      simp only [makes, Bool.and_eq_true, Bool.not_eq_true', beq_iff_eq] at hm
      have ht := rows_tell s hs
      unfold tellsRow at ht
      rw [hz] at ht
      cases hq : splitOf z with
      | none => rw [hq] at ht; cases ht
      | some y =>
        rw [hq] at ht
        simp only [Bool.and_eq_true, beq_iff_eq] at ht
        exact ⟨y, rfl, by rw [ht.1.1, hm.1.2], by rw [ht.1.2, hm.2], by rw [ht.2, hm.1.1.2]⟩
/-- What a great letter's small one is. -/
def lowOk (x : Int) : Bool := decide (lowOf (lowOf x) = lowOf x ∧ catOf x = 1 ∧ catOf (lowOf x) = 2 ∧ bidiOf (lowOf x) = bidiOf x ∧ clsOf (lowOf x) = 0 ∧ scriptOf (lowOf x) = scriptOf x)
theorem rows_low : ∀ y ∈ lowers, ∀ i ∈ List.range (y.hi - y.lo + 1).toNat, lowOk (y.lo + i) = true := by decide +kernel
theorem low_cases (x : Int) : lowOf x = x ∨ lowOk x = true := by
  cases h : lowerOf x with
  | none => left; unfold lowOf; rw [h]
  | some y =>
    right
    obtain ⟨h1, h2, h3⟩ := seek_some h
    have := rows_low y h1 (x - y.lo).toNat (by rw [List.mem_range]; omega)
    rwa [show y.lo + ((x - y.lo).toNat : Int) = x by omega] at this
def markOk (x : Int) : Bool := decide (0 < clsOf x ∧ catOf x = 4 ∧ bidiOf x = 6 ∧ joinOf x = 3)
theorem rows_class : ∀ y ∈ classes, ∀ i ∈ List.range (y.hi - y.lo + 1).toNat, markOk (y.lo + i) = true := by decide +kernel
theorem rows_mark : ∀ y ∈ ranges, y.cat = 4 → ∀ i ∈ List.range (y.hi - y.lo + 1).toNat, markOk (y.lo + i) = true := by decide +kernel
theorem mark_cases (x : Int) : markOk x = true ∨ (clsOf x = 0 ∧ catOf x ≠ 4) := by
  cases h : classOf x with
  | some y =>
    left
    obtain ⟨h1, h2, h3⟩ := seek_some h
    have := rows_class y h1 (x - y.lo).toNat (by rw [List.mem_range]; omega)
    rwa [show y.lo + ((x - y.lo).toNat : Int) = x by omega] at this
  | none =>
    by_cases hc : catOf x = 4
    · left
      cases hr : rangeOf x with
      | none => exfalso; unfold catOf at hc; rw [hr] at hc; exact absurd hc (by decide)
      | some y =>
        obtain ⟨h1, h2, h3⟩ := seek_some hr
        have hy : y.cat = 4 := by unfold catOf at hc; rw [hr] at hc; exact hc
        have := rows_mark y h1 hy (x - y.lo).toNat (by rw [List.mem_range]; omega)
        rwa [show y.lo + ((x - y.lo).toNat : Int) = x by omega] at this
    · right
      exact ⟨by unfold clsOf; rw [h], hc⟩
def partsOk (x one two : Int) (soft : Bool) : Bool := decide (clsOf one = 0 ∧ clsOf x = 0 ∧ (two = 0 ∨ soft = true ∨ 0 < clsOf two) ∧ catOf one ≠ 0)
theorem rows_parts : ∀ y ∈ splits, partsOk y.rune y.one y.two y.soft = true := by decide +kernel
theorem wide_parts : ∀ i ∈ List.range 94, partsOk (65281 + i) (65281 + i - 65248) 0 true = true := by decide +kernel
theorem split_parts {x : Int} {y : Sp} (h : splitOf x = some y) : partsOk x y.one y.two y.soft = true := by
  rcases split_cases h with ⟨hy, rfl⟩ | ⟨hw, rfl⟩
  · exact rows_parts y hy
  · simp only [wideOf, Bool.and_eq_true, decide_eq_true_eq] at hw
    have := wide_parts (x - 65281).toNat (by rw [List.mem_range]; omega)
    rwa [show (65281 : Int) + ((x - 65281).toNat : Int) = x by omega] at this
theorem rows_apart : ∀ y ∈ splits, y.one ≠ y.rune := by decide +kernel
theorem narrow_apart {x : Int} {y : Sp} (h : splitOf x = some y) : y.one ≠ x := by
  rcases split_cases h with ⟨hy, rfl⟩ | ⟨_, rfl⟩
  · exact rows_apart y hy
  · show x - 65248 ≠ x
    omega
def wideOk (x : Int) : Bool := match splitOf (lowOf x) with | some y => y.one == lowOf (x - 65248) | none => false
theorem rows_wide : ∀ i ∈ List.range 94, wideOk (65281 + i) = true := by decide +kernel
theorem wide_low {x : Int} (h1 : 65281 ≤ x) (h2 : x ≤ 65374) : ∃ y, splitOf (lowOf x) = some y ∧ y.one = lowOf (x - 65248) := by
  have := rows_wide (x - 65281).toNat (by rw [List.mem_range]; omega)
  rw [show (65281 : Int) + ((x - 65281).toNat : Int) = x by omega] at this
  unfold wideOk at this
  cases h : splitOf (lowOf x) with
  | none => rw [h] at this; cases this
  | some y => rw [h] at this; exact ⟨y, rfl, by simpa using this⟩
end Go.Proofs.YtmbammhkkcnoaaaGreat
namespace Go.Proofs.YtmbammhkkcnoaaaGreat
namespace Norm
/-- A syllable of Hangul. -/
def syl (r : Int) : Bool := decide (44032 ≤ r) && decide (r ≤ 55203)
def sylParts (r : Int) : List Int := [4352 + (r - 44032) / 588, 4449 + (r - 44032) % 588 / 28] ++ (if (r - 44032) % 28 = 0 then [] else [4519 + (r - 44032) % 28])
/-- What a character is split into, n steps deep. -/
def one : Nat → Bool → Int → List Int
  | 0, _, r => [r]
  | n + 1, soft, r => if syl r then sylParts r else match splitOf r with
    | none => [r]
    | some x => if x.soft && !soft then [r] else one n soft x.one ++ (if x.two = 0 then [] else one n soft x.two)
def pieces (soft : Bool) (r : Int) : List Int := one 4 soft r
/-- It is split into itself. -/
def whole (soft : Bool) (c : Int) : Bool := pieces soft c == [c]
theorem whole_iff {soft : Bool} {c : Int} : whole soft c = true ↔ pieces soft c = [c] := by unfold whole; rw [beq_iff_eq]
def rowOk (soft : Bool) (x a b : Int) : Bool := decide (one 3 soft a = one 4 soft a) && decide (one 3 soft b = one 4 soft b) && (pieces soft x).all (whole soft) && (pieces true x).all (whole false) && decide ((pieces false x).flatMap (pieces true) = pieces true x) && !syl x
theorem rows_one : ∀ y ∈ splits, rowOk false y.rune y.one y.two = true ∧ rowOk true y.rune y.one y.two = true := by decide +kernel
theorem wide_one : ∀ i ∈ List.range 94, rowOk false (65281 + i) (65281 + i - 65248) 0 = true ∧ rowOk true (65281 + i) (65281 + i - 65248) 0 = true := by decide +kernel
theorem split_one (soft : Bool) {x : Int} {y : Sp} (h : splitOf x = some y) : rowOk soft x y.one y.two = true := by
  rcases split_cases h with ⟨hy, rfl⟩ | ⟨hw, rfl⟩
  · cases soft
    · exact (rows_one y hy).1
    · exact (rows_one y hy).2
  · simp only [wideOf, Bool.and_eq_true, decide_eq_true_eq] at hw
    have := wide_one (x - 65281).toNat (by rw [List.mem_range]; omega)
    rw [show (65281 : Int) + ((x - 65281).toNat : Int) = x by omega] at this
    cases soft
    · exact this.1
    · exact this.2
theorem syl_iff (r : Int) : syl r = true ↔ 44032 ≤ r ∧ r ≤ 55203 := by unfold syl; simp
/-- How a character is split, one step. -/
theorem pieces_eq (soft : Bool) (r : Int) : pieces soft r = if syl r then sylParts r else match splitOf r with
    | none => [r]
    | some x => if x.soft && !soft then [r] else pieces soft x.one ++ (if x.two = 0 then [] else pieces soft x.two) := by
  show one 4 soft r = _
  rw [one]
  cases hs : syl r with
  | true => rfl
  | false =>
    simp only [Bool.false_eq_true, if_false]
    cases h : splitOf r with
    | none => rfl
    | some x =>
      have := split_one soft h
      simp only [rowOk, Bool.and_eq_true, decide_eq_true_eq] at this
      simp only [this.1.1.1.1.1, this.1.1.1.1.2]
      rfl
/-- The parts of syllables. -/
def jamo (c : Int) : Bool := (decide (4352 ≤ c) && decide (c ≤ 4370)) || (decide (4449 ≤ c) && decide (c ≤ 4469)) || (decide (4520 ≤ c) && decide (c ≤ 4546))
theorem jamo_iff (c : Int) : jamo c = true ↔ (4352 ≤ c ∧ c ≤ 4370) ∨ (4449 ≤ c ∧ c ≤ 4469) ∨ (4520 ≤ c ∧ c ≤ 4546) := by
  unfold jamo; simp [or_assoc]
def jamoOk (c : Int) : Bool := whole false c && whole true c && decide (clsOf c = 0)
theorem rows_jamo : ∀ i ∈ List.range 195, jamo (4352 + i) = true → jamoOk (4352 + i) = true := by decide +kernel
theorem jamo_ok {c : Int} (h : jamo c = true) : whole false c = true ∧ whole true c = true ∧ clsOf c = 0 := by
  have h' := (jamo_iff c).1 h
  have := rows_jamo (c - 4352).toNat (by rw [List.mem_range]; omega)
  rw [show (4352 : Int) + ((c - 4352).toNat : Int) = c by omega] at this
  have := this h
  simp only [jamoOk, Bool.and_eq_true, decide_eq_true_eq] at this
  exact ⟨this.1.1, this.1.2, this.2⟩
theorem jamo_whole {c : Int} (h : jamo c = true) (soft : Bool) : whole soft c = true := by
  cases soft
  · exact (jamo_ok h).1
  · exact (jamo_ok h).2.1
theorem syl_jamo {r : Int} (h : syl r = true) : ∀ c ∈ sylParts r, jamo c = true := by
  have h' := (syl_iff r).1 h
  intro c hc
  unfold sylParts at hc
  rw [jamo_iff]
  split at hc
  · simp only [List.append_nil, List.mem_cons, List.not_mem_nil, or_false] at hc
    omega
  · simp only [List.cons_append, List.nil_append, List.mem_cons, List.not_mem_nil, or_false] at hc
    omega
/-- What it is split into is split no more. -/
theorem pieces_whole (soft : Bool) (r : Int) : ∀ c ∈ pieces soft r, whole soft c = true := by
  cases hs : syl r with
  | true =>
    rw [pieces_eq, hs]
    exact fun c hc => jamo_whole (syl_jamo hs c hc) soft
  | false =>
    cases h : splitOf r with
    | none =>
      have e : pieces soft r = [r] := by rw [pieces_eq, hs, h]; rfl
      intro c hc
      rw [e, List.mem_singleton] at hc
      rw [hc]
      exact whole_iff.2 e
    | some x =>
      have := split_one soft h
      simp only [rowOk, Bool.and_eq_true] at this
      exact List.all_eq_true.1 this.1.1.1.2
theorem pieces_soft_whole (r : Int) : ∀ c ∈ pieces true r, whole false c = true := by
  cases hs : syl r with
  | true =>
    rw [pieces_eq, hs]
    exact fun c hc => jamo_whole (syl_jamo hs c hc) false
  | false =>
    cases h : splitOf r with
    | none =>
      have e : ∀ b, pieces b r = [r] := fun b => by rw [pieces_eq, hs, h]; rfl
      intro c hc
      rw [e, List.mem_singleton] at hc
      rw [hc]
      exact whole_iff.2 (e false)
    | some x =>
      have := split_one true h
      simp only [rowOk, Bool.and_eq_true] at this
      exact List.all_eq_true.1 this.1.1.2
theorem flatMap_whole (soft : Bool) {l : List Int} (h : ∀ c ∈ l, whole soft c = true) : l.flatMap (pieces soft) = l := by
  induction l with
  | nil => rfl
  | cons a l ih =>
    rw [List.flatMap_cons, whole_iff.1 (h a (by simp)), ih fun c hc => h c (by simp [hc])]
    rfl
theorem pieces_twice (r : Int) : (pieces false r).flatMap (pieces true) = pieces true r := by
  cases hs : syl r with
  | true =>
    have e : ∀ b, pieces b r = sylParts r := fun b => by rw [pieces_eq, hs]; rfl
    rw [e, e]
    exact flatMap_whole true fun c hc => jamo_whole (syl_jamo hs c hc) true
  | false =>
    cases h : splitOf r with
    | none =>
      have e : ∀ b, pieces b r = [r] := fun b => by rw [pieces_eq, hs, h]; rfl
      rw [e false]
      simp
    | some x =>
      have := split_one true h
      simp only [rowOk, Bool.and_eq_true, decide_eq_true_eq] at this
      exact this.1.2
theorem rows_le : ∀ y ∈ classes, y.hi ≤ 12441 := by decide +kernel
theorem syl_cls {r : Int} (h : syl r = true) : clsOf r = 0 := by
  have h' := (syl_iff r).1 h
  unfold clsOf
  cases hc : classOf r with
  | none => rfl
  | some y =>
    obtain ⟨h1, h2, h3⟩ := seek_some hc
    have := rows_le y h1
    omega
/-- A mark is split into itself. -/
theorem mark_whole (soft : Bool) {c : Int} (h : 0 < clsOf c) : whole soft c = true := by
  rw [whole_iff, pieces_eq]
  cases hs : syl c with
  | true => rw [syl_cls hs] at h; omega
  | false =>
    cases hp : splitOf c with
    | none => rfl
    | some x =>
      have := split_parts hp
      simp only [partsOk, decide_eq_true_eq] at this
      omega
/-- What two make. -/
def make2 (a b : Int) : Option Int :=
  if 4352 ≤ a ∧ a ≤ 4370 ∧ 4449 ≤ b ∧ b ≤ 4469 then some (44032 + (a - 4352) * 588 + (b - 4449) * 28)
  else if syl a = true ∧ (a - 44032) % 28 = 0 ∧ 4520 ≤ b ∧ b ≤ 4546 then some (a + b - 4519)
  else pairOf a b
/-- What was made is split into what it was made of. -/
theorem make2_one (soft : Bool) {a b x : Int} (h : make2 a b = some x) : pieces soft x = pieces soft a ++ pieces soft b := by
  unfold make2 at h
  by_cases h1 : 4352 ≤ a ∧ a ≤ 4370 ∧ 4449 ≤ b ∧ b ≤ 4469
  · rw [if_pos h1] at h
    have hx := (Option.some.inj h).symm
    have ha : jamo a = true := (jamo_iff a).2 (by omega)
    have hb : jamo b = true := (jamo_iff b).2 (by omega)
    rw [whole_iff.1 (jamo_whole ha soft), whole_iff.1 (jamo_whole hb soft), pieces_eq, if_pos ((syl_iff x).2 (by omega))]
    unfold sylParts
    rw [if_pos (by omega), show 4352 + (x - 44032) / 588 = a by omega, show 4449 + (x - 44032) % 588 / 28 = b by omega]
    rfl
  · rw [if_neg h1] at h
    by_cases h2 : syl a = true ∧ (a - 44032) % 28 = 0 ∧ 4520 ≤ b ∧ b ≤ 4546
    · rw [if_pos h2] at h
      have hx := (Option.some.inj h).symm
      have ha := (syl_iff a).1 h2.1
      have hb : jamo b = true := (jamo_iff b).2 (by omega)
      rw [whole_iff.1 (jamo_whole hb soft), pieces_eq, if_pos ((syl_iff x).2 (by omega)), pieces_eq, if_pos h2.1]
      unfold sylParts
      rw [if_pos h2.2.1, if_neg (by omega), show 4352 + (x - 44032) / 588 = 4352 + (a - 44032) / 588 by omega, show 4449 + (x - 44032) % 588 / 28 = 4449 + (a - 44032) % 588 / 28 by omega, show 4519 + (x - 44032) % 28 = b by omega]
      rfl
    · rw [if_neg h2] at h
      obtain ⟨y, hy, rfl, rfl, ho⟩ := pair_split h
      obtain ⟨-, h3, h4⟩ := split_pair hy ho
      have h5 := split_one soft hy
      simp only [rowOk, Bool.and_eq_true, Bool.not_eq_true'] at h5
      rw [pieces_eq soft x, h5.2, hy]
      simp only [h4, Bool.false_and, Bool.false_eq_true, if_false, if_neg h3]
/-- Marks of unlike classes that stand together may be turned. -/
inductive Sim : List Int → List Int → Prop
  | refl (l : List Int) : Sim l l
  | swap (p : List Int) (a b : Int) (q : List Int) : 0 < clsOf a → 0 < clsOf b → clsOf a ≠ clsOf b → Sim (p ++ a :: b :: q) (p ++ b :: a :: q)
  | trans {x y z : List Int} : Sim x y → Sim y z → Sim x z
theorem Sim.symm {x y : List Int} (h : Sim x y) : Sim y x := by
  induction h with
  | refl l => exact .refl l
  | swap p a b q h1 h2 h3 => exact .swap p b a q h2 h1 fun e => h3 e.symm
  | trans _ _ ih1 ih2 => exact .trans ih2 ih1
theorem Sim.ahead {x y : List Int} (h : Sim x y) (p : List Int) : Sim (p ++ x) (p ++ y) := by
  induction h with
  | refl l => exact .refl _
  | swap p' a b q h1 h2 h3 =>
    rw [← List.append_assoc, ← List.append_assoc]
    exact .swap _ a b q h1 h2 h3
  | trans _ _ ih1 ih2 => exact .trans ih1 ih2
theorem Sim.behind {x y : List Int} (h : Sim x y) (q : List Int) : Sim (x ++ q) (y ++ q) := by
  induction h with
  | refl l => exact .refl _
  | swap p a b q' h1 h2 h3 =>
    simp only [List.append_assoc, List.cons_append]
    exact .swap p a b _ h1 h2 h3
  | trans _ _ ih1 ih2 => exact .trans ih1 ih2
/-- x, put ahead of a row in its order. -/
def ins (x : Int) : List Int → List Int
  | [] => [x]
  | y :: l => if 0 < clsOf y ∧ clsOf y < clsOf x then y :: ins x l else x :: y :: l
def order : List Int → List Int
  | [] => []
  | x :: l => ins x (order l)
theorem ins_less {a b : Int} (ha : 0 < clsOf a) (hab : clsOf a < clsOf b) : ∀ L : List Int, ins a (ins b L) = ins b (ins a L)
  | [] => by simp only [ins]; rw [if_neg (by omega), if_pos ⟨ha, hab⟩]
  | y :: l => by
    by_cases h1 : 0 < clsOf y ∧ clsOf y < clsOf b
    · by_cases h2 : clsOf y < clsOf a
      · simp only [ins, if_pos h1, if_pos (show 0 < clsOf y ∧ clsOf y < clsOf a from ⟨h1.1, h2⟩)]
        rw [ins_less ha hab l]
      · simp only [ins, if_pos h1, if_neg (show ¬ (0 < clsOf y ∧ clsOf y < clsOf a) from fun h => h2 h.2), if_pos (show 0 < clsOf a ∧ clsOf a < clsOf b from ⟨ha, hab⟩)]
    · simp only [ins, if_neg h1, if_neg (show ¬ (0 < clsOf y ∧ clsOf y < clsOf a) from fun h => h1 ⟨h.1, by omega⟩), if_pos (show 0 < clsOf a ∧ clsOf a < clsOf b from ⟨ha, hab⟩), if_neg (show ¬ (0 < clsOf b ∧ clsOf b < clsOf a) from fun h => by omega)]
theorem ins_comm {a b : Int} (ha : 0 < clsOf a) (hb : 0 < clsOf b) (h : clsOf a ≠ clsOf b) (L : List Int) : ins a (ins b L) = ins b (ins a L) := by
  rcases (show clsOf a < clsOf b ∨ clsOf b < clsOf a by omega) with h1 | h1
  · exact ins_less ha h1 L
  · exact (ins_less hb h1 L).symm
theorem order_append (p q : List Int) : order (p ++ q) = p.foldr ins (order q) := by
  induction p with
  | nil => rfl
  | cons x p ih => simp only [List.cons_append, order, List.foldr_cons, ih]
/-- What may be turned into one another has one order. -/
theorem order_sim {x y : List Int} (h : Sim x y) : order x = order y := by
  induction h with
  | refl l => rfl
  | swap p a b q h1 h2 h3 => rw [order_append, order_append]; simp only [order]; rw [ins_comm h1 h2 h3]
  | trans _ _ ih1 ih2 => exact ih1.trans ih2
theorem ins_sim (x : Int) : ∀ L : List Int, Sim (x :: L) (ins x L)
  | [] => .refl _
  | y :: l => by
    unfold ins
    split
    · rename_i h
      exact .trans (Sim.swap [] x y l (by omega) h.1 (by omega)) ((ins_sim x l).ahead [y])
    · exact .refl _
theorem sim_order : ∀ l : List Int, Sim l (order l)
  | [] => .refl _
  | x :: l => .trans ((sim_order l).ahead [x]) (ins_sim x _)
theorem order_order (l : List Int) : order (order l) = order l := (order_sim (sim_order l)).symm
/-- No mark stands behind one of greater class. -/
def sorted : List Int → Bool
  | [] => true
  | x :: l => (match l with | [] => true | y :: _ => !(decide (0 < clsOf y) && decide (clsOf y < clsOf x))) && sorted l
theorem order_sorted : ∀ {l : List Int}, sorted l = true → order l = l
  | [], _ => rfl
  | [x], _ => rfl
  | x :: y :: l, h => by
    simp only [sorted, Bool.and_eq_true, Bool.not_eq_true', Bool.and_eq_false_iff, decide_eq_false_iff_not] at h
    have ih : order (y :: l) = y :: l := order_sorted (by simp only [sorted, Bool.and_eq_true]; exact h.2)
    show ins x (order (y :: l)) = _
    rw [ih]
    unfold ins
    rw [if_neg (fun hh => by rcases h.1 with h1 | h1 <;> omega)]
theorem order_is {l m : List Int} (h : Sim l m) (hs : sorted m = true) : m = order l := (order_sorted hs).symm.trans (order_sim h).symm
/-- All are split. -/
def split (soft : Bool) (l : List Int) : List Int := l.flatMap (pieces soft)
theorem split_append (soft : Bool) (p q : List Int) : split soft (p ++ q) = split soft p ++ split soft q := List.flatMap_append
theorem split_whole (soft : Bool) {l : List Int} (h : ∀ c ∈ l, whole soft c = true) : split soft l = l := flatMap_whole soft h
theorem split_sim (soft : Bool) {x y : List Int} (h : Sim x y) : Sim (split soft x) (split soft y) := by
  induction h with
  | refl l => exact .refl _
  | swap p a b q h1 h2 h3 =>
    simp only [split, List.flatMap_append, List.flatMap_cons, whole_iff.1 (mark_whole soft h1), whole_iff.1 (mark_whole soft h2), List.cons_append, List.nil_append]
    exact .swap _ a b _ h1 h2 h3
  | trans _ _ ih1 ih2 => exact .trans ih1 ih2
theorem split_twice (l : List Int) : split true (split false l) = split true l := by
  unfold split
  rw [List.flatMap_assoc]
  congr 1
  funext r
  exact pieces_twice r
/-- One more, held against what is made by then (the last one first). -/
def step (R : List Int) (c : Int) : List Int :=
  match R.dropWhile (fun y => decide (0 < clsOf y)) with
  | [] => c :: R
  | s :: A => if (R.takeWhile (fun y => decide (0 < clsOf y))).all (fun y => decide (clsOf y < clsOf c)) then
      (match make2 s c with | some x => R.takeWhile (fun y => decide (0 < clsOf y)) ++ x :: A | none => c :: R)
    else c :: R
def joinR (l : List Int) : List Int := l.foldl step []
def join (l : List Int) : List Int := (joinR l).reverse
theorem while_mem {p : Int → Bool} : ∀ {l : List Int} {y : Int}, y ∈ l.takeWhile p → p y = true
  | [], _, h => by cases h
  | x :: l, y, h => by
    rw [List.takeWhile_cons] at h
    split at h
    · rcases List.mem_cons.1 h with rfl | h
      · assumption
      · exact while_mem h
    · cases h
theorem sim_past {c : Int} : ∀ {M : List Int}, (∀ y ∈ M, 0 < clsOf y ∧ clsOf y < clsOf c) → Sim (c :: M) (M ++ [c])
  | [], _ => .refl _
  | y :: M, h => by
    have hy := h y (by simp)
    exact .trans (Sim.swap [] c y M (by omega) hy.1 (by omega)) ((sim_past fun z hz => h z (by simp [hz])).ahead [y])
theorem step_sim (soft : Bool) (R p : List Int) (c : Int) (hc : whole soft c = true) (h : Sim (split soft R.reverse) p) : Sim (split soft (step R c).reverse) (p ++ [c]) := by
  have plain : Sim (split soft (c :: R).reverse) (p ++ [c]) := by
    rw [List.reverse_cons, split_append]
    have e : split soft [c] = [c] := split_whole soft (by simpa using hc)
    rw [e]
    exact h.behind [c]
  unfold step
  split
  · exact plain
  · rename_i s A hA
    split
    · rename_i hfree
      split
      · rename_i x hx
        have hR : R = R.takeWhile (fun y => decide (0 < clsOf y)) ++ s :: A := by rw [← hA]; exact (List.takeWhile_append_dropWhile).symm
        have hM : ∀ y ∈ (R.takeWhile (fun y => decide (0 < clsOf y))).reverse, 0 < clsOf y ∧ clsOf y < clsOf c := by
          intro y hy
          rw [List.mem_reverse] at hy
          exact ⟨of_decide_eq_true (while_mem hy), of_decide_eq_true (List.all_eq_true.1 hfree y hy)⟩
        generalize R.takeWhile (fun y => decide (0 < clsOf y)) = M at hR hM
        subst hR
        refine .trans ?_ (h.behind [c])
        simp only [List.reverse_append, List.reverse_cons, List.append_assoc, List.singleton_append, split_append]
        have eM : split soft M.reverse = M.reverse := split_whole soft fun y hy => mark_whole soft (hM y hy).1
        have ex : split soft (x :: M.reverse) = pieces soft s ++ (c :: M.reverse) := by
          show pieces soft x ++ split soft M.reverse = _
          rw [make2_one soft hx, whole_iff.1 hc, eM, List.append_assoc]
          rfl
        have es : split soft (s :: M.reverse) = pieces soft s ++ M.reverse := by
          show pieces soft s ++ split soft M.reverse = _
          rw [eM]
        rw [ex, es, List.append_assoc]
        exact ((sim_past hM).ahead _).ahead _
      · exact plain
    · exact plain
theorem joinR_sim (soft : Bool) : ∀ (l R p : List Int), (∀ c ∈ l, whole soft c = true) → Sim (split soft R.reverse) p → Sim (split soft (l.foldl step R).reverse) (p ++ l)
  | [], R, p, _, h => by simpa using h
  | c :: l, R, p, hl, h => by
    have := joinR_sim soft l (step R c) (p ++ [c]) (fun y hy => hl y (by simp [hy])) (step_sim soft R p c (hl c (by simp)) h)
    simpa using this
/-- What was joined is split into what it was, but for the order of marks. -/
theorem join_sim (soft : Bool) {l : List Int} (h : ∀ c ∈ l, whole soft c = true) : Sim (split soft (join l)) l := by
  have := joinR_sim soft l [] [] h (.refl _)
  exact this
/-- Split, and in order. -/
def down (soft : Bool) (l : List Int) : List Int := order (split soft l)
theorem sim_mem {x y : List Int} (h : Sim x y) : ∀ c, c ∈ x ↔ c ∈ y := by
  induction h with
  | refl l => intro c; exact Iff.rfl
  | swap p a b q _ _ _ => intro c; simp only [List.mem_append, List.mem_cons]; constructor <;> (rintro (h | h | h | h) <;> simp [h])
  | trans _ _ ih1 ih2 => exact fun c => (ih1 c).trans (ih2 c)
theorem down_mem (soft : Bool) (l : List Int) : ∀ c ∈ down soft l, ∃ r ∈ l, c ∈ pieces soft r := by
  intro c hc
  have := (sim_mem (sim_order (split soft l)) c).2 hc
  exact List.mem_flatMap.1 this
theorem down_whole (soft : Bool) (l : List Int) : ∀ c ∈ down soft l, whole soft c = true := fun c hc => by
  obtain ⟨r, -, h⟩ := down_mem soft l c hc
  exact pieces_whole soft r c h
theorem down_soft_whole (l : List Int) : ∀ c ∈ down true l, whole false c = true := fun c hc => by
  obtain ⟨r, -, h⟩ := down_mem true l c hc
  exact pieces_soft_whole r c h
theorem down_sim (soft : Bool) {x y : List Int} (h : Sim x y) : down soft x = down soft y := order_sim (split_sim soft h)
theorem down_order (soft : Bool) (l : List Int) : order (down soft l) = down soft l := order_order _
/-- P3.6: each form, done again, changes nothing; and the forms of forms. -/
theorem down_down (soft : Bool) (l : List Int) : down soft (down soft l) = down soft l := by
  show order (split soft (down soft l)) = _
  rw [split_whole soft (down_whole soft l), down_order]
theorem down_join (soft : Bool) (l : List Int) : down soft (join (down soft l)) = down soft l := by
  show order (split soft (join (down soft l))) = _
  rw [order_sim (join_sim soft (down_whole soft l)), down_order]
theorem down_join_soft (l : List Int) : down false (join (down true l)) = down true l := by
  show order (split false (join (down true l))) = _
  rw [order_sim (join_sim false (down_soft_whole l)), down_order]
theorem soft_down (l : List Int) : down true (down false l) = down true l := by
  show order (split true (order (split false l))) = _
  rw [← order_sim (split_sim true (sim_order (split false l))), split_twice]
  rfl
theorem soft_join (l : List Int) : down true (join (down false l)) = down true l := by
  rw [← soft_down (join (down false l)), down_join, soft_down]
end Norm
end Go.Proofs.YtmbammhkkcnoaaaGreat
namespace Go.Proofs.YtmbammhkkcnoaaaGreat
namespace Norm
theorem cls_nonneg (x : Int) : 0 ≤ clsOf x := by
  rcases mark_cases x with h | h
  · simp only [markOk, decide_eq_true_eq] at h; omega
  · omega
/-- x goes ahead as long as what follows is of less class. -/
def bub (x : Int) : List Int → List Int
  | [] => [x]
  | y :: t => if 0 < clsOf y ∧ clsOf y < clsOf x then y :: bub x t else x :: bub y t
def pass : List Int → List Int
  | [] => []
  | x :: t => bub x t
def passes : Nat → List Int → List Int
  | 0, l => l
  | n + 1, l => passes n (pass l)
theorem bub_sim : ∀ (t : List Int) (x : Int), Sim (x :: t) (bub x t)
  | [], _ => .refl _
  | y :: t, x => by
    unfold bub
    split
    · rename_i h
      exact .trans (Sim.swap [] x y t (by omega) h.1 (by omega)) ((bub_sim t x).ahead [y])
    · exact (bub_sim t y).ahead [x]
theorem pass_sim (l : List Int) : Sim l (pass l) := by
  cases l with
  | nil => exact .refl _
  | cons x t => exact bub_sim t x
theorem passes_sim : ∀ (n : Nat) (l : List Int), Sim l (passes n l)
  | 0, _ => .refl _
  | n + 1, l => .trans (pass_sim l) (passes_sim n (pass l))
theorem bub_len : ∀ (t : List Int) (x : Int), (bub x t).length = t.length + 1
  | [], _ => rfl
  | y :: t, x => by
    unfold bub
    split
    · simp [bub_len t x]
    · simp [bub_len t y]
theorem pass_len (l : List Int) : (pass l).length = l.length := by
  cases l with
  | nil => rfl
  | cons x t => simp [pass, bub_len]
theorem passes_len : ∀ (n : Nat) (l : List Int), (passes n l).length = l.length
  | 0, _ => rfl
  | n + 1, l => by rw [passes, passes_len n, pass_len]
/-- How many of ctx are of greater class. -/
def cnt (ctx : List Int) (c : Int) : Nat := ctx.countP fun e => decide (c < clsOf e)
/-- Ahead of each mark, among those that stand together with it, at most k are of greater class. -/
def Fit (k : Nat) : List Int → List Int → Prop
  | _, [] => True
  | ctx, y :: t => if clsOf y = 0 then Fit k [] t else cnt ctx (clsOf y) ≤ k ∧ Fit k (y :: ctx) t
theorem fit_congr {k : Nat} : ∀ {t a b : List Int}, (∀ c, 0 < c → cnt a c = cnt b c) → Fit k a t → Fit k b t
  | [], _, _, _, _ => trivial
  | y :: t, a, b, h, hf => by
    unfold Fit at hf ⊢
    have hy := cls_nonneg y
    split at hf
    · rename_i h0
      rw [if_pos h0]
      exact hf
    · rename_i h0
      rw [if_neg h0]
      refine ⟨by rw [← h _ (by omega)]; exact hf.1, fit_congr (fun c hc => ?_) hf.2⟩
      have := h c hc
      simp only [cnt, List.countP_cons] at this ⊢
      omega
theorem cnt_zero {ctx : List Int} {c : Int} (h : ∀ e ∈ ctx, clsOf e ≤ c) : cnt ctx c = 0 := by
  unfold cnt
  rw [List.countP_eq_zero]
  intro e he
  have := h e he
  simp only [decide_eq_true_eq]
  omega
theorem bub_fit {k : Nat} : ∀ (t : List Int) (x : Int) (E : List Int), (clsOf x = 0 ∨ ∀ e ∈ E, clsOf e ≤ clsOf x) → Fit (k + 1) (if clsOf x = 0 then [] else x :: E) t → Fit k E (bub x t)
  | [], x, E, hE, _ => by
    unfold bub Fit
    split
    · trivial
    · rename_i h0
      rcases hE with h | h
      · exact absurd h h0
      · exact ⟨by rw [cnt_zero h]; omega, trivial⟩
  | y :: t, x, E, hE, hf => by
    have hx := cls_nonneg x
    have hy := cls_nonneg y
    unfold bub
    by_cases hs : 0 < clsOf y ∧ clsOf y < clsOf x
    · have hx0 : ¬ clsOf x = 0 := by omega
      have hy0 : ¬ clsOf y = 0 := by omega
      have hE' : ∀ e ∈ E, clsOf e ≤ clsOf x := hE.resolve_left hx0
      rw [if_pos hs]
      rw [if_neg hx0] at hf
      unfold Fit at hf ⊢
      rw [if_neg hy0] at hf ⊢
      have hc : cnt (x :: E) (clsOf y) = cnt E (clsOf y) + 1 := by
        simp only [cnt, List.countP_cons]
        rw [if_pos (by simpa using hs.2)]
      refine ⟨by have := hf.1; omega, bub_fit t x (y :: E) (.inr fun e he => ?_) ?_⟩
      · rcases List.mem_cons.1 he with rfl | he
        · omega
        · exact hE' e he
      · rw [if_neg hx0]
        refine fit_congr (fun c _ => ?_) hf.2
        simp only [cnt, List.countP_cons]
        omega
    · rw [if_neg hs]
      by_cases hx0 : clsOf x = 0
      · rw [if_pos hx0] at hf
        unfold Fit at hf ⊢
        rw [if_pos hx0]
        refine bub_fit t y [] (.inr fun e he => by cases he) ?_
        split at hf
        · rename_i h0
          rw [if_pos h0]; exact hf
        · rename_i h0
          rw [if_neg h0]; exact hf.2
      · have hE' : ∀ e ∈ E, clsOf e ≤ clsOf x := hE.resolve_left hx0
        rw [if_neg hx0] at hf
        unfold Fit at hf ⊢
        rw [if_neg hx0]
        refine ⟨by rw [cnt_zero hE']; omega, ?_⟩
        by_cases hy0 : clsOf y = 0
        · rw [if_pos hy0] at hf
          exact bub_fit t y (x :: E) (.inl hy0) (by rw [if_pos hy0]; exact hf)
        · rw [if_neg hy0] at hf
          refine bub_fit t y (x :: E) (.inr fun e he => ?_) (by rw [if_neg hy0]; exact hf.2)
          rcases List.mem_cons.1 he with rfl | he
          · omega
          · have := hE' e he; omega
theorem pass_fit {k : Nat} {l : List Int} (h : Fit (k + 1) [] l) : Fit k [] (pass l) := by
  cases l with
  | nil => trivial
  | cons x t =>
    refine bub_fit t x [] (.inr fun e he => by cases he) ?_
    unfold Fit at h
    split at h
    · rename_i h0
      rw [if_pos h0]; exact h
    · rename_i h0
      rw [if_neg h0]; exact h.2
theorem fit_more {k : Nat} : ∀ (l ctx : List Int), ctx.length + l.length ≤ k → Fit k ctx l
  | [], _, _ => trivial
  | y :: t, ctx, h => by
    unfold Fit
    simp only [List.length_cons] at h
    split
    · exact fit_more t [] (by simp; omega)
    · refine ⟨Nat.le_trans (List.countP_le_length) (by omega), fit_more t (y :: ctx) (by simp only [List.length_cons]; omega)⟩
theorem fit_pass : ∀ (k : Nat) (l : List Int), Fit k [] l → Fit 0 [] (passes k l)
  | 0, _, h => h
  | k + 1, l, h => fit_pass k (pass l) (pass_fit h)
theorem fit_sorted : ∀ (l ctx : List Int), Fit 0 ctx l → sorted l = true
  | [], _, _ => rfl
  | x :: l, ctx, h => by
    have hx := cls_nonneg x
    unfold sorted
    rw [Bool.and_eq_true]
    unfold Fit at h
    cases l with
    | nil => exact ⟨rfl, rfl⟩
    | cons y t =>
      have hy := cls_nonneg y
      by_cases h0 : clsOf x = 0
      · rw [if_pos h0] at h
        refine ⟨?_, fit_sorted _ _ h⟩
        simp only [Bool.not_eq_true', Bool.and_eq_false_iff, decide_eq_false_iff_not]
        omega
      · rw [if_neg h0] at h
        refine ⟨?_, fit_sorted _ _ h.2⟩
        have h2 := h.2
        unfold Fit at h2
        simp only [Bool.not_eq_true', Bool.and_eq_false_iff, decide_eq_false_iff_not]
        by_cases hy0 : clsOf y = 0
        · omega
        · rw [if_neg hy0] at h2
          right
          intro hlt
          have h3 := h2.1
          simp only [cnt, List.countP_cons] at h3
          rw [if_pos (by simpa using hlt)] at h3
          omega
/-- The document's own way of ordering. -/
theorem passes_order (l : List Int) : passes l.length l = order l :=
  order_is (passes_sim _ _) (fit_sorted _ _ (fit_pass _ _ (fit_more l [] (by simp))))
end Norm
end Go.Proofs.YtmbammhkkcnoaaaGreat
namespace Go.Proofs.YtmbammhkkcnoaaaGreat
namespace Fold
open Norm
/-- A wide character's narrow one. -/
def narrow (r : Int) : Int := if wideOf r then r - 65248 else r
def fo (r : Int) : Int := lowOf (narrow r)
/-- What folding owes the tables, of one character. -/
def foOk (r : Int) : Bool := decide (pieces false (fo r) = ((pieces false r).map fo).flatMap (pieces false)) && (pieces false (fo r)).all (fun c => fo c == c) && decide (0 < clsOf r → fo r = r)
theorem low_rows : ∀ y ∈ lowers, ∀ i ∈ List.range (y.hi - y.lo + 1).toNat, foOk (y.lo + i) = true := by decide +kernel
theorem split_rows : ∀ y ∈ splits, foOk y.rune = true := by decide +kernel
theorem wide_rows : ∀ i ∈ List.range 94, foOk (65281 + i) = true := by decide +kernel
theorem jamo_rows : ∀ i ∈ List.range 195, foOk (4352 + i) = true ∧ fo (4352 + i) = 4352 + i := by decide +kernel
theorem lowers_le : ∀ y ∈ lowers, y.hi < 44032 ∨ 55203 < y.lo := by decide +kernel
theorem low_syl {r : Int} (h : syl r = true) : fo r = r := by
  have h' := (syl_iff r).1 h
  have hn : narrow r = r := by unfold narrow wideOf; rw [if_neg]; simp; omega
  unfold fo
  rw [hn]
  unfold lowOf
  cases hl : lowerOf r with
  | none => rfl
  | some y =>
    obtain ⟨h1, h2, h3⟩ := seek_some hl
    have := lowers_le y h1
    omega
theorem jamo_fo {c : Int} (h : jamo c = true) : fo c = c := by
  have h' := (jamo_iff c).1 h
  have := (jamo_rows (c - 4352).toNat (by rw [List.mem_range]; omega)).2
  rwa [show (4352 : Int) + ((c - 4352).toNat : Int) = c by omega] at this
theorem map_fix {l : List Int} (h : ∀ c ∈ l, fo c = c) : l.map fo = l := by
  induction l with
  | nil => rfl
  | cons a l ih => rw [List.map_cons, h a (by simp), ih fun c hc => h c (by simp [hc])]
theorem fo_ok (r : Int) : foOk r = true := by
  cases hs : syl r with
  | true =>
    have e : pieces false r = sylParts r := by rw [pieces_eq, hs]; rfl
    have hj := fun c hc => jamo_fo (syl_jamo hs c hc)
    unfold foOk
    rw [low_syl hs, e, map_fix hj, flatMap_whole false fun c hc => jamo_whole (syl_jamo hs c hc) false]
    simp only [Bool.and_eq_true, decide_eq_true_eq, List.all_eq_true, beq_iff_eq]
    exact ⟨⟨trivial, hj⟩, fun _ => trivial⟩
  | false =>
    cases hw : wideOf r with
    | true =>
      simp only [wideOf, Bool.and_eq_true, decide_eq_true_eq] at hw
      have := wide_rows (r - 65281).toNat (by rw [List.mem_range]; omega)
      rwa [show (65281 : Int) + ((r - 65281).toNat : Int) = r by omega] at this
    | false =>
      cases hp : splitOf r with
      | some y =>
        rcases split_cases hp with ⟨hy, rfl⟩ | ⟨hw', -⟩
        · exact split_rows y hy
        · rw [hw] at hw'; cases hw'
      | none =>
        have hn : narrow r = r := by unfold narrow; rw [hw]; rfl
        cases hl : lowerOf r with
        | some y =>
          obtain ⟨h1, h2, h3⟩ := seek_some hl
          have := low_rows y h1 (r - y.lo).toNat (by rw [List.mem_range]; omega)
          rwa [show y.lo + ((r - y.lo).toNat : Int) = r by omega] at this
        | none =>
          have e : pieces false r = [r] := by rw [pieces_eq, hs, hp]; rfl
          have hf : fo r = r := by unfold fo lowOf; rw [hn, hl]
          unfold foOk
          rw [hf, e]
          simp [hf, e]
theorem fo_pieces (r : Int) : pieces false (fo r) = ((pieces false r).map fo).flatMap (pieces false) := by
  have := fo_ok r
  simp only [foOk, Bool.and_eq_true, decide_eq_true_eq] at this
  exact this.1.1
theorem fo_fix (r : Int) : ∀ c ∈ pieces false (fo r), fo c = c := by
  have := fo_ok r
  simp only [foOk, Bool.and_eq_true, List.all_eq_true, beq_iff_eq] at this
  exact this.1.2
theorem fo_mark {r : Int} (h : 0 < clsOf r) : fo r = r := by
  have := fo_ok r
  simp only [foOk, Bool.and_eq_true, decide_eq_true_eq] at this
  exact this.2 h
theorem split_fo (l : List Int) : split false (l.map fo) = split false ((split false l).map fo) := by
  induction l with
  | nil => rfl
  | cons r l ih =>
    show pieces false (fo r) ++ split false (l.map fo) = split false ((pieces false r ++ split false l).map fo)
    rw [List.map_append, split_append, ih, fo_pieces]
    rfl
theorem sim_fo {x y : List Int} (h : Sim x y) : Sim (x.map fo) (y.map fo) := by
  induction h with
  | refl l => exact .refl _
  | swap p a b q h1 h2 h3 =>
    simp only [List.map_append, List.map_cons, fo_mark h1, fo_mark h2]
    exact .swap _ a b _ h1 h2 h3
  | trans _ _ ih1 ih2 => exact .trans ih1 ih2
/-- Folding asks but for what is split, and in order. -/
theorem down_fo (l : List Int) : down false (l.map fo) = down false ((down false l).map fo) := by
  have h1 : down false (l.map fo) = down false ((split false l).map fo) := by
    show order (split false (l.map fo)) = order (split false ((split false l).map fo))
    rw [split_fo]
  rw [h1]
  exact down_sim false (sim_fo (sim_order (split false l)))
/-- Fold, by characters. -/
def fold (l : List Int) : List Int := join (down false (l.map fo))
theorem down_fold (l : List Int) : down false (fold l) = down false (l.map fo) := down_join false _
theorem fold_fix (l : List Int) : ∀ c ∈ down false (l.map fo), fo c = c := by
  intro c hc
  obtain ⟨r, hr, hcr⟩ := down_mem false _ c hc
  obtain ⟨q, -, rfl⟩ := List.mem_map.1 hr
  exact fo_fix q c hcr
/-- P4.4. -/
theorem fold_down (l : List Int) : fold (down false l) = fold l := by unfold fold; rw [← down_fo]
theorem fold_join (l : List Int) : fold (join (down false l)) = fold l := by
  unfold fold
  rw [down_fo, down_join, ← down_fo]
theorem fold_fold (l : List Int) : fold (fold l) = fold l := by
  show join (down false ((fold l).map fo)) = join (down false (l.map fo))
  rw [down_fo, down_fold, map_fix (fold_fix l), down_down]
theorem nfc_fold (l : List Int) : join (down false (fold l)) = fold l := by rw [down_fold]; rfl
/-- What two small, narrow ones make is so, too. -/
theorem pair_rows : ∀ y ∈ splits, fo y.one = y.one → fo y.two = y.two → fo y.rune = y.rune := by decide +kernel
theorem make2_fix {a b x : Int} (h : make2 a b = some x) (ha : fo a = a) (hb : fo b = b) : fo x = x := by
  unfold make2 at h
  split at h
  · obtain rfl := Option.some.inj h
    exact low_syl ((syl_iff _).2 (by omega))
  · split at h
    · rename_i h2
      obtain rfl := Option.some.inj h
      have := (syl_iff a).1 h2.1
      exact low_syl ((syl_iff _).2 (by omega))
    · obtain ⟨y, hy, rfl, rfl, ho⟩ := pair_split h
      rcases split_cases hy with ⟨h1, rfl⟩ | ⟨-, rfl⟩
      · exact pair_rows y h1 ha hb
      · cases ho
theorem step_fix {R : List Int} {c : Int} (hR : ∀ y ∈ R, fo y = y) (hc : fo c = c) : ∀ y ∈ step R c, fo y = y := by
  have plain : ∀ y ∈ c :: R, fo y = y := fun y hy => by
    rcases List.mem_cons.1 hy with rfl | hy
    · exact hc
    · exact hR y hy
  unfold step
  split
  · exact plain
  · rename_i s A hA
    have hin : ∀ y ∈ s :: A, fo y = y := fun y hy => hR y ((List.dropWhile_sublist (fun y => decide (0 < clsOf y))).subset (by rw [hA]; exact hy))
    split
    · split
      · rename_i x hx
        intro y hy
        rw [List.mem_append, List.mem_cons] at hy
        rcases hy with hy | rfl | hy
        · exact hR y ((List.takeWhile_sublist _).subset hy)
        · exact make2_fix hx (hin s (by simp)) hc
        · exact hin y (by simp [hy])
      · exact plain
    · exact plain
theorem join_fix : ∀ (l R : List Int), (∀ y ∈ l, fo y = y) → (∀ y ∈ R, fo y = y) → ∀ y ∈ l.foldl step R, fo y = y
  | [], _, _, hR => hR
  | c :: l, R, hl, hR => join_fix l (step R c) (fun y hy => hl y (by simp [hy])) (step_fix hR (hl c (by simp)))
theorem fold_all_fix (l : List Int) : ∀ c ∈ fold l, fo c = c := by
  intro c hc
  unfold fold join at hc
  rw [List.mem_reverse] at hc
  exact join_fix _ [] (fold_fix l) (fun y hy => by cases hy) c hc
/-- What folding leaves as it is is neither great nor wide. -/
def greatOk (r : Int) : Bool := decide (fo r ≠ r)
theorem great_rows : ∀ y ∈ ranges, y.cat = 1 → ∀ i ∈ List.range (y.hi - y.lo + 1).toNat, greatOk (y.lo + i) = true := by decide +kernel
theorem fix_small {c : Int} (h : fo c = c) : catOf c ≠ 1 ∧ wideOf c = false := by
  constructor
  · intro hc
    cases hr : rangeOf c with
    | none => unfold catOf at hc; rw [hr] at hc; exact absurd hc (by decide)
    | some y =>
      obtain ⟨h1, h2, h3⟩ := seek_some hr
      have hy : y.cat = 1 := by unfold catOf at hc; rw [hr] at hc; exact hc
      have := great_rows y h1 hy (c - y.lo).toNat (by rw [List.mem_range]; omega)
      rw [show y.lo + ((c - y.lo).toNat : Int) = c by omega] at this
      simp only [greatOk, decide_eq_true_eq] at this
      exact this h
  · cases hw : wideOf c with
    | false => rfl
    | true =>
      exfalso
      have hw' := hw
      simp only [wideOf, Bool.and_eq_true, decide_eq_true_eq] at hw'
      have key : ∀ i ∈ List.range 94, fo (65281 + i) ≠ 65281 + i := by decide +kernel
      have := key (c - 65281).toNat (by rw [List.mem_range]; omega)
      rw [show (65281 : Int) + ((c - 65281).toNat : Int) = c by omega] at this
      exact this h
end Fold
end Go.Proofs.YtmbammhkkcnoaaaGreat
namespace Go.Proofs.YtmbammhkkcnoaaaGreat
namespace Norm
def ascii (l : List Int) : Prop := ∀ c ∈ l, 0 ≤ c ∧ c < 128
def asciiOk (c : Int) : Bool := whole false c && whole true c && decide (clsOf c = 0) && decide (Fold.fo c = if 65 ≤ c ∧ c ≤ 90 then c + 32 else c)
theorem rows_ascii : ∀ i ∈ List.range 128, asciiOk (i : Nat) = true := by decide +kernel
theorem ascii_ok {c : Int} (h : 0 ≤ c ∧ c < 128) : asciiOk c = true := by
  have := rows_ascii c.toNat (by rw [List.mem_range]; omega)
  rwa [show ((c.toNat : Nat) : Int) = c by omega] at this
theorem ascii_whole {c : Int} (h : 0 ≤ c ∧ c < 128) (soft : Bool) : whole soft c = true := by
  have := ascii_ok h
  simp only [asciiOk, Bool.and_eq_true] at this
  cases soft
  · exact this.1.1.1
  · exact this.1.1.2
theorem ascii_cls {c : Int} (h : 0 ≤ c ∧ c < 128) : clsOf c = 0 := by
  have := ascii_ok h
  simp only [asciiOk, Bool.and_eq_true, decide_eq_true_eq] at this
  exact this.1.2
theorem ascii_fo {c : Int} (h : 0 ≤ c ∧ c < 128) : Fold.fo c = if 65 ≤ c ∧ c ≤ 90 then c + 32 else c := by
  have := ascii_ok h
  simp only [asciiOk, Bool.and_eq_true, decide_eq_true_eq] at this
  exact this.2
theorem sorted_zero : ∀ {l : List Int}, (∀ c ∈ l, clsOf c = 0) → sorted l = true
  | [], _ => rfl
  | [_], _ => rfl
  | x :: y :: l, h => by
    have ih : sorted (y :: l) = true := sorted_zero fun c hc => h c (by simp [hc])
    unfold sorted
    rw [Bool.and_eq_true]
    refine ⟨?_, ih⟩
    simp [h y (by simp)]
theorem ascii_down (soft : Bool) {l : List Int} (h : ascii l) : down soft l = l := by
  show order (split soft l) = l
  rw [split_whole soft fun c hc => ascii_whole (h c hc) soft]
  exact order_sorted (sorted_zero fun c hc => ascii_cls (h c hc))
theorem rows_two : ∀ y ∈ splits, y.soft = false → y.out = false → 768 ≤ y.two := by decide +kernel
theorem ascii_make {a b : Int} (ha : 0 ≤ a ∧ a < 128) (hb : 0 ≤ b ∧ b < 128) : make2 a b = none := by
  unfold make2
  rw [if_neg (by omega), if_neg (fun h => by have := (syl_iff a).1 h.1; omega)]
  cases hp : pairOf a b with
  | none => rfl
  | some z =>
    obtain ⟨y, hy, -, h2, ho⟩ := pair_split hp
    obtain ⟨-, -, h4⟩ := split_pair hy ho
    rcases split_cases hy with ⟨h1, -⟩ | ⟨-, rfl⟩
    · have := rows_two y h1 h4 ho
      omega
    · cases ho
theorem ascii_step {R : List Int} {c : Int} (hR : ascii R) (hc : 0 ≤ c ∧ c < 128) : step R c = c :: R := by
  cases R with
  | nil => rfl
  | cons s A =>
    have hs : ¬ 0 < clsOf s := by rw [ascii_cls (hR s (by simp))]; omega
    unfold step
    simp only [List.dropWhile_cons, List.takeWhile_cons, hs, decide_false, Bool.false_eq_true, if_false, List.all_nil, if_true, ascii_make (hR s (by simp)) hc]
theorem ascii_fold : ∀ (l R : List Int), ascii l → ascii R → l.foldl step R = l.reverse ++ R
  | [], _, _, _ => rfl
  | c :: l, R, hl, hR => by
    have hc := hl c (by simp)
    rw [List.foldl_cons, ascii_step hR hc, ascii_fold l (c :: R) (fun y hy => hl y (by simp [hy])) (fun y hy => by
      rcases List.mem_cons.1 hy with rfl | hy
      · exact hc
      · exact hR y hy)]
    simp
theorem ascii_join {l : List Int} (h : ascii l) : join l = l := by
  unfold join joinR
  rw [ascii_fold l [] h (fun y hy => by cases hy)]
  simp
theorem ascii_fold_is {l : List Int} (h : ascii l) : Fold.fold l = l.map fun c => if 65 ≤ c ∧ c ≤ 90 then c + 32 else c := by
  have e : l.map Fold.fo = l.map fun c => if 65 ≤ c ∧ c ≤ 90 then c + 32 else c := List.map_congr_left fun c hc => ascii_fo (h c hc)
  have ha : ascii (l.map fun c => if 65 ≤ c ∧ c ≤ 90 then c + 32 else c) := by
    intro c hc
    obtain ⟨d, hd, rfl⟩ := List.mem_map.1 hc
    have := h d hd
    split <;> omega
  unfold Fold.fold
  rw [e, ascii_down false ha, ascii_join ha]
end Norm
end Go.Proofs.YtmbammhkkcnoaaaGreat
namespace Go.Proofs.YtmbammhkkcnoaaaGreat
namespace Norm
theorem bang_ext {L M : List Int} (hl : L.length = M.length) (h : ∀ i, i < L.length → L[i]! = M[i]!) : L = M := by
  refine List.ext_getElem hl fun i h1 h2 => ?_
  have := h i h1
  rwa [getElem!_pos L i h1, getElem!_pos M i h2] at this
theorem bang_left {p q : List Int} {i : Nat} (h : i < p.length) : (p ++ q)[i]! = p[i]! := by
  rw [getElem!_pos (p ++ q) i (by rw [List.length_append]; omega), getElem!_pos p i h, List.getElem_append_left h]
theorem bang_right {p q : List Int} {i : Nat} (h : p.length ≤ i) : (p ++ q)[i]! = q[i - p.length]! := by
  simp only [List.getElem!_eq_getElem?_getD, List.getElem?_append_right h]
theorem bang_take {L : List Int} {n i : Nat} (h : i < n) : (L.take n)[i]! = L[i]! := by
  simp only [List.getElem!_eq_getElem?_getD, List.getElem?_take_of_lt h]
theorem bang_drop (L : List Int) (n i : Nat) : (L.drop n)[i]! = L[n + i]! := by
  simp only [List.getElem!_eq_getElem?_getD, List.getElem?_drop]
theorem bang_set (L : List Int) (k i : Nat) (x : Int) (h : k < L.length) : (L.set k x)[i]! = if i = k then x else L[i]! := by
  simp only [List.getElem!_eq_getElem?_getD, List.getElem?_set]
  by_cases e : i = k
  · subst e; simp [h]
  · rw [if_neg (fun h => e h.symm), if_neg e]
theorem bang_mem {L : List Int} {x : Int} (h : x ∈ L) : ∃ i, i < L.length ∧ L[i]! = x := by
  obtain ⟨i, hi, rfl⟩ := List.mem_iff_getElem.1 h
  exact ⟨i, hi, getElem!_pos L i hi⟩
/-- From a up to b classes rise. -/
def Up (L : List Int) (a b : Nat) : Prop := ∀ i j, a ≤ i → i < j → j < b → clsOf L[i]! ≤ clsOf L[j]!
theorem Up.part {L : List Int} {a b a' b' : Nat} (h : Up L a b) (h1 : a ≤ a') (h2 : b' ≤ b) : Up L a' b' := fun i j hi hij hj => h i j (by omega) hij (by omega)
theorem Up.le {L : List Int} {a b : Nat} (h : Up L a b) {i j : Nat} (hi : a ≤ i) (hij : i ≤ j) (hj : j < b) : clsOf L[i]! ≤ clsOf L[j]! := by
  rcases Nat.lt_or_eq_of_le hij with h1 | rfl
  · exact h i j hi h1 hj
  · exact Int.le_refl _
theorem Up.small {L : List Int} {a b : Nat} (h : b ≤ a + 1) : Up L a b := fun i j _ _ _ => by omega
theorem Up.same {L M : List Int} {a b : Nat} (h : Up L a b) (e : ∀ i, a ≤ i → i < b → M[i]! = L[i]!) : Up M a b := fun i j hi hij hj => by
  rw [e i hi (by omega), e j (by omega) hj]
  exact h i j hi hij hj
/-- M is L, but for marks of unlike classes from a up to b that were turned. -/
structure Moved (a b : Nat) (L M : List Int) : Prop where
  len : M.length = L.length
  out : ∀ i, i < a ∨ b ≤ i → M[i]! = L[i]!
  inn : ∀ i, a ≤ i → i < b → ∃ j, a ≤ j ∧ j < b ∧ M[i]! = L[j]!
  sim : (∀ i, a ≤ i → i < b → 0 < clsOf L[i]!) → Sim L M
theorem Moved.refl (a b : Nat) (L : List Int) : Moved a b L L := ⟨rfl, fun _ _ => rfl, fun i h1 h2 => ⟨i, h1, h2, rfl⟩, fun _ => .refl _⟩
theorem Moved.trans {a b : Nat} {L M N : List Int} (h : Moved a b L M) (k : Moved a b M N) : Moved a b L N := by
  refine ⟨k.len.trans h.len, fun i hi => (k.out i hi).trans (h.out i hi), fun i h1 h2 => ?_, fun hm => ?_⟩
  · obtain ⟨j, h3, h4, e⟩ := k.inn i h1 h2
    obtain ⟨j', h5, h6, e'⟩ := h.inn j h3 h4
    exact ⟨j', h5, h6, e.trans e'⟩
  · refine .trans (h.sim hm) (k.sim fun i h1 h2 => ?_)
    obtain ⟨j, h3, h4, e⟩ := h.inn i h1 h2
    rw [e]
    exact hm j h3 h4
theorem Moved.mono {a b a' b' : Nat} {L M : List Int} (h : Moved a b L M) (h1 : a' ≤ a) (h2 : b ≤ b') : Moved a' b' L M := by
  refine ⟨h.len, fun i hi => h.out i (by omega), fun i h3 h4 => ?_, fun hm => h.sim fun i h3 h4 => hm i (by omega) (by omega)⟩
  by_cases hi : a ≤ i ∧ i < b
  · obtain ⟨j, h5, h6, e⟩ := h.inn i hi.1 hi.2
    exact ⟨j, by omega, by omega, e⟩
  · exact ⟨i, h3, h4, h.out i (by omega)⟩
theorem Moved.all {a b : Nat} {L M : List Int} (h : Moved a b L M) {p : Int → Prop} (hp : ∀ i, a ≤ i → i < b → p L[i]!) : ∀ i, a ≤ i → i < b → p M[i]! := fun i h1 h2 => by
  obtain ⟨j, h3, h4, e⟩ := h.inn i h1 h2
  rw [e]
  exact hp j h3 h4
/-- Two neighbours are turned. -/
def turn (L : List Int) (k : Nat) : List Int := (L.set k L[k + 1]!).set (k + 1) L[k]!
theorem turn_len (L : List Int) (k : Nat) : (turn L k).length = L.length := by unfold turn; simp
theorem turn_bang (L : List Int) (k i : Nat) (h : k + 1 < L.length) : (turn L k)[i]! = if i = k + 1 then L[k]! else if i = k then L[k + 1]! else L[i]! := by
  unfold turn
  rw [bang_set _ _ _ _ (by rw [List.length_set]; exact h), bang_set _ _ _ _ (by omega)]
theorem cut_two (L : List Int) (k : Nat) (h : k + 1 < L.length) : L = L.take k ++ L[k]! :: L[k + 1]! :: L.drop (k + 2) := by
  rw [getElem!_pos L k (by omega), getElem!_pos L (k + 1) h, ← List.drop_eq_getElem_cons h, ← List.drop_eq_getElem_cons (by omega), List.take_append_drop]
theorem turn_eq (L : List Int) (k : Nat) (h : k + 1 < L.length) : turn L k = L.take k ++ L[k + 1]! :: L[k]! :: L.drop (k + 2) := by
  have e := cut_two L k h
  have hk : (L.take k).length = k := by rw [List.length_take]; omega
  unfold turn
  generalize L[k]! = x at e ⊢
  generalize L[k + 1]! = y at e ⊢
  generalize L.take k = p at e hk ⊢
  generalize L.drop (k + 2) = q at e ⊢
  subst e hk
  rw [List.set_append_right _ _ (Nat.le_refl _), List.set_append_right _ _ (by omega), Nat.sub_self, show p.length + 1 - p.length = 1 by omega]
  rfl
theorem Moved.turn {a b k : Nat} (L : List Int) (h1 : a ≤ k) (h2 : k + 1 < b) (h3 : b ≤ L.length) (hc : clsOf L[k + 1]! < clsOf L[k]!) : Moved a b L (turn L k) := by
  refine ⟨turn_len _ _, fun i hi => ?_, fun i h4 h5 => ?_, fun hm => ?_⟩
  · rw [turn_bang _ _ _ (by omega), if_neg (by omega), if_neg (by omega)]
  · rw [turn_bang _ _ _ (by omega)]
    by_cases e1 : i = k + 1
    · rw [if_pos e1]; exact ⟨k, by omega, by omega, rfl⟩
    · rw [if_neg e1]
      by_cases e2 : i = k
      · rw [if_pos e2]; exact ⟨k + 1, by omega, by omega, rfl⟩
      · rw [if_neg e2]; exact ⟨i, h4, h5, rfl⟩
  · rw [turn_eq L k (by omega)]
    have h := Sim.swap (L.take k) L[k]! L[k + 1]! (L.drop (k + 2)) (hm k h1 (by omega)) (hm (k + 1) (by omega) h2) (by omega)
    rwa [← cut_two L k (by omega)] at h
/-- Two parts side by side have changed their places. -/
structure Rot (a m b : Nat) (L M : List Int) : Prop where
  len : M.length = L.length
  fst : ∀ i, a ≤ i → i < a + (b - m) → M[i]! = L[i + (m - a)]!
  snd : ∀ i, a + (b - m) ≤ i → i < b → M[i]! = L[i - (b - m)]!
  out : ∀ i, i < a ∨ b ≤ i → M[i]! = L[i]!
theorem Rot.none {a m b : Nat} (L : List Int) (h1 : a ≤ m) (h2 : m ≤ b) (h : a = m ∨ m = b) : Rot a m b L L := by
  refine ⟨rfl, fun i h3 h4 => ?_, fun i h3 h4 => ?_, fun _ _ => rfl⟩
  · rcases h with rfl | rfl
    · rw [show i + (a - a) = i by omega]
    · omega
  · rcases h with rfl | rfl
    · omega
    · rw [show i - (m - m) = i by omega]
theorem sim_parts : ∀ {X Y : List Int}, (∀ x ∈ X, ∀ y ∈ Y, 0 < clsOf y ∧ clsOf y < clsOf x) → Sim (X ++ Y) (Y ++ X)
  | [], Y, _ => by rw [List.append_nil]; exact .refl _
  | x :: X, Y, h => by
    have h1 : Sim (X ++ Y) (Y ++ X) := sim_parts fun z hz y hy => h z (by simp [hz]) y hy
    have h2 : Sim (x :: Y) (Y ++ [x]) := sim_past fun y hy => h x (by simp) y hy
    have h3 := h2.behind X
    rw [List.append_assoc] at h3
    exact .trans (h1.ahead [x]) h3
theorem Rot.moved {a m b : Nat} {L M : List Int} (h : Rot a m b L M) (h1 : a ≤ m) (h2 : m ≤ b) (h3 : b ≤ L.length) (hc : ∀ i j, a ≤ i → i < m → m ≤ j → j < b → clsOf L[j]! < clsOf L[i]!) : Moved a b L M := by
  refine ⟨h.len, h.out, fun i h4 h5 => ?_, fun hm => ?_⟩
  · by_cases hi : i < a + (b - m)
    · exact ⟨i + (m - a), by omega, by omega, h.fst i h4 hi⟩
    · exact ⟨i - (b - m), by omega, by omega, h.snd i (by omega) h5⟩
  · have l1 : (L.take a).length = a := by rw [List.length_take]; omega
    have l2 : ((L.take m).drop a).length = m - a := by rw [List.length_drop, List.length_take]; omega
    have l3 : ((L.take b).drop m).length = b - m := by rw [List.length_drop, List.length_take]; omega
    have b2 : ∀ i, i < m - a → ((L.take m).drop a)[i]! = L[a + i]! := fun i hi => by rw [bang_drop, bang_take (by omega)]
    have b3 : ∀ i, i < b - m → ((L.take b).drop m)[i]! = L[m + i]! := fun i hi => by rw [bang_drop, bang_take (by omega)]
    have eL : L = L.take a ++ (((L.take m).drop a ++ (L.take b).drop m) ++ L.drop b) := by
      refine bang_ext (by simp only [List.length_append, List.length_drop, l1, l2, l3]; omega) fun i hi => ?_
      by_cases i1 : i < a
      · rw [bang_left (by omega), bang_take i1]
      rw [bang_right (by omega), l1]
      by_cases i2 : i < m
      · rw [bang_left (by simp only [List.length_append, l2, l3]; omega), bang_left (by omega), b2 _ (by omega), show a + (i - a) = i by omega]
      by_cases i3 : i < b
      · rw [bang_left (by simp only [List.length_append, l2, l3]; omega), bang_right (by omega), l2, b3 _ (by omega), show m + (i - a - (m - a)) = i by omega]
      rw [bang_right (by simp only [List.length_append, l2, l3]; omega), bang_drop, List.length_append, l2, l3, show b + (i - a - (m - a + (b - m))) = i by omega]
    have eM : M = L.take a ++ (((L.take b).drop m ++ (L.take m).drop a) ++ L.drop b) := by
      refine bang_ext (by rw [h.len]; simp only [List.length_append, List.length_drop, l1, l2, l3]; omega) fun i hi => ?_
      by_cases i1 : i < a
      · rw [bang_left (by omega), bang_take i1]; exact h.out i (.inl i1)
      rw [bang_right (by omega), l1]
      by_cases i2 : i < a + (b - m)
      · rw [bang_left (by simp only [List.length_append, l2, l3]; omega), bang_left (by omega), b3 _ (by omega), h.fst i (by omega) i2]
        congr 1; omega
      by_cases i3 : i < b
      · rw [bang_left (by simp only [List.length_append, l2, l3]; omega), bang_right (by omega), l3, b2 _ (by omega), h.snd i (by omega) i3]
        congr 1; omega
      rw [bang_right (by simp only [List.length_append, l2, l3]; omega), bang_drop, List.length_append, l2, l3, h.out i (.inr (by omega))]
      congr 1; omega
    have hS : Sim ((L.take m).drop a ++ (L.take b).drop m) ((L.take b).drop m ++ (L.take m).drop a) := by
      refine sim_parts fun x hx y hy => ?_
      obtain ⟨i, hi, rfl⟩ := bang_mem hx
      obtain ⟨j, hj, rfl⟩ := bang_mem hy
      rw [b2 i (by omega), b3 j (by omega)]
      exact ⟨hm _ (by omega) (by omega), hc _ _ (by omega) (by omega) (by omega) (by omega)⟩
    have := (hS.behind (L.drop b)).ahead (L.take a)
    rw [← eL, ← eM] at this
    exact this
/-- Behind the change of places: each half has two rows in their order. -/
theorem Rot.halves {a m b mid s e : Nat} {L M : List Int} (h : Rot s m e L M) (h1 : a ≤ s) (h2 : s ≤ m) (h3 : m ≤ e) (h4 : e ≤ b) (hse : s + e = mid + m) (u1 : Up L a m) (u2 : Up L m b) :
    Up M a s ∧ Up M s mid ∧ Up M mid e ∧ Up M e b := by
  refine ⟨fun i j hi hij hj => ?_, fun i j hi hij hj => ?_, fun i j hi hij hj => ?_, fun i j hi hij hj => ?_⟩
  · rw [h.out i (by omega), h.out j (by omega)]; exact u1 i j hi hij (by omega)
  · rw [h.fst i hi (by omega), h.fst j (by omega) (by omega)]; exact u2 _ _ (by omega) (by omega) (by omega)
  · rw [h.snd i (by omega) (by omega), h.snd j (by omega) hj]; exact u1 _ _ (by omega) (by omega) (by omega)
  · rw [h.out i (by omega), h.out j (by omega)]; exact u2 i j (by omega) hij hj
/-- Two rows in their order become one: by halves. -/
theorem merged {a m b mid s e : Nat} {L L1 L2 L3 : List Int} (h1 : a ≤ s) (h2 : s ≤ m) (h3 : m ≤ e) (h4 : e ≤ b) (hse : s + e = mid + m) (hm1 : s ≤ mid) (hb : b ≤ L.length) (u1 : Up L a m) (u2 : Up L m b)
    (hlo : ∀ c d, a ≤ c → c < s → e ≤ d → d < b → clsOf L[c]! ≤ clsOf L[d]!)
    (hhi : ∀ i j, s ≤ i → i < m → m ≤ j → j < e → clsOf L[j]! < clsOf L[i]!)
    (hR : Rot s m e L L1) (k2 : Moved a mid L1 L2) (v2 : Up L2 a mid) (k3 : Moved mid b L2 L3) (v3 : Up L3 mid b) : Moved a b L L3 ∧ Up L3 a b := by
  refine ⟨(((hR.moved h2 h3 (by omega) hhi).mono h1 h4).trans (k2.mono (Nat.le_refl _) (by omega))).trans (k3.mono (by omega) (Nat.le_refl _)), fun i j hi hij hj => ?_⟩
  by_cases c1 : j < mid
  · rw [k3.out i (by omega), k3.out j (by omega)]; exact v2 i j hi hij c1
  by_cases c2 : mid ≤ i
  · exact v3 i j c2 hij hj
  rw [k3.out i (by omega)]
  obtain ⟨i', a1, a2, ei⟩ := k2.inn i hi (by omega)
  obtain ⟨j', b1, b2, ej⟩ := k3.inn j (by omega) hj
  rw [ei, ej, k2.out j' (by omega)]
  by_cases d1 : i' < s
  · rw [hR.out i' (by omega)]
    by_cases d2 : j' < e
    · rw [hR.snd j' (by omega) d2]; exact u1 _ _ (by omega) (by omega) (by omega)
    · rw [hR.out j' (by omega)]; exact hlo _ _ (by omega) d1 (by omega) b2
  · rw [hR.fst i' (by omega) (by omega)]
    by_cases d2 : j' < e
    · rw [hR.snd j' (by omega) d2]; exact Int.le_of_lt (hhi _ _ (by omega) (by omega) (by omega) (by omega))
    · rw [hR.out j' (by omega)]; exact u2 _ _ (by omega) (by omega) b2
end Norm
end Go.Proofs.YtmbammhkkcnoaaaGreat
