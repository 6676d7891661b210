/-
  PLAIN: what is stepped byte by byte; how many line's ends the library's own count tells; whole parts and opposites of floats. Conditions: as they stand in each. Nothing of the program is imported here.
-/
import Derived.Test.YtegldopmneoenaaDoorSpotWords
import Derived.Lib.Strings
import Derived.Lib.CountLaws
import Derived.Lib.ItoaNum
import Derived.Laws.ComplexArith
namespace Go.Proofs.YtegldopmneoenaaDoor
open Go.RowKit
namespace Spot
/-- One byte more. -/
theorem steps_end : ∀ (bs : List UInt8) (b : UInt8) (l c : Nat), steps (bs ++ [b]) l c = if b = 10 ∧ bs.getLast? = some 13 then ((steps bs l c).1 + 1, 0) else ((steps bs l c).1, (steps bs l c).2 + 1)
  | [], b, l, c => by
    rw [if_neg (fun h => absurd h.2 (by simp))]
    exact steps_one b l c
  | [a], b, l, c => by
    show steps [a, b] l c = _
    rw [steps_two, steps_one]
    by_cases h : a = 13 ∧ b = 10
    · rw [if_pos h, if_pos ⟨h.2, by rw [h.1]; rfl⟩]
      rfl
    · rw [if_neg h, if_neg (fun e => h ⟨by simpa using e.2, e.1⟩), steps_one]
  | a :: a' :: t, b, l, c => by
    show steps (a :: a' :: (t ++ [b])) l c = _
    rw [steps_two, steps_two, List.getLast?_cons_cons]
    by_cases h : a = 13 ∧ a' = 10
    · rw [if_pos h, if_pos h, steps_end t b (l + 1) 0]
      cases t with
      | nil => rw [if_neg (fun e => absurd e.2 (by simp)), if_neg (fun e => by rw [h.2] at e; exact absurd e.2 (by decide))]
      | cons x t => rw [List.getLast?_cons_cons]
    · rw [if_neg h, if_neg h]
      exact steps_end (a' :: t) b l (c + 1)
/-- What comes of one byte more, told by the end of what is stepped over. -/
def more (p : Nat × Nat) (b : Bool) : Nat × Nat := if b then (p.1 + 1, 0) else (p.1, p.2 + 1)
theorem suffix_is (bs : List UInt8) (b : UInt8) : Lib.hasSuffix (bs ++ [b]) [13, 10] = decide (b = 10 ∧ bs.getLast? = some 13) := by
  rw [Bool.eq_iff_iff, decide_eq_true_eq]
  unfold Lib.hasSuffix
  rw [List.isSuffixOf_iff_suffix]
  constructor
  · rintro ⟨t, h⟩
    have h2 : (t ++ [13]) ++ [10] = bs ++ [b] := by rw [List.append_assoc]; exact h
    obtain ⟨h3, h4⟩ := List.append_inj' h2 rfl
    injection h4 with h5 _
    exact ⟨h5.symm, by rw [← h3]; simp⟩
  · rintro ⟨rfl, h⟩
    obtain ⟨t, rfl⟩ := List.getLast?_eq_some_iff.1 h
    exact ⟨t, by simp⟩
theorem steps_more {bs : List UInt8} {k : Nat} (h : k < bs.length) (l c : Nat) : steps (bs.take (k + 1)) l c = more (steps (bs.take k) l c) (Lib.hasSuffix (bs.take (k + 1)) [13, 10]) := by
  rw [List.take_succ_eq_append_getElem h, steps_end, suffix_is]
  unfold more
  by_cases e : bs[k] = 10 ∧ (bs.take k).getLast? = some 13
  · rw [if_pos e, if_pos (decide_eq_true e)]
  · rw [if_neg e, if_neg (by simpa using e)]
theorem count_step (a : UInt8) (l : List UInt8) : Lib.count (a :: l) [13, 10] = if [13, 10].isPrefixOf (a :: l) then 1 + Lib.count (l.drop 1) [13, 10] else Lib.count l [13, 10] := by
  have hne : ([13, 10] : List UInt8) ≠ [] := by simp
  by_cases hp : ([13, 10] : List UInt8).isPrefixOf (a :: l) = true
  · rw [if_pos hp]
    have hi : Lib.index (a :: l) [13, 10] = ((0 : Nat) : Int) := by rw [Lib.index, if_pos hp]; rfl
    rw [Lib.count_hit hne hi]
    rfl
  · rw [if_neg hp]
    have hi : Lib.index (a :: l) [13, 10] = if Lib.index l [13, 10] == -1 then -1 else Lib.index l [13, 10] + 1 := by rw [Lib.index, if_neg hp]
    have hge := Lib.index_ge l [13, 10]
    by_cases hm : Lib.index l [13, 10] = -1
    · rw [if_pos (beq_iff_eq.2 hm)] at hi
      rw [Lib.count_miss hi, Lib.count_miss hm]
    · rw [if_neg (fun h => hm (beq_iff_eq.1 h))] at hi
      obtain ⟨j, hj⟩ : ∃ j : Nat, Lib.index l [13, 10] = j := ⟨(Lib.index l [13, 10]).toNat, by omega⟩
      have hi2 : Lib.index (a :: l) [13, 10] = ((j + 1 : Nat) : Int) := by omega
      rw [Lib.count_hit hne hi2, Lib.count_hit hne hj, show j + 1 + ([13, 10] : List UInt8).length = (j + ([13, 10] : List UInt8).length) + 1 by omega, List.drop_succ_cons]
/-- The library's own count. -/
theorem count_is : ∀ bs : List UInt8, Lib.count bs [13, 10] = cnt bs
  | [] => Lib.count_miss (by decide)
  | [a] => by
    rw [count_step, if_neg (by simp [List.isPrefixOf])]
    exact Lib.count_miss (by decide)
  | a :: b :: t => by
    rw [count_step, cnt_two]
    have hp : ([13, 10] : List UInt8).isPrefixOf (a :: b :: t) = true ↔ a = 13 ∧ b = 10 := by
      simp only [List.isPrefixOf, Bool.and_eq_true, beq_iff_eq, Bool.and_true]
      exact ⟨fun h => ⟨h.1.symm, h.2.symm⟩, fun h => ⟨h.1.symm, h.2.symm⟩⟩
    by_cases h : a = 13 ∧ b = 10
    · rw [if_pos (hp.2 h), if_pos h, h.2, cnt_skip]
      show 1 + Lib.count t [13, 10] = _
      rw [count_is t]
    · rw [if_neg (fun e => h (hp.1 e)), if_neg h, count_is (b :: t), Nat.zero_add]
theorem num_is (n : Nat) : Lib.decDigits n = num n := by
  induction n using Nat.strongRecOn with
  | ind n ih =>
    rw [Lib.decDigits, num]
    by_cases h : n < 10
    · rw [dif_pos h, dif_pos h]
    · rw [dif_neg h, dif_neg h, ih (n / 10) (by omega)]
end Spot
namespace Flt
open Ieee
/-- What is rounded down. -/
theorem floor_quart {v : Int} (h0 : 0 ≤ v) (hv : v.natAbs < 2 ^ 50) : double.write ((double.read (quart v)).integral .down) = quart (4 * (v / 4)) := by
  obtain ⟨k, hk⟩ := read_quart (v := v) (by omega)
  rw [hk, decide_eq_false (show ¬ v < 0 by omega)]
  obtain ⟨n, rfl⟩ : ∃ n : Nat, v = n := ⟨v.toNat, by omega⟩
  unfold Datum.integral
  simp only [Int.natAbs_natCast]
  rw [show (-2 - (k : Int)).toNat = 0 by omega, show (-(-2 - (k : Int))).toNat = k + 2 by omega]
  have hc : Toward.down.cut false (n <<< k <<< 0) (k + 2) = n / 4 := by
    show (n <<< k) / (1 <<< min (k + 2) ((n <<< k).log2 + 2)) + false.toNat = n / 4
    rw [Bool.toNat_false, Nat.add_zero]
    by_cases h0 : n = 0
    · subst h0
      simp
    · rw [log_shift (by omega) k, show min (k + 2) (n.log2 + k + 2) = k + 2 by omega, Nat.shiftLeft_eq, Nat.shiftLeft_eq, Nat.one_mul, Nat.pow_add, Nat.mul_comm n, Nat.mul_div_mul_left _ _ (Nat.two_pow_pos k)]
  rw [hc]
  have h := quart_int (n := ((n / 4 : Nat) : Int)) (by omega)
  rw [show 4 * ((n : Int) / 4) = 4 * ((n / 4 : Nat) : Int) by omega, ← h]
  show double.nearest false (n / 4) 0 = double.nearest (decide (((n / 4 : Nat) : Int) < 0)) ((n / 4 : Nat) : Int).natAbs 0
  rw [decide_eq_false (show ¬ ((n / 4 : Nat) : Int) < 0 by omega), Int.natAbs_natCast]
theorem flip_is {r : Nat} (h : r < 2 ^ 63) : Op.negFloat .f64 r = 2 ^ 63 + r := by
  show r ^^^ 2 ^ 63 = _
  have h1 : (r ^^^ 2 ^ 63) / 2 ^ 63 = 1 := by
    rw [Nat.xor_div_two_pow, Nat.div_eq_of_lt h, Nat.div_self (by decide), Nat.zero_xor]
  have h2 : (r ^^^ 2 ^ 63) % 2 ^ 63 = r := by
    rw [Nat.xor_mod_two_pow, Nat.mod_eq_of_lt h, Nat.mod_self, Nat.xor_zero]
  have := Nat.div_add_mod (r ^^^ 2 ^ 63) (2 ^ 63)
  rw [h1, h2] at this
  omega
/-- What is taken away from itself. -/
theorem neg_quart {v : Int} (h0 : 0 ≤ v) (hv : v.natAbs < 2 ^ 53) : floatBits .add .f64 (quart v) (Op.negFloat .f64 (quart v)) = some (quart 0) := by
  by_cases hz : v = 0
  · subst hz
    decide +kernel
  · have e : Op.negFloat .f64 (quart v) = quart (-v) := by
      have h1 := nearest_val false (n := v.natAbs) (by omega) hv 0
      have h2 := nearest_val true (n := v.natAbs) (by omega) hv 0
      rw [show (v.natAbs <<< 0) = v.natAbs from rfl, show (-2 - ((0 : Nat) : Int)) = -2 by omega] at h1 h2
      unfold quart
      rw [decide_eq_false (show ¬ v < 0 by omega), decide_eq_true (show -v < 0 by omega), Int.natAbs_neg, h1, h2]
      have hL : v.natAbs.log2 < 53 := (Nat.log2_lt (by omega)).2 hv
      have ht : v.natAbs * 2 ^ (52 - v.natAbs.log2) < 2 ^ 53 := by
        have h1 : v.natAbs < 2 ^ (v.natAbs.log2 + 1) := Nat.lt_log2_self
        calc v.natAbs * 2 ^ (52 - v.natAbs.log2) < 2 ^ (v.natAbs.log2 + 1) * 2 ^ (52 - v.natAbs.log2) := Nat.mul_lt_mul_of_pos_right h1 (Nat.two_pow_pos _)
          _ = 2 ^ 53 := by rw [← Nat.pow_add]; congr 1; omega
      have hr : (v.natAbs.log2 + 1020) * 2 ^ 52 + v.natAbs * 2 ^ (52 - v.natAbs.log2) < 2 ^ 63 := by omega
      exact flip_is hr
    rw [e]
    have h := sum_quart (u := v) (v := -v) hv (by omega) (by rw [Int.add_right_neg]; decide)
    rw [Int.add_right_neg] at h
    exact h
/-- The sum of two spots' parts. -/
theorem spot_sum {a b c d : Int} (ha : a.natAbs < 2 ^ 50) (hb : b.natAbs < 2 ^ 50) (hc : c.natAbs < 2 ^ 50) (hd : d.natAbs < 2 ^ 50) : cSumBits .add .f64 (quart a) (quart b) (quart c) (quart d) = some (quart (a + c), quart (b + d)) := by
  have h1 : floatBits .add .f64 (quart a) (quart c) = some (quart (a + c)) := sum_quart (by omega) (by omega) (by omega)
  have h2 : floatBits .add .f64 (quart b) (quart d) = some (quart (b + d)) := sum_quart (by omega) (by omega) (by omega)
  unfold cSumBits
  rw [h1, h2]
  rfl
end Flt
end Go.Proofs.YtegldopmneoenaaDoor
