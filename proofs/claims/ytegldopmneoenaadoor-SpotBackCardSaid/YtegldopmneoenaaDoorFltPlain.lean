/-
  PLAIN: floats of 64 bits that stand for quarters of whole numbers below 2^53: their bits, their sums, how they stand to each other, and their whole parts. Conditions: as they stand in each. Nothing of the program is imported here.
-/
import Derived.Laws.ComplexArith
namespace Go.Proofs.YtegldopmneoenaaDoor
open Ieee
namespace Flt
theorem cut_whole (neg : Bool) (way : Toward) (hw : way = .even ∨ way = .zero) {n d : Nat} (q : Nat) (h : n = q <<< d) : way.cut neg n d = q := by
  have hgap : ∃ e, min d (n.log2 + 2) = e ∧ n = (q <<< (d - e)) <<< e ∧ (e = d ∨ q = 0) := by
    by_cases h0 : q = 0
    · subst h0
      exact ⟨_, rfl, by rw [h]; simp, .inr rfl⟩
    · have hd : d ≤ n.log2 := by
        rw [h, Nat.le_log2 (by rw [Nat.shiftLeft_eq]; exact Nat.ne_of_gt (Nat.mul_pos (Nat.pos_of_ne_zero h0) (Nat.two_pow_pos d))), Nat.shiftLeft_eq]
        exact Nat.le_mul_of_pos_left _ (Nat.pos_of_ne_zero h0)
      exact ⟨d, by omega, by rw [Nat.sub_self]; simpa using h, .inl rfl⟩
  obtain ⟨e, he, hn, hq⟩ := hgap
  have h2 : 0 < 2 ^ e := Nat.two_pow_pos e
  have hlow : n / (1 <<< e) = q := by
    rw [hn, Nat.shiftLeft_eq, Nat.shiftLeft_eq (a := 1), Nat.one_mul, Nat.mul_div_cancel _ h2]
    rcases hq with rfl | rfl
    · rw [Nat.sub_self]; rfl
    · simp
  have hrest : n % (1 <<< e) = 0 := by
    rw [hn, Nat.shiftLeft_eq, Nat.shiftLeft_eq (a := 1), Nat.one_mul, Nat.mul_mod_left]
  have hg : 0 < 1 <<< e := by rw [Nat.shiftLeft_eq, Nat.one_mul]; exact h2
  have h1 : decide (1 <<< e < 2 * 0) = false := decide_eq_false (by omega)
  have h3 : (1 <<< e == 2 * 0) = false := by rw [beq_eq_false_iff_ne]; omega
  unfold Toward.cut
  rw [he]
  simp only [hlow, hrest, h1, h3]
  rcases hw with rfl | rfl <;> rfl
theorem log_shift {n : Nat} (h0 : 0 < n) (k : Nat) : (n <<< k).log2 = n.log2 + k := by
  have hp : 0 < 2 ^ k := Nat.two_pow_pos k
  have hm0 : n * 2 ^ k ≠ 0 := Nat.ne_of_gt (Nat.mul_pos h0 hp)
  rw [Nat.shiftLeft_eq]
  refine Nat.le_antisymm ?_ ?_
  · refine Nat.le_of_lt_succ ((Nat.log2_lt hm0).2 ?_)
    rw [show (n.log2 + k).succ = n.log2 + 1 + k by omega, Nat.pow_add]
    exact Nat.mul_lt_mul_of_pos_right Nat.lt_log2_self hp
  · rw [Nat.le_log2 hm0, Nat.pow_add]
    exact Nat.mul_le_mul_right _ (Nat.log2_self_le (by omega))
/-- The bits of v quarters. -/
def quart (v : Int) : Nat := double.nearest (decide (v < 0)) v.natAbs (-2)
theorem least_is : double.leastPlace = -1074 := by decide
theorem binade_is : double.binade = 2 ^ 52 := rfl
theorem inf_is : double.infRung = 2047 * 2 ^ 52 := rfl
theorem sign_is : double.signWeight = 2 ^ 63 := rfl
/-- The rung of a number below 2^53, told by its digits and their place. -/
theorem nearest_val (neg : Bool) {n : Nat} (h0 : 0 < n) (h : n < 2 ^ 53) (k : Nat) :
    double.nearest neg (n <<< k) (-2 - (k : Int)) = double.word neg ((n.log2 + 1020) * 2 ^ 52 + n * 2 ^ (52 - n.log2)) := by
  have hL : n.log2 < 53 := (Nat.log2_lt (by omega)).2 h
  have hm0 : n <<< k ≠ 0 := by rw [Nat.shiftLeft_eq]; exact Nat.ne_of_gt (Nat.mul_pos h0 (Nat.two_pow_pos k))
  have hlog := log_shift h0 k
  unfold Format.nearest
  rw [if_neg hm0, hlog, least_is, binade_is, inf_is]
  have hlast : max (-2 - (k : Int) + ((n.log2 + k : Nat) : Int) - ((double.fractionBits : Nat) : Int)) (-1074) = (n.log2 : Int) - 54 := by
    rw [show double.fractionBits = 52 from rfl]
    omega
  simp only [hlast]
  have hkept : Toward.even.cut neg ((n <<< k) <<< ((-2 - (k : Int)) - ((n.log2 : Int) - 54)).toNat) (((n.log2 : Int) - 54) - (-2 - (k : Int))).toNat = n * 2 ^ (52 - n.log2) := by
    refine cut_whole neg .even (.inl rfl) _ ?_
    rw [Nat.shiftLeft_eq, Nat.shiftLeft_eq, Nat.shiftLeft_eq, Nat.mul_assoc, Nat.mul_assoc, ← Nat.pow_add, ← Nat.pow_add]
    congr 2
    omega
  rw [hkept]
  have ht : n * 2 ^ (52 - n.log2) < 2 ^ 53 := by
    have h1 : n < 2 ^ (n.log2 + 1) := Nat.lt_log2_self
    calc n * 2 ^ (52 - n.log2) < 2 ^ (n.log2 + 1) * 2 ^ (52 - n.log2) := Nat.mul_lt_mul_of_pos_right h1 (Nat.two_pow_pos _)
      _ = 2 ^ 53 := by rw [← Nat.pow_add]; congr 1; omega
  have hr : (((n.log2 : Int) - 54) - (-1074)).toNat = n.log2 + 1020 := by omega
  rw [hr, Nat.min_eq_left]
  omega
theorem nearest_int (neg : Bool) {n : Nat} (h0 : 0 < n) (h : 4 * n < 2 ^ 53) : double.nearest neg n 0 = double.nearest neg (4 * n) (-2) := by
  have h4 := nearest_val neg (n := 4 * n) (by omega) h 0
  rw [show ((4 * n) <<< 0) = 4 * n from rfl, show (-2 - ((0 : Nat) : Int)) = -2 by omega] at h4
  rw [h4]
  have hL : (4 * n).log2 = n.log2 + 2 := by
    have := log_shift h0 2
    rw [Nat.shiftLeft_eq] at this
    rw [Nat.mul_comm]
    exact this
  have hL2 : (4 * n).log2 < 53 := (Nat.log2_lt (by omega)).2 h
  rw [hL] at hL2 ⊢
  unfold Format.nearest
  rw [if_neg (by omega), least_is, binade_is, inf_is]
  have hlast : max ((0 : Int) + ((n.log2 : Nat) : Int) - ((double.fractionBits : Nat) : Int)) (-1074) = (n.log2 : Int) - 52 := by
    rw [show double.fractionBits = 52 from rfl]
    omega
  simp only [hlast]
  have hkept : Toward.even.cut neg (n <<< ((0 : Int) - ((n.log2 : Int) - 52)).toNat) (((n.log2 : Int) - 52) - 0).toNat = 4 * n * 2 ^ (52 - (n.log2 + 2)) := by
    refine cut_whole neg .even (.inl rfl) _ ?_
    rw [show (((n.log2 : Int) - 52) - 0).toNat = 0 by omega, Nat.shiftLeft_eq, show 4 * n = n * 2 ^ 2 by omega, Nat.mul_assoc, ← Nat.pow_add]
    show n * 2 ^ _ = n * 2 ^ _
    congr 2
    omega
  rw [hkept]
  have ht : 4 * n * 2 ^ (52 - (n.log2 + 2)) < 2 ^ 53 := by
    have h1 : n < 2 ^ (n.log2 + 1) := Nat.lt_log2_self
    calc 4 * n * 2 ^ (52 - (n.log2 + 2)) = n * 2 ^ (2 + (52 - (n.log2 + 2))) := by rw [Nat.pow_add, ← Nat.mul_assoc, Nat.mul_comm 4 n]
      _ < 2 ^ (n.log2 + 1) * 2 ^ (2 + (52 - (n.log2 + 2))) := Nat.mul_lt_mul_of_pos_right h1 (Nat.two_pow_pos _)
      _ = 2 ^ 53 := by rw [← Nat.pow_add]; congr 1; omega
  have hr : (((n.log2 : Int) - 52) - (-1074)).toNat = n.log2 + 2 + 1020 := by omega
  rw [hr, Nat.min_eq_left]
  omega
theorem zero_val (neg : Bool) (p : Int) : double.nearest neg 0 p = double.word neg 0 := by
  unfold Format.nearest
  rw [if_pos rfl]
/-- The digits may be told with more noughts. -/
theorem quart_val {v : Int} (h : v.natAbs < 2 ^ 53) (k : Nat) : double.nearest (decide (v < 0)) (v.natAbs <<< k) (-2 - (k : Int)) = quart v := by
  unfold quart
  by_cases h0 : v.natAbs = 0
  · rw [h0, Nat.zero_shiftLeft, zero_val, zero_val]
  · have h1 := nearest_val (decide (v < 0)) (n := v.natAbs) (by omega) h k
    have h2 := nearest_val (decide (v < 0)) (n := v.natAbs) (by omega) h 0
    rw [show (v.natAbs <<< 0) = v.natAbs from rfl, show (-2 - ((0 : Nat) : Int)) = -2 by omega] at h2
    rw [h1, h2]
theorem quart_int {n : Int} (h : 4 * n.natAbs < 2 ^ 53) : FloatKind.f64.nearest n = quart (4 * n) := by
  show double.nearest (decide (n < 0)) n.natAbs 0 = _
  unfold quart
  rw [show (decide (4 * n < 0)) = decide (n < 0) by rw [Bool.eq_iff_iff, decide_eq_true_eq, decide_eq_true_eq]; omega, show (4 * n).natAbs = 4 * n.natAbs by omega]
  by_cases h0 : n.natAbs = 0
  · rw [h0, zero_val, zero_val]
  · exact nearest_int _ (by omega) h
theorem read_word (neg : Bool) {L t : Nat} (hL : L ≤ 52) (h1 : 2 ^ 52 ≤ t) (h2 : t < 2 ^ 53) : double.read (double.word neg ((L + 1020) * 2 ^ 52 + t)) = .number neg t ((L : Int) - 54) := by
  obtain ⟨r, hr⟩ : ∃ r, (L + 1020) * 2 ^ 52 + t = r := ⟨_, rfl⟩
  have hlt : r < 2 ^ 63 := by omega
  rw [hr]
  have e1 : (double.word neg r / 2 ^ 63 % 2 == 1) = neg := by
    unfold Format.word
    rw [sign_is]
    cases neg
    · rw [if_neg (by decide), beq_eq_false_iff_ne]; omega
    · rw [if_pos rfl, beq_iff_eq]; omega
  have e2 : double.word neg r % 2 ^ 63 = r := by
    unfold Format.word
    rw [sign_is]
    cases neg
    · rw [if_neg (by decide)]; omega
    · rw [if_pos rfl]; omega
  unfold Format.read
  simp only [sign_is, e1, e2, binade_is, inf_is, least_is]
  have c1 : ¬ r < 4503599627370496 := by omega
  have c2 : r < 9218868437227405312 := by omega
  rw [if_neg c1, if_pos c2]
  obtain ⟨y, hy⟩ : ∃ y, t = 4503599627370496 + y := ⟨t - 4503599627370496, by omega⟩
  have hy2 : y < 4503599627370496 := by omega
  have hr2 : r = 4503599627370496 * (L + 1021) + y := by omega
  have e3 : r % 4503599627370496 = y := by rw [hr2, Nat.mul_add_mod, Nat.mod_eq_of_lt hy2]
  have e4 : r / 4503599627370496 = L + 1021 := by rw [hr2, Nat.mul_add_div (by decide), Nat.div_eq_of_lt hy2]
  have e5 : (-1074 : Int) + ((L + 1021 - 1 : Nat) : Int) = (L : Int) - 54 := by omega
  rw [e3, e4, ← hy, e5]
/-- What the bits are read as. -/
theorem read_quart {v : Int} (h : v.natAbs < 2 ^ 53) : ∃ k : Nat, double.read (quart v) = .number (decide (v < 0)) (v.natAbs <<< k) (-2 - (k : Int)) := by
  by_cases h0 : v.natAbs = 0
  · obtain rfl : v = 0 := by omega
    exact ⟨1072, by decide +kernel⟩
  · have h2 := nearest_val (decide (v < 0)) (n := v.natAbs) (by omega) h 0
    rw [show (v.natAbs <<< 0) = v.natAbs from rfl, show (-2 - ((0 : Nat) : Int)) = -2 by omega] at h2
    have hL : v.natAbs.log2 < 53 := (Nat.log2_lt (by omega)).2 h
    have hlo : 2 ^ v.natAbs.log2 ≤ v.natAbs := Nat.log2_self_le h0
    have hhi : v.natAbs < 2 ^ (v.natAbs.log2 + 1) := Nat.lt_log2_self
    unfold quart
    rw [h2]
    generalize decide (v < 0) = neg
    generalize v.natAbs = n at hL hlo hhi
    refine ⟨52 - n.log2, ?_⟩
    have hp := Nat.two_pow_pos (52 - n.log2)
    rw [read_word neg (L := n.log2) (by omega) ?_ ?_, Nat.shiftLeft_eq]
    · congr 1
      omega
    · calc 2 ^ 52 = 2 ^ n.log2 * 2 ^ (52 - n.log2) := by rw [← Nat.pow_add]; congr 1; omega
        _ ≤ n * 2 ^ (52 - n.log2) := Nat.mul_le_mul_right _ hlo
    · calc n * 2 ^ (52 - n.log2) < 2 ^ (n.log2 + 1) * 2 ^ (52 - n.log2) := Nat.mul_lt_mul_of_pos_right hhi hp
        _ = 2 ^ 53 := by rw [← Nat.pow_add]; congr 1; omega
theorem signed_is (v : Int) (k up : Nat) : signed (decide (v < 0)) (v.natAbs <<< k) up = v * ((2 ^ (k + up) : Nat) : Int) := by
  unfold signed
  rw [Nat.shiftLeft_eq, Nat.shiftLeft_eq, Nat.mul_assoc, ← Nat.pow_add]
  generalize (2 ^ (k + up) : Nat) = p
  by_cases h : v < 0
  · rw [if_pos (decide_eq_true h), Int.natCast_mul, ← Int.neg_mul]
    congr 1
    omega
  · rw [if_neg (by simpa using h), Int.natCast_mul]
    congr 1
    omega
/-- Sums. -/
theorem sum_quart {u v : Int} (hu : u.natAbs < 2 ^ 53) (hv : v.natAbs < 2 ^ 53) (h : (u + v).natAbs < 2 ^ 53) : double.add (quart u) (quart v) = some (quart (u + v)) := by
  obtain ⟨i, hi⟩ := read_quart hu
  obtain ⟨j, hj⟩ := read_quart hv
  unfold Format.add
  rw [hi, hj]
  unfold Datum.sum
  obtain ⟨m, hm⟩ : ∃ m, max i j = m := ⟨_, rfl⟩
  have hb : min (-2 - (i : Int)) (-2 - (j : Int)) = -2 - (m : Int) := by omega
  simp only [hb, signed_is]
  rw [show i + (-2 - (i : Int) - (-2 - (m : Int))).toNat = m by omega, show j + (-2 - (j : Int) - (-2 - (m : Int))).toNat = m by omega, ← Int.add_mul]
  have hp : 0 < (2 ^ m : Nat) := Nat.two_pow_pos m
  have hz : ((u + v) * ((2 ^ m : Nat) : Int) = 0) ↔ u + v = 0 := by
    rw [Int.mul_eq_zero]
    omega
  have hn : ((u + v) * ((2 ^ m : Nat) : Int) < 0) ↔ u + v < 0 := by
    constructor
    · intro h1
      rcases Int.lt_or_le (u + v) 0 with h2 | h2
      · exact h2
      · have := Int.mul_nonneg h2 (show (0 : Int) ≤ ((2 ^ m : Nat) : Int) by omega)
        omega
    · intro h1
      exact Int.mul_neg_of_neg_of_pos h1 (by omega)
  have ha : ((u + v) * ((2 ^ m : Nat) : Int)).natAbs = (u + v).natAbs <<< m := by rw [Int.natAbs_mul, Nat.shiftLeft_eq]; rfl
  have hs : (if (u + v) * ((2 ^ m : Nat) : Int) = 0 then (decide (u < 0) && decide (v < 0)) else decide ((u + v) * ((2 ^ m : Nat) : Int) < 0)) = decide (u + v < 0) := by
    by_cases h0 : u + v = 0
    · rw [if_pos (hz.2 h0), h0]
      by_cases h1 : u < 0
      · rw [decide_eq_false (show ¬ v < 0 by omega), Bool.and_false]; rfl
      · rw [decide_eq_false h1]; rfl
    · rw [if_neg (fun h => h0 (hz.1 h)), Bool.eq_iff_iff, decide_eq_true_eq, decide_eq_true_eq]
      exact hn
  rw [ha]
  simp only [hs, Option.map_some]
  congr 1
  exact quart_val h m
/-- How they stand. -/
theorem order_quart {u v : Int} (hu : u.natAbs < 2 ^ 53) (hv : v.natAbs < 2 ^ 53) : double.order (quart u) (quart v) = some (compare u v) := by
  obtain ⟨i, hi⟩ := read_quart hu
  obtain ⟨j, hj⟩ := read_quart hv
  unfold Format.order
  rw [hi, hj]
  unfold Datum.order
  obtain ⟨m, hm⟩ : ∃ m, max i j = m := ⟨_, rfl⟩
  have hb : min (-2 - (i : Int)) (-2 - (j : Int)) = -2 - (m : Int) := by omega
  simp only [hb, signed_is]
  rw [show i + (-2 - (i : Int) - (-2 - (m : Int))).toNat = m by omega, show j + (-2 - (j : Int) - (-2 - (m : Int))).toNat = m by omega]
  have hp : (0 : Int) < ((2 ^ m : Nat) : Int) := by have := Nat.two_pow_pos m; omega
  congr 1
  rcases Int.lt_trichotomy u v with h | h | h
  · rw [Int.compare_eq_lt.2 h, Int.compare_eq_lt.2 (Int.mul_lt_mul_of_pos_right h hp)]
  · subst h
    rw [Int.compare_eq_eq.2 rfl, Int.compare_eq_eq.2 rfl]
  · rw [Int.compare_eq_gt.2 h, Int.compare_eq_gt.2 (Int.mul_lt_mul_of_pos_right h hp)]
/-- The whole part of what is not less than 0. -/
theorem whole_quart {v : Int} (h0 : 0 ≤ v) (hv : v.natAbs < 2 ^ 53) : (double.read (quart v)).toInt .zero = some (v / 4) := by
  obtain ⟨k, hk⟩ := read_quart hv
  rw [hk, decide_eq_false (show ¬ v < 0 by omega)]
  obtain ⟨n, rfl⟩ : ∃ n : Nat, v = n := ⟨v.toNat, by omega⟩
  unfold Datum.toInt Datum.integral
  simp only [Int.natAbs_natCast]
  rw [show (-2 - (k : Int)).toNat = 0 by omega, show (-(-2 - (k : Int))).toNat = k + 2 by omega]
  have hc : Toward.zero.cut false (n <<< k <<< 0) (k + 2) = n / 4 := by
    show (n <<< k) / (1 <<< min (k + 2) ((n <<< k).log2 + 2)) + false.toNat = n / 4
    rw [Bool.toNat_false, Nat.add_zero]
    by_cases h0 : n = 0
    · subst h0
      simp
    · rw [log_shift (by omega) k, show min (k + 2) (n.log2 + k + 2) = k + 2 by omega, Nat.shiftLeft_eq, Nat.shiftLeft_eq, Nat.one_mul, Nat.pow_add, Nat.mul_comm n, Nat.mul_div_mul_left _ _ (Nat.two_pow_pos k)]
  rw [hc]
  simp [signed]
end Flt
end Go.Proofs.YtegldopmneoenaaDoor
