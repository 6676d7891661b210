/-
  Proved here: the document's own answers of layer 11. Conditions: strings of at most 1000 bytes, parts that are quarters below 2^45.
-/
import Derived.Test.YtegldopmneoenaaDoorFltPlain
import Derived.Test.YtegldopmneoenaaDoorSpotPlain
import Derived.Test.YtegldopmneoenaaDoorSpotWords
import Derived.Test.YtegldopmneoenaaDoorSpotFits
import Derived.WalkLawsBesides
namespace Go.Proofs.YtegldopmneoenaaDoor
open Go.RowKit
set_option maxHeartbeats 2000000 in
set_option maxRecDepth 100000 in
theorem part11_any (v : Int) (w : World) (hv : v.natAbs < 2 ^ 45) : Calls Tryd.prog 21 #[.float .f64 (Flt.quart v)] w fun e w' => e = .returned (.int .i64 (Spot.part v)) ∧ w = w' := by
  have o1 : FloatKind.f64.format.order (Flt.quart v) 4787326403894837248 = some (compare v (4 * 1099511627776)) := by
    rw [← Spot.big_is]
    exact Flt.order_quart (by omega) (by omega)
  have o2 : FloatKind.f64.format.order (Flt.quart v) 0 = some (compare v 0) := by
    rw [← Spot.zero_is]
    exact Flt.order_quart (by omega) (by omega)
  unfold Spot.part
  by_cases h1 : 4 * 1099511627776 ≤ v
  · rw [if_pos h1]
    rcases Int.lt_or_eq_of_le h1 with h | h
    · rw [Int.compare_eq_gt.2 h] at o1
      generalize Flt.quart v = x at o1 o2 ⊢
      clear hv h1 h o2
      go_enter Tryd.func21, Tryd.ntmps21
      go_wp2
      go_ret
      exact ⟨rfl, rfl⟩
    · rw [← h, Int.compare_eq_eq.2 rfl] at o1
      rw [← h] at o2 ⊢
      generalize Flt.quart (4 * 1099511627776) = x at o1 o2 ⊢
      clear hv h1 h o2
      go_enter Tryd.func21, Tryd.ntmps21
      go_wp2
      go_ret
      exact ⟨rfl, rfl⟩
  · rw [if_neg h1]
    rw [Int.compare_eq_lt.2 (by omega)] at o1
    by_cases h2 : 0 < v
    · rw [if_pos h2]
      rw [Int.compare_eq_gt.2 h2] at o2
      have ho := Flt.whole_quart (v := v) (by omega) (by omega)
      have hcv : floatToIntVal .f64 (Flt.quart v) .i64 = some (((v / 4).toNat : Nat) : Int) := by
        have hd : FloatKind.f64.decode (Flt.quart v) = Ieee.double.read (Flt.quart v) := rfl
        unfold floatToIntVal
        rw [hd, ho]
        have hm : IntKind.i64.min ≤ v / 4 ∧ v / 4 ≤ IntKind.i64.max := by
          rw [show IntKind.i64.min = -9223372036854775808 from rfl, show IntKind.i64.max = 9223372036854775807 from rfl]
          omega
        simp only
        rw [if_pos hm]
        congr 1
        omega
      have hrun := fun W : World => run_convert_float_int (P := Tryd.prog) W 24 3 .f64 .i64 (Flt.quart v) _ rfl Tryd.underlying3 hcv
      generalize (v / 4).toNat = y at hrun ⊢
      generalize Flt.quart v = x at o1 o2 hrun ⊢
      clear hv h1 h2 ho hcv
      go_enter Tryd.func21, Tryd.ntmps21
      go_wp2
      go_ret
      exact ⟨rfl, rfl⟩
    · rw [if_neg h2]
      have o2' : compare v 0 = .lt ∨ compare v 0 = .eq := by
        rcases Int.lt_or_eq_of_le (Int.not_lt.1 h2) with h | h
        · exact .inl (Int.compare_eq_lt.2 h)
        · exact .inr (Int.compare_eq_eq.2 h)
      generalize compare v 0 = q at o2 o2'
      generalize Flt.quart v = x at o1 o2 ⊢
      clear hv h1 h2
      rcases o2' with rfl | rfl
      all_goals
        go_enter Tryd.func21, Tryd.ntmps21
        go_wp2
        go_ret
        exact ⟨rfl, rfl⟩
namespace Spot
theorem drop_at (s : ByteArray) (i : Nat) (h : i < s.size) : s.data.toList.drop i = s[i] :: s.data.toList.drop (i + 1) := by
  rw [List.drop_eq_getElem_cons (by simpa using h)]
  rfl
/-- One step of the walk over a text. -/
theorem steps_last {s : ByteArray} {i : Nat} (h : i < s.size) (h2 : ¬ i + 1 < s.size) (l c : Nat) : steps (s.data.toList.drop i) l c = steps (s.data.toList.drop (i + 1)) l (c + 1) := by
  rw [drop_at s i h, List.drop_of_length_le (by simp; omega), steps_one]
  rfl
theorem steps_pair {s : ByteArray} {i : Nat} (h2 : i + 1 < s.size) (l c : Nat) : steps (s.data.toList.drop i) l c = if s[i] = 13 ∧ s[i + 1] = 10 then steps (s.data.toList.drop (i + 2)) (l + 1) 0 else steps (s.data.toList.drop (i + 1)) l (c + 1) := by
  rw [drop_at s i (by omega), drop_at s (i + 1) h2, steps_two]
end Spot
set_option maxHeartbeats 4000000 in
set_option maxRecDepth 100000 in
theorem step11_any (u v : Int) (s : ByteArray) (w : World) (hu : u.natAbs < 2 ^ 45) (hv : v.natAbs < 2 ^ 45) (hs : s.size ≤ 1000) :
    Calls Tryd.prog 12 #[.complex .f64 (Flt.quart u) (Flt.quart v), .string s] w fun e w' => e = .returned (Spot.cx (Spot.steps s.data.toList (Spot.part u) (Spot.part v))) ∧ w = w' := by
  have K1 := Lib.hid (part11_any u w hu)
  have K2 := Lib.hid (part11_any v w hv)
  have b1 := Spot.part_lt (v := u)
  have b2 := Spot.part_lt (v := v)
  generalize Flt.quart u = x at K1 ⊢
  generalize Flt.quart v = y at K2 ⊢
  generalize Spot.part u = l0 at K1 b1 ⊢
  generalize Spot.part v = c0 at K2 b2 ⊢
  obtain ⟨P, hP⟩ : ∃ P, P = Spot.steps s.data.toList l0 c0 := ⟨_, rfl⟩
  rw [← hP]
  have HP := Lib.hid hP
  clear hu hv hP
  go_enter Tryd.func12, Tryd.ntmps12
  go_wp2_with fail
  refine K1.out.mono ?_
  rintro e w1 ⟨rfl, rfl⟩
  go_wp2_with fail
  refine K2.out.mono ?_
  rintro e w1 ⟨rfl, rfl⟩
  go_wp2
  go_loopg [5, 6, 7] (s.size + 1) (fun gk s5 s6 s7 wr => ∃ (i l c : Nat), s5 = .int .i64 l ∧ s6 = .int .i64 c ∧ s7 = .int .i64 i ∧ i ≤ s.size ∧ l ≤ 1099511627776 + i ∧ c ≤ 1099511627776 + i ∧ s.size - i < gk ∧ w = wr ∧ Hid (P = Spot.steps (s.data.toList.drop i) l c))
  case atStart => exact ⟨0, l0, c0, rfl, rfl, rfl, Nat.zero_le _, by omega, by omega, by omega, rfl, HP.out⟩
  case round =>
    obtain ⟨i, l, c, rfl, rfl, rfl, hi, hl, hc, hg, rfl, I⟩ := hrel
    by_cases hlt : i < s.size
    · have hiz : (i : Int) < (s.size : Int) := by omega
      by_cases h13 : s[i].toNat = 13
      · have e13 : ((s[i].toNat : Int) == 13) = true := by rw [beq_iff_eq]; omega
        by_cases h2 : i + 1 < s.size
        · have h2z : (i : Int) + 1 < (s.size : Int) := by omega
          by_cases h10 : s[i + 1].toNat = 10
          · have e10 : ((s[i + 1].toNat : Int) == 10) = true := by rw [beq_iff_eq]; omega
            have I2 := Lib.hid (I.out.trans ((Spot.steps_pair h2 l c).trans (if_pos ⟨UInt8.toNat_inj.1 h13, UInt8.toNat_inj.1 h10⟩)))
            clear h13 h10
            go_wp2
            go_roundg (s.size - i)
            case measure => omega
            case rel => exact ⟨i + 2, l + 1, 0, by go_num, rfl, by go_num, by omega, by omega, by omega, by omega, rfl, I2.out⟩
          · have e10 : ((s[i + 1].toNat : Int) == 10) = false := by rw [beq_eq_false_iff_ne]; omega
            have I2 := Lib.hid (I.out.trans ((Spot.steps_pair h2 l c).trans (if_neg (fun h => h10 (congrArg UInt8.toNat h.2)))))
            clear h13 h10
            go_wp2
            go_roundg (s.size - i)
            case measure => omega
            case rel => exact ⟨i + 1, l, c + 1, rfl, by go_num, by go_num, by omega, by omega, by omega, by omega, rfl, I2.out⟩
        · have h2z : ¬ (i : Int) + 1 < (s.size : Int) := by omega
          have I2 := Lib.hid (I.out.trans (Spot.steps_last hlt h2 l c))
          clear h13
          go_wp2
          go_roundg (s.size - i)
          case measure => omega
          case rel => exact ⟨i + 1, l, c + 1, rfl, by go_num, by go_num, by omega, by omega, by omega, by omega, rfl, I2.out⟩
      · have e13 : ((s[i].toNat : Int) == 13) = false := by rw [beq_eq_false_iff_ne]; omega
        have I2 : Hid (P = Spot.steps (s.data.toList.drop (i + 1)) l (c + 1)) := Lib.hid (by
          by_cases h2 : i + 1 < s.size
          · exact I.out.trans ((Spot.steps_pair h2 l c).trans (if_neg (fun h => h13 (congrArg UInt8.toNat h.1))))
          · exact I.out.trans (Spot.steps_last hlt h2 l c))
        clear h13
        go_wp2
        go_roundg (s.size - i)
        case measure => omega
        case rel => exact ⟨i + 1, l, c + 1, rfl, by go_num, by go_num, by omega, by omega, by omega, by omega, rfl, I2.out⟩
    · obtain rfl : i = s.size := by omega
      have hiz : ¬ (s.size : Int) < (s.size : Int) := by omega
      have R : Hid (P = (l, c)) := Lib.hid (by rw [I.out, List.drop_of_length_le (by simp)]; rfl)
      have q1 : floatOfInt FloatKind.f64 (l : Int) = Flt.quart (4 * (l : Int)) := Flt.quart_int (by omega)
      have q2 : floatOfInt FloatKind.f64 (c : Int) = Flt.quart (4 * (c : Int)) := Flt.quart_int (by omega)
      go_wp2
      go_ret
      exact ⟨by rw [R.out]; rfl, rfl⟩
namespace Spot
theorem take_of (s : ByteArray) (k : Nat) : (s.extract 0 k).data.toList = s.data.toList.take k := by
  rw [ByteArray.data_extract, Array.toList_extract, List.extract_eq_take_drop, List.drop_zero, Nat.sub_zero]
end Spot
set_option maxHeartbeats 4000000 in
set_option maxRecDepth 100000 in
theorem of11_any (s : ByteArray) (k : Int) (w : World) (hs : s.size ≤ 1000) :
    Calls Tryd.prog 14 #[.string s, .int .i64 k] w fun e w' => e = .returned (Spot.cx (Spot.spot s.data.toList (Spot.cut s.data.toList k))) ∧ w = w' := by
  have hsl : s.data.toList.length = s.size := by simp
  have K : ∀ j, j ≤ s.size → Calls Tryd.prog 12 #[.complex .f64 0 0, .string (s.extract 0 j)] w fun e w' => e = .returned (Spot.cx (Spot.spot s.data.toList j)) ∧ w = w' := fun j hj => by
    have h := step11_any 0 0 (s.extract 0 j) w (by decide) (by decide) (by simp; omega)
    rw [Spot.zero_is, Spot.part_zero, Spot.take_of] at h
    exact h
  by_cases h1 : k ≤ 0
  · have hc : Spot.cut s.data.toList k = 0 := by
      unfold Spot.cut
      by_cases h : k < 0
      · rw [if_pos h]
      · rw [if_neg h, if_neg (by omega)]; omega
    rw [hc]
    · have K := K 0 (Nat.zero_le _)
      rw [show s.extract 0 0 = ByteArray.empty by simp] at K
      have K := Lib.hid K
      generalize Spot.cx (Spot.spot s.data.toList 0) = V at K ⊢
      have h2 : k ≤ (s.size : Int) := by omega
      have m1 : min k (s.size : Int) = k := by omega
      have m2 : max 0 k = 0 := by omega
      clear hsl hc
      go_enter Tryd.func14, Tryd.ntmps14
      go_wp2_with fail
      all_goals
        with_reducible refine K.out.mono ?_
        rintro e w1 ⟨rfl, rfl⟩
        go_wp2
        go_ret
        exact ⟨rfl, rfl⟩
  · by_cases h0 : s.size = 0
    · have hc : Spot.cut s.data.toList k = 0 := by
        have := Spot.cut_le s.data.toList k
        omega
      rw [hc]
      have K := K 0 (Nat.zero_le _)
      obtain rfl : s = ⟨#[]⟩ := ByteArray.ext (Array.eq_empty_of_size_eq_zero h0)
      rw [show (⟨#[]⟩ : ByteArray).extract 0 0 = ByteArray.empty by simp] at K
      have K := Lib.hid K
      generalize Spot.cx (Spot.spot (⟨#[]⟩ : ByteArray).data.toList 0) = V at K ⊢
      have m1 : min k 0 = 0 := by omega
      have m2 : (0 : Int) < k := by omega
      clear hsl hc h0 h1
      go_enter Tryd.func14, Tryd.ntmps14
      go_wp2_with fail
      all_goals
        with_reducible refine K.out.mono ?_
        rintro e w1 ⟨rfl, rfl⟩
        go_wp2
        go_ret
        exact ⟨rfl, rfl⟩
    · have hz : (0 : Int) < (s.size : Int) := by omega
      have hz1 : 0 < s.size := by omega
      by_cases h3 : (s.size : Int) < k
      · have hc : Spot.cut s.data.toList k = s.size := by
          unfold Spot.cut
          rw [if_neg (by omega), hsl, if_pos h3]
        rw [hc]
        have K := K s.size (Nat.le_refl _)
        rw [show s.extract 0 s.size = s by simp] at K
        have K := Lib.hid K
        generalize Spot.cx (Spot.spot s.data.toList s.size) = V at K ⊢
        have m1 : min k (s.size : Int) = (s.size : Int) := by omega
        have m2 : max 0 (s.size : Int) = (s.size : Int) := by omega
        clear hsl hc h0 h1
        go_enter Tryd.func14, Tryd.ntmps14
        go_wp2_with fail
        all_goals
          with_reducible refine K.out.mono ?_
          rintro e w1 ⟨rfl, rfl⟩
          go_wp2
          go_ret
          exact ⟨rfl, rfl⟩
      · obtain ⟨j, rfl⟩ : ∃ j : Nat, k = j := ⟨k.toNat, by omega⟩
        have hc : Spot.cut s.data.toList (j : Int) = j := Spot.cut_nat (by omega)
        rw [hc]
        have K := Lib.hid (K j (by omega))
        generalize Spot.cx (Spot.spot s.data.toList j) = V at K ⊢
        have m1 : min (j : Int) (s.size : Int) = (j : Int) := by omega
        have m2 : max 0 (j : Int) = (j : Int) := by omega
        have hj : (j : Int) ≤ (s.size : Int) := by omega
        have hj0 : (0 : Int) < (j : Int) := by omega
        have hjn : j ≤ s.size := by omega
        have hjn2 : 0 < j := by omega
        clear hsl hc h0 h1 h3
        go_enter Tryd.func14, Tryd.ntmps14
        go_wp2_with fail
        all_goals
          with_reducible refine K.out.mono ?_
          rintro e w1 ⟨rfl, rfl⟩
          go_wp2
          go_ret
          exact ⟨rfl, rfl⟩
namespace Spot
theorem cnt_last {s : ByteArray} {i : Nat} (h2 : ¬ i + 1 < s.size) : cnt (s.data.toList.drop i) = 0 := by
  by_cases h : i < s.size
  · rw [drop_at s i h, List.drop_of_length_le (by simp; omega)]
    rfl
  · rw [List.drop_of_length_le (by simp; omega)]
    rfl
theorem cnt_pair {s : ByteArray} {i : Nat} (h2 : i + 1 < s.size) : cnt (s.data.toList.drop i) = (if s[i] = 13 ∧ s[i + 1] = 10 then 1 else 0) + cnt (s.data.toList.drop (i + 1)) := by
  rw [drop_at s i (by omega), drop_at s (i + 1) h2, cnt_two]
end Spot
set_option maxHeartbeats 4000000 in
set_option maxRecDepth 100000 in
theorem lines11_any (s : ByteArray) (w : World) (hs : s.size ≤ 1000) :
    Calls Tryd.prog 16 #[.string s] w fun e w' => e = .returned (.int .i64 (Spot.cnt s.data.toList : Nat)) ∧ w = w' := by
  obtain ⟨P, hP⟩ : ∃ P, P = Spot.cnt s.data.toList := ⟨_, rfl⟩
  rw [← hP]
  have HP := Lib.hid hP
  clear hP
  go_enter Tryd.func16, Tryd.ntmps16
  go_wp2
  go_loopg [3, 4] (s.size + 1) (fun gk s3 s4 wr => ∃ (i n : Nat), s3 = .int .i64 n ∧ s4 = .int .i64 i ∧ i ≤ s.size ∧ n ≤ i ∧ s.size - i < gk ∧ w = wr ∧ Hid (P = n + Spot.cnt (s.data.toList.drop i)))
  case atStart => exact ⟨0, 0, rfl, rfl, Nat.zero_le _, Nat.le_refl _, by omega, rfl, (by rw [HP.out, List.drop_zero, Nat.zero_add] : P = 0 + Spot.cnt (s.data.toList.drop 0))⟩
  case round =>
    obtain ⟨i, n, rfl, rfl, hi, hn, hg, rfl, I⟩ := hrel
    by_cases h2 : i + 1 < s.size
    · have h2z : (i : Int) + 1 < (s.size : Int) := by omega
      have hst := I.out.trans (congrArg (n + ·) (Spot.cnt_pair h2))
      by_cases h13 : s[i].toNat = 13
      · have e13 : ((s[i].toNat : Int) == 13) = true := by rw [beq_iff_eq]; omega
        by_cases h10 : s[i + 1].toNat = 10
        · have e10 : ((s[i + 1].toNat : Int) == 10) = true := by rw [beq_iff_eq]; omega
          have I2 : Hid (P = (n + 1) + Spot.cnt (s.data.toList.drop (i + 1))) := Lib.hid (by
            rw [hst]
            show n + _ = _
            rw [if_pos ⟨UInt8.toNat_inj.1 h13, UInt8.toNat_inj.1 h10⟩]
            omega)
          clear h13 h10 hst
          go_wp2
          go_roundg (s.size - i)
          case measure => omega
          case rel => exact ⟨i + 1, n + 1, by go_num, by go_num, by omega, by omega, by omega, rfl, I2.out⟩
        · have e10 : ((s[i + 1].toNat : Int) == 10) = false := by rw [beq_eq_false_iff_ne]; omega
          have I2 : Hid (P = n + Spot.cnt (s.data.toList.drop (i + 1))) := Lib.hid (by
            rw [hst]
            show n + _ = _
            rw [if_neg (fun h => h10 (congrArg UInt8.toNat h.2)), Nat.zero_add])
          clear h13 h10 hst
          go_wp2
          go_roundg (s.size - i)
          case measure => omega
          case rel => exact ⟨i + 1, n, rfl, by go_num, by omega, by omega, by omega, rfl, I2.out⟩
      · have e13 : ((s[i].toNat : Int) == 13) = false := by rw [beq_eq_false_iff_ne]; omega
        have I2 : Hid (P = n + Spot.cnt (s.data.toList.drop (i + 1))) := Lib.hid (by
          rw [hst]
          show n + _ = _
          rw [if_neg (fun h => h13 (congrArg UInt8.toNat h.1)), Nat.zero_add])
        clear h13 hst
        go_wp2
        go_roundg (s.size - i)
        case measure => omega
        case rel => exact ⟨i + 1, n, rfl, by go_num, by omega, by omega, by omega, rfl, I2.out⟩
    · have h2z : ¬ (i : Int) + 1 < (s.size : Int) := by omega
      have R := Lib.hid (show P = n by rw [I.out, Spot.cnt_last h2]; rfl)
      go_wp2
      go_ret
      exact ⟨by rw [R.out]; rfl, rfl⟩
namespace Spot
/-- Whether two spots are one. -/
theorem same_is (a b : Nat) (u v : Int) (ha : a ≤ 1000) (hb : b ≤ 1000) (hu : u.natAbs < 2 ^ 45) (hv : v.natAbs < 2 ^ 45) :
    (FloatKind.f64.format.order (Flt.quart (4 * (a : Int))) (Flt.quart u) == some .eq) = decide (4 * (a : Int) = u) ∧ (FloatKind.f64.format.order (Flt.quart (4 * (b : Int))) (Flt.quart v) == some .eq) = decide (4 * (b : Int) = v) := by
  have h : ∀ x y : Int, (some (compare x y) == some Ordering.eq) = decide (x = y) := fun x y => by
    rw [Bool.eq_iff_iff, decide_eq_true_eq, beq_iff_eq]
    constructor
    · intro e
      injection e with e
      exact Int.compare_eq_eq.1 e
    · intro e
      rw [Int.compare_eq_eq.2 e]
  have o1 : FloatKind.f64.format.order (Flt.quart (4 * (a : Int))) (Flt.quart u) = some (compare (4 * (a : Int)) u) := Flt.order_quart (by omega) (by omega)
  have o2 : FloatKind.f64.format.order (Flt.quart (4 * (b : Int))) (Flt.quart v) = some (compare (4 * (b : Int)) v) := Flt.order_quart (by omega) (by omega)
  rw [o1, o2, h, h]
  exact ⟨rfl, rfl⟩
end Spot
set_option maxHeartbeats 4000000 in
set_option maxRecDepth 100000 in
theorem place11_any (s : ByteArray) (u v : Int) (w : World) (hs : s.size ≤ 1000) (hu : u.natAbs < 2 ^ 45) (hv : v.natAbs < 2 ^ 45) :
    Calls Tryd.prog 10 #[.string s, .complex .f64 (Flt.quart u) (Flt.quart v)] w fun e w' => e = .returned (Spot.placeV (Spot.place s.data.toList u v)) ∧ w = w' := by
  have hsl : s.data.toList.length = s.size := by simp
  obtain ⟨P, hP⟩ : ∃ P, P = Spot.placeV (Spot.place s.data.toList u v) := ⟨_, rfl⟩
  rw [← hP]
  have HP := Lib.hid hP
  have HSL := Lib.hid hsl
  have HU := Lib.hid hu
  have HV := Lib.hid hv
  have KO := Lib.hid (fun k => of11_any s k w hs)
  obtain ⟨x, hx⟩ : ∃ x, Flt.quart u = x := ⟨_, rfl⟩
  obtain ⟨y, hy⟩ : ∃ y, Flt.quart v = y := ⟨_, rfl⟩
  rw [hx, hy]
  have HX := Lib.hid hx
  have HY := Lib.hid hy
  clear hP hsl hu hv hx hy
  go_enter Tryd.func10, Tryd.ntmps10
  go_wp2
  go_loopg [6] (s.size + 2) (fun gk s6 wr => ∃ k : Nat, s6 = .int .i64 k ∧ k ≤ s.size + 1 ∧ s.size + 1 - k < gk ∧ w = wr ∧ Hid (∀ j, j < k → Spot.isAt s.data.toList u v j = false))
  case atStart => exact ⟨0, rfl, Nat.zero_le _, by omega, rfl, fun j hj => absurd hj (Nat.not_lt_zero _)⟩
  case round =>
    obtain ⟨k, rfl, hk, hg, rfl, I⟩ := hrel
    by_cases hlt : k ≤ s.size
    · have hkz : (k : Int) ≤ (s.size : Int) := by omega
      have K := KO.out (k : Int)
      rw [Spot.cut_nat (by rw [HSL.out]; exact hlt)] at K
      have hbd := Spot.spot_bd s.data.toList k
      rw [HSL.out] at hbd
      have hat : Spot.isAt s.data.toList u v k = (decide (4 * ((Spot.spot s.data.toList k).1 : Int) = u) && decide (4 * ((Spot.spot s.data.toList k).2 : Int) = v)) := rfl
      have hsm := Spot.same_is (Spot.spot s.data.toList k).1 (Spot.spot s.data.toList k).2 u v (by omega) (by omega) HU.out HV.out
      rw [← hsm.1, ← hsm.2, HX.out, HY.out] at hat
      unfold Spot.cx at K
      generalize Flt.quart (4 * ((Spot.spot s.data.toList k).1 : Int)) = a at K hat
      generalize Flt.quart (4 * ((Spot.spot s.data.toList k).2 : Int)) = b at K hat
      have K := Lib.hid K
      clear hbd hsm
      cases q1 : (FloatKind.f64.format.order a x == some Ordering.eq) <;> cases q2 : (FloatKind.f64.format.order b y == some Ordering.eq) <;> rw [q1, q2] at hat
      case true.true =>
        have R : Hid (P = .tuple #[.int .i64 (k : Int), .bool true]) := Lib.hid (by rw [HP.out, Spot.place_hit (by rw [HSL.out]; exact hlt) I.out hat]; rfl)
        clear hat
        go_wp2_with fail
        with_reducible refine K.out.mono ?_
        rintro e w1 ⟨rfl, rfl⟩
        go_wp2
        go_ret2
        exact ⟨by rw [R.out]; rfl, rfl⟩
      all_goals
        have I2 : Hid (∀ j, j < k + 1 → Spot.isAt s.data.toList u v j = false) := Lib.hid (fun j hj => by
          by_cases e : j = k
          · subst e; exact hat
          · exact I.out j (by omega))
        clear hat
        go_wp2_with fail
        with_reducible refine K.out.mono ?_
        rintro e w1 ⟨rfl, rfl⟩
        go_wp2
        go_roundg (s.size + 1 - k)
        case measure => omega
        case rel => exact ⟨k + 1, by go_num, by omega, by omega, rfl, I2.out⟩
    · have hkz : ¬ (k : Int) ≤ (s.size : Int) := by omega
      have R : Hid (P = .tuple #[.int .i64 0, .bool false]) := Lib.hid (by rw [HP.out, Spot.place_none (fun j hj => I.out j (by have := HSL.out; omega))]; rfl)
      go_wp2
      go_ret2
      exact ⟨by rw [R.out]; rfl, rfl⟩
theorem cat_lists (a b : List UInt8) : (⟨a.toArray⟩ : ByteArray) ++ (⟨b.toArray⟩ : ByteArray) = ⟨(a ++ b).toArray⟩ := by
  apply ByteArray.ext
  rw [ByteArray.data_append]
  simp
set_option maxHeartbeats 4000000 in
set_option maxRecDepth 100000 in
theorem number11_any (n : Nat) : ∀ w : World, n < 10 ^ 14 → Calls Tryd.prog 24 #[.int .i64 (n : Int)] w fun e w' => e = .returned (.string ⟨(Spot.num n).toArray⟩) ∧ w = w' := by
  induction n using Nat.strongRecOn with
  | ind n ih =>
    intro w hn
    by_cases h : n < 10
    · rw [Spot.num_small h]
      clear ih hn
      have hc : n = 0 ∨ n = 1 ∨ n = 2 ∨ n = 3 ∨ n = 4 ∨ n = 5 ∨ n = 6 ∨ n = 7 ∨ n = 8 ∨ n = 9 := by omega
      clear h
      rcases hc with rfl | rfl | rfl | rfl | rfl | rfl | rfl | rfl | rfl | rfl
      all_goals
        go_enter Tryd.func24, Tryd.ntmps24
        go_wp2
        go_ret
        exact ⟨rfl, rfl⟩
    · rw [Spot.num_great h]
      have K1 := ih (n / 10) (by omega) w (by omega)
      have K2 := ih (n % 10) (by omega) w (by omega)
      have l1 := Spot.num_len (n / 10) 13 (by omega)
      have l2 := Spot.num_len (n % 10) 13 (by omega)
      have h10 : ¬ (n : Int) < 10 := by omega
      have hq : (n : Int).tdiv 10 = ((n / 10 : Nat) : Int) := rfl
      have hr : (n : Int).tmod 10 = ((n % 10 : Nat) : Int) := rfl
      generalize Spot.num (n / 10) = A at K1 l1 ⊢
      generalize Spot.num (n % 10) = B at K2 l2 ⊢
      have hql : n / 10 < 10 ^ 14 := by omega
      have hrl : n % 10 < 10 := Nat.mod_lt _ (by decide)
      generalize n / 10 = q at K1 hq hql
      generalize n % 10 = r at K2 hr hrl
      have hw1 : wrap64 (q : Int) = q := by unfold wrap64; omega
      have K1 := Lib.hid K1
      have K2 := Lib.hid K2
      clear ih h
      go_enter Tryd.func24, Tryd.ntmps24
      go_wp2_with fail
      with_reducible refine K1.out.mono ?_
      rintro e w1 ⟨rfl, rfl⟩
      go_wp2_with fail
      with_reducible refine K2.out.mono ?_
      rintro e w1 ⟨rfl, rfl⟩
      go_wp2
      go_ret
      exact ⟨by rw [← cat_lists]; rfl, rfl⟩
set_option maxHeartbeats 4000000 in
set_option maxRecDepth 100000 in
theorem text11_any (u v : Int) (w : World) (hu : u.natAbs < 2 ^ 45) (hv : v.natAbs < 2 ^ 45) :
    Calls Tryd.prog 18 #[.complex .f64 (Flt.quart u) (Flt.quart v)] w fun e w' => e = .returned (.string ⟨(Spot.text (Spot.part u) (Spot.part v)).toArray⟩) ∧ w = w' := by
  have K1 := Lib.hid (part11_any u w hu)
  have K2 := Lib.hid (part11_any v w hv)
  have b1 := Spot.part_lt (v := u)
  have b2 := Spot.part_lt (v := v)
  generalize Flt.quart u = x at K1 ⊢
  generalize Flt.quart v = y at K2 ⊢
  generalize Spot.part u = l at K1 b1 ⊢
  generalize Spot.part v = c at K2 b2 ⊢
  have N1 := number11_any (l + 1) w (by omega)
  have N2 := number11_any (c + 1) w (by omega)
  rw [show ((l + 1 : Nat) : Int) = (l : Int) + 1 by omega] at N1
  rw [show ((c + 1 : Nat) : Int) = (c : Int) + 1 by omega] at N2
  have l1 := Spot.num_len (l + 1) 13 (by omega)
  have l2 := Spot.num_len (c + 1) 13 (by omega)
  unfold Spot.text
  generalize Spot.num (l + 1) = A at N1 l1 ⊢
  generalize Spot.num (c + 1) = B at N2 l2 ⊢
  have N1 := Lib.hid N1
  have N2 := Lib.hid N2
  clear hu hv
  go_enter Tryd.func18, Tryd.ntmps18
  go_wp2_with fail
  with_reducible refine K1.out.mono ?_
  rintro e w1 ⟨rfl, rfl⟩
  go_wp2_with fail
  with_reducible refine N1.out.mono ?_
  rintro e w1 ⟨rfl, rfl⟩
  go_wp2_with fail
  with_reducible refine K2.out.mono ?_
  rintro e w1 ⟨rfl, rfl⟩
  go_wp2_with fail
  with_reducible refine N2.out.mono ?_
  rintro e w1 ⟨rfl, rfl⟩
  go_wp2
  go_ret
  exact ⟨by rw [← cat_lists, ← cat_lists]; rfl, rfl⟩
end Go.Proofs.YtegldopmneoenaaDoor
