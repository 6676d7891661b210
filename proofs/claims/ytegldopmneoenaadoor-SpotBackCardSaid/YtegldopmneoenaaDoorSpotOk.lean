/-
  Proved here: the program's five functions of layer 11. Conditions: strings of at most 1000 bytes, parts that are quarters below 2^45.
-/
import Derived.Test.YtegldopmneoenaaDoorSpotFits
import Derived.Test.YtegldopmneoenaaDoorSpotMore
import Derived.Test.YtegldopmneoenaaDoorSpotLays
import Derived.Test.YtegldopmneoenaaDoorSpotRef
import Derived.Shelf.Strings.Count
import Derived.Shelf.Strings.Prefix
import Derived.Shelf.Strconv.Itoa3
namespace Go.Proofs.YtegldopmneoenaaDoor
open Go.RowKit
/-- math.Floor. -/
theorem floor_any (v : Int) (w : World) (h0 : 0 ≤ v) (hv : v.natAbs < 2 ^ 50) : Calls Tryd.prog 32 #[.float .f64 (Flt.quart v)] w fun e w' => e = .returned (.float .f64 (Flt.quart (4 * (v / 4)))) ∧ w = w' := by
  obtain ⟨k, hk⟩ := Flt.read_quart (v := v) (by omega)
  have hf := Flt.floor_quart h0 hv
  generalize Flt.quart (4 * (v / 4)) = y at hf ⊢
  generalize Flt.quart v = x at hk hf ⊢
  have hrun : ∀ W, (Extern.MathFloor.toIntegral "math.archFloor" .down #[.float .f64 x]).run Tryd.prog W = .ok (.float .f64 y) W := fun W => by
    change Sem.run Tryd.prog (Extern.MathFloor.toIntegral.match_1 (fun _ => Sem Value) (Ieee.double.read x) _ _) W = _
    rw [hk] at hf ⊢
    rw [← hf]
    rfl
  clear hk hf h0 hv
  go_enter Tryd.func32, Tryd.ntmps32
  go_wp2
  rw [run_callFunc_extern Tryd.func35 (by kernel_rfl) (by kernel_rfl) (by kernel_rfl) (e := Extern.MathFloor.toIntegral "math.archFloor" .down) (by kernel_rfl), hrun]
  simp only [Result.andThen]
  rw [Oper.upon_value]
  go_wp2
  go_ret
  exact ⟨rfl, rfl⟩
set_option maxHeartbeats 2000000 in
set_option maxRecDepth 100000 in
theorem number_any (v : Int) (w : World) (hv : v.natAbs < 2 ^ 45) : Calls Tryd.prog 26 #[.float .f64 (Flt.quart v)] w fun e w' => e = .returned (.float .f64 (Flt.quart (4 * (Spot.part v : Int)))) ∧ w = w' := by
  have o1 : FloatKind.f64.format.order (Flt.quart v) 4787326403894837248 = some (compare v (4 * 1099511627776)) := by
    rw [← Spot.big_is]
    exact Flt.order_quart (by omega) (by omega)
  have o2 : FloatKind.f64.format.order (Flt.quart v) 0 = some (compare v 0) := by
    rw [← Spot.zero_is]
    exact Flt.order_quart (by omega) (by omega)
  unfold Spot.part
  by_cases h1 : 4 * 1099511627776 ≤ v
  · rw [if_pos h1]
    have o1' : compare v (4 * 1099511627776) = .gt ∨ compare v (4 * 1099511627776) = .eq := by
      rcases Int.lt_or_eq_of_le h1 with h | h
      · exact .inl (Int.compare_eq_gt.2 h)
      · exact .inr (Int.compare_eq_eq.2 h.symm)
    rw [show 4 * ((1099511627776 : Nat) : Int) = 4 * 1099511627776 from rfl, Spot.big_is]
    generalize compare v (4 * 1099511627776) = q at o1 o1'
    generalize Flt.quart v = x at o1 ⊢
    clear hv h1 o2
    rcases o1' with rfl | rfl
    all_goals
      go_enter Tryd.func26, Tryd.ntmps26
      go_wp2
      go_ret
      exact ⟨rfl, rfl⟩
  · rw [if_neg h1]
    rw [Int.compare_eq_lt.2 (by omega)] at o1
    by_cases h2 : 0 < v
    · rw [if_pos h2]
      rw [Int.compare_eq_gt.2 h2] at o2
      have K := Lib.hid (floor_any v w (by omega) (by omega))
      rw [show 4 * (((v / 4).toNat : Nat) : Int) = 4 * (v / 4) by omega]
      generalize Flt.quart (4 * (v / 4)) = y at K ⊢
      generalize Flt.quart v = x at o1 o2 K ⊢
      clear hv h1 h2
      go_enter Tryd.func26, Tryd.ntmps26
      go_wp2_with fail
      with_reducible refine K.out.mono ?_
      rintro e w1 ⟨rfl, rfl⟩
      go_wp2
      go_ret
      exact ⟨rfl, rfl⟩
    · rw [if_neg h2]
      have o2' : compare v 0 = .lt ∨ compare v 0 = .eq := by
        rcases Int.lt_or_eq_of_le (Int.not_lt.1 h2) with h | h
        · exact .inl (Int.compare_eq_lt.2 h)
        · exact .inr (Int.compare_eq_eq.2 h)
      rw [show 4 * ((0 : Nat) : Int) = 0 from rfl, Spot.zero_is]
      generalize compare v 0 = q at o2 o2'
      generalize Flt.quart v = x at o1 o2 ⊢
      clear hv h1 h2
      rcases o2' with rfl | rfl
      all_goals
        go_enter Tryd.func26, Tryd.ntmps26
        go_wp2
        go_ret
        exact ⟨rfl, rfl⟩
set_option maxHeartbeats 2000000 in
set_option maxRecDepth 100000 in
theorem whole_any (u v : Int) (w : World) (hu : u.natAbs < 2 ^ 45) (hv : v.natAbs < 2 ^ 45) : Calls Tryd.prog 20 #[.complex .f64 (Flt.quart u) (Flt.quart v)] w fun e w' => e = .returned (Spot.cx (Spot.part u, Spot.part v)) ∧ w = w' := by
  have K1 := Lib.hid (number_any u w hu)
  have K2 := Lib.hid (number_any v w hv)
  unfold Spot.cx
  generalize Flt.quart (4 * (Spot.part u : Int)) = a at K1 ⊢
  generalize Flt.quart (4 * (Spot.part v : Int)) = b at K2 ⊢
  generalize Flt.quart u = x at K1 ⊢
  generalize Flt.quart v = y at K2 ⊢
  clear hu hv
  go_enter Tryd.func20, Tryd.ntmps20
  go_wp2_with fail
  with_reducible refine K1.out.mono ?_
  rintro e w1 ⟨rfl, rfl⟩
  go_wp2_with fail
  with_reducible refine K2.out.mono ?_
  rintro e w1 ⟨rfl, rfl⟩
  go_wp2
  go_ret
  exact ⟨rfl, rfl⟩
theorem suffix_any (s : ByteArray) (w : World) (hs : s.size ≤ 1000) : Calls Tryd.prog 25 #[.string s, .string ⟨#[13, 10]⟩] w fun e w' => e = .returned (.bool (Lib.hasSuffix s.data.toList [13, 10])) ∧ w' = w :=
  Any.strings_HasSuffix suffix_lays s ⟨#[13, 10]⟩ w (by omega)
set_option maxHeartbeats 2000000 in
set_option maxRecDepth 100000 in
theorem next_any (p : Nat × Nat) (s : ByteArray) (w : World) (h1 : p.1 ≤ 2 ^ 42) (h2 : p.2 ≤ 2 ^ 42) (hs : s.size ≤ 1000) : Calls Tryd.prog 19 #[Spot.cx p, .string s] w fun e w' => e = .returned (Spot.cx (Spot.more p (Lib.hasSuffix s.data.toList [13, 10]))) ∧ w = w' := by
  have K := Lib.hid (suffix_any s w hs)
  have n1 := Flt.neg_quart (v := 4 * (p.2 : Int)) (by omega) (by omega)
  have s1 := Flt.spot_sum (a := 4 * (p.1 : Int)) (b := 4 * (p.2 : Int)) (c := 0) (d := 4) (by omega) (by omega) (by decide) (by decide)
  have s2 : floatBits .add .f64 (Flt.quart (4 * (p.1 : Int))) (Flt.quart 4) = some (Flt.quart (4 * (p.1 : Int) + 4)) := Flt.sum_quart (by omega) (by decide) (by omega)
  rw [Spot.q4, Spot.zero_is] at s1
  rw [Spot.q4] at s2
  rw [Spot.zero_is] at n1
  have s3 : cSumBits .add .f64 (Flt.quart (4 * (p.1 : Int))) (Flt.quart (4 * (p.2 : Int))) 4607182418800017408 (Op.negFloat .f64 (Flt.quart (4 * (p.2 : Int)))) = some (Flt.quart (4 * (p.1 : Int) + 4), 0) := by
    unfold cSumBits
    rw [s2, n1]
    rfl
  have e1 : Spot.cx (Spot.more p false) = .complex .f64 (Flt.quart (4 * (p.1 : Int) + 0)) (Flt.quart (4 * (p.2 : Int) + 4)) := by
    show Value.complex .f64 (Flt.quart (4 * (p.1 : Int))) (Flt.quart (4 * ((p.2 + 1 : Nat) : Int))) = _
    rw [show 4 * ((p.2 + 1 : Nat) : Int) = 4 * (p.2 : Int) + 4 by omega, Int.add_zero]
  have e2 : Spot.cx (Spot.more p true) = .complex .f64 (Flt.quart (4 * (p.1 : Int) + 4)) 0 := by
    show Value.complex .f64 (Flt.quart (4 * ((p.1 + 1 : Nat) : Int))) (Flt.quart (4 * ((0 : Nat) : Int))) = _
    rw [show 4 * ((p.1 + 1 : Nat) : Int) = 4 * (p.1 : Int) + 4 by omega, show 4 * ((0 : Nat) : Int) = 0 from rfl, Spot.zero_is]
  rw [show Spot.cx p = .complex .f64 (Flt.quart (4 * (p.1 : Int))) (Flt.quart (4 * (p.2 : Int))) from rfl]
  generalize Flt.quart (4 * (p.1 : Int) + 4) = x4 at s1 s2 s3 e2
  generalize Flt.quart (4 * (p.1 : Int) + 0) = x0 at s1 e1
  generalize Flt.quart (4 * (p.2 : Int) + 4) = y4 at s1 e1
  generalize Flt.quart (4 * (p.1 : Int)) = x at s1 s2 s3 ⊢
  generalize Flt.quart (4 * (p.2 : Int)) = y at s1 n1 s3 ⊢
  obtain ⟨z, hz⟩ : ∃ z, Op.negFloat .f64 y = z := ⟨_, rfl⟩
  rw [hz] at s3
  have r1 := fun W : World => run_complex_sum (P := Tryd.prog) W .add (.inl rfl) 23 .f64 _ _ _ _ _ _ s1
  have r3 := fun W : World => run_complex_sum (P := Tryd.prog) W .add (.inl rfl) 23 .f64 _ _ _ _ _ _ s3
  have r2 : ∀ W, (Op.unary .neg (.float .f64 y)).run Tryd.prog W = .ok (.float .f64 z) W := fun W => by rw [← hz]; rfl
  clear h1 h2 hs s1 s2 s3 n1 hz
  cases hq : Lib.hasSuffix s.data.toList [13, 10] with
  | true =>
    rw [hq] at K
    rw [e2]
    clear e1 e2 hq
    go_enter Tryd.func19, Tryd.ntmps19
    go_wp2_with fail
    with_reducible refine K.out.mono ?_
    rintro e w1 ⟨rfl, rfl⟩
    go_wp2
    go_ret
    exact ⟨rfl, rfl⟩
  | false =>
    rw [hq] at K
    rw [e1]
    clear e1 e2 hq
    go_enter Tryd.func19, Tryd.ntmps19
    go_wp2_with fail
    with_reducible refine K.out.mono ?_
    rintro e w1 ⟨rfl, rfl⟩
    go_wp2
    go_ret
    exact ⟨rfl, rfl⟩
set_option maxHeartbeats 4000000 in
set_option maxRecDepth 100000 in
theorem stepP_any (u v : Int) (s : ByteArray) (w : World) (hu : u.natAbs < 2 ^ 45) (hv : v.natAbs < 2 ^ 45) (hs : s.size ≤ 1000) :
    Calls Tryd.prog 11 #[.complex .f64 (Flt.quart u) (Flt.quart v), .string s] w fun e w' => e = .returned (Spot.cx (Spot.steps s.data.toList (Spot.part u) (Spot.part v))) ∧ w = w' := by
  have hsl : s.data.toList.length = s.size := by simp
  have K0 := Lib.hid (whole_any u v w hu hv)
  have b1 := Spot.part_lt (v := u)
  have b2 := Spot.part_lt (v := v)
  generalize Flt.quart u = x at K0 ⊢
  generalize Flt.quart v = y at K0 ⊢
  generalize Spot.part u = l0 at K0 b1 ⊢
  generalize Spot.part v = c0 at K0 b2 ⊢
  have KN := Lib.hid (fun (k : Nat) (hk : k < s.size) => by
    have hf := Spot.steps_few (s.data.toList.take k) l0 c0
    have hl : (s.data.toList.take k).length ≤ 1000 := by have := List.length_take_le' k s.data.toList; omega
    have h := next_any (Spot.steps (s.data.toList.take k) l0 c0) (s.extract 0 (k + 1)) w (by omega) (by omega) (by simp; omega)
    rw [Spot.take_of, ← Spot.steps_more (by omega)] at h
    exact h)
  obtain ⟨P, hP⟩ : ∃ P, P = fun k => Spot.cx (Spot.steps (s.data.toList.take k) l0 c0) := ⟨_, rfl⟩
  have hP0 : P 0 = Spot.cx (l0, c0) := by rw [hP]; rfl
  have hPn : Spot.cx (Spot.steps s.data.toList l0 c0) = P s.size := by rw [hP]; show _ = Spot.cx (Spot.steps (s.data.toList.take s.size) l0 c0); rw [List.take_of_length_le (by omega)]
  have KN2 : Hid (∀ k, k < s.size → Calls Tryd.prog 19 #[P k, .string (s.extract 0 (k + 1))] w fun e w' => e = .returned (P (k + 1)) ∧ w = w') := Lib.hid (by rw [hP]; exact KN.out)
  rw [hPn]
  rw [← hP0] at K0
  clear hu hv hP hP0 hPn KN hsl b1 b2
  go_enter Tryd.func11, Tryd.ntmps11
  go_wp2_with fail
  with_reducible refine K0.out.mono ?_
  rintro e w1 ⟨rfl, rfl⟩
  go_wp2
  go_loopg [0, 5, 10] (s.size + 1) (fun gk s0 s5 s10 wr => ∃ k : Nat, s0 = P k ∧ s10 = .int .i64 k ∧ k ≤ s.size ∧ s.size - k < gk ∧ w = wr)
  case atStart => exact ⟨0, rfl, rfl, Nat.zero_le _, by omega, rfl⟩
  case round =>
    obtain ⟨k, rfl, rfl, hk, hg, rfl⟩ := hrel
    by_cases hlt : k < s.size
    · have hkz : (k : Int) < (s.size : Int) := by omega
      have K := Lib.hid (KN2.out k hlt)
      go_wp2_with fail
      with_reducible refine K.out.mono ?_
      rintro e w1 ⟨rfl, rfl⟩
      go_wp2
      go_roundg (s.size - k)
      case measure => omega
      case rel => exact ⟨k + 1, rfl, by go_num, by omega, by omega, rfl⟩
    · obtain rfl : k = s.size := by omega
      have hkz : ¬ (s.size : Int) < (s.size : Int) := by omega
      go_wp2
      go_ret
      exact ⟨rfl, rfl⟩
set_option maxHeartbeats 4000000 in
set_option maxRecDepth 100000 in
theorem ofP_any (s : ByteArray) (k : Int) (w : World) (hs : s.size ≤ 1000) :
    Calls Tryd.prog 13 #[.string s, .int .i64 k] w fun e w' => e = .returned (Spot.cx (Spot.spot s.data.toList (Spot.cut s.data.toList k))) ∧ w = w' := by
  have hsl : s.data.toList.length = s.size := by simp
  have K : ∀ j, j ≤ s.size → Calls Tryd.prog 11 #[.complex .f64 0 0, .string (s.extract 0 j)] w fun e w' => e = .returned (Spot.cx (Spot.spot s.data.toList j)) ∧ w = w' := fun j hj => by
    have h := stepP_any 0 0 (s.extract 0 j) w (by decide) (by decide) (by simp; omega)
    rw [Spot.zero_is, Spot.part_zero, Spot.take_of] at h
    exact h
  by_cases h1 : k ≤ 0
  · have hc : Spot.cut s.data.toList k = 0 := by
      unfold Spot.cut
      by_cases h : k < 0
      · rw [if_pos h]
      · rw [if_neg h, if_neg (by omega)]; omega
    rw [hc]
    have K := K 0 (Nat.zero_le _)
    rw [show s.extract 0 0 = ByteArray.empty by simp] at K
    have K := Lib.hid K
    generalize Spot.cx (Spot.spot s.data.toList 0) = V at K ⊢
    have m1 : max k 0 = 0 := by omega
    have m2 : min 0 (s.size : Int) = 0 := by omega
    clear hsl hc
    go_enter Tryd.func13, Tryd.ntmps13
    go_wp2_with fail
    all_goals
      with_reducible refine K.out.mono ?_
      rintro e w1 ⟨rfl, rfl⟩
      go_wp2
      go_ret
      exact ⟨rfl, rfl⟩
  · have hk0 : (0 : Int) < k := by omega
    have m0 : max k 0 = k := by omega
    by_cases h3 : (s.size : Int) < k
    · have hc : Spot.cut s.data.toList k = s.size := by
        unfold Spot.cut
        rw [if_neg (by omega), hsl, if_pos h3]
      rw [hc]
      have K := K s.size (Nat.le_refl _)
      rw [show s.extract 0 s.size = s by simp] at K
      have K := Lib.hid K
      generalize Spot.cx (Spot.spot s.data.toList s.size) = V at K ⊢
      have m1 : min k (s.size : Int) = (s.size : Int) := by omega
      clear hsl hc h1
      go_enter Tryd.func13, Tryd.ntmps13
      go_wp2_with fail
      all_goals
        with_reducible refine K.out.mono ?_
        rintro e w1 ⟨rfl, rfl⟩
        go_wp2
        go_ret
        exact ⟨rfl, rfl⟩
    · obtain ⟨j, rfl⟩ : ∃ j : Nat, k = j := ⟨k.toNat, by omega⟩
      have hc : Spot.cut s.data.toList (j : Int) = j := Spot.cut_nat (by omega)
      rw [hc]
      have K := Lib.hid (K j (by omega))
      generalize Spot.cx (Spot.spot s.data.toList j) = V at K ⊢
      have m1 : min (j : Int) (s.size : Int) = (j : Int) := by omega
      have hj : (j : Int) ≤ (s.size : Int) := by omega
      have hjn : j ≤ s.size := by omega
      have hjn2 : 0 < j := by omega
      clear hsl hc h1 h3
      go_enter Tryd.func13, Tryd.ntmps13
      go_wp2_with fail
      all_goals
        with_reducible refine K.out.mono ?_
        rintro e w1 ⟨rfl, rfl⟩
        go_wp2
        go_ret
        exact ⟨rfl, rfl⟩
theorem linesP_any (s : ByteArray) (w : World) (hT : Tabs w) (hs : s.size ≤ 1000) :
    Calls Tryd.prog 15 #[.string s] w fun e w' => e = .returned (.int .i64 (Spot.cnt s.data.toList : Nat)) ∧ w = w' := by
  obtain ⟨m, hm⟩ := hT.2
  have K : Calls Tryd.prog 22 #[.string s, .string ⟨#[13, 10]⟩] w fun e w' => e = .returned (.int .i64 (Lib.count s.data.toList [13, 10] : Nat)) ∧ w' = w :=
    Any.strings_Count count_lays s ⟨#[13, 10]⟩ m w (by omega) hm (by decide)
  rw [Spot.count_is] at K
  have K := Lib.hid K
  generalize Spot.cnt s.data.toList = n at K ⊢
  clear hT hm hs
  go_enter Tryd.func15, Tryd.ntmps15
  go_wp2_with fail
  with_reducible refine K.out.mono ?_
  rintro e w1 ⟨rfl, rfl⟩
  go_wp2
  go_ret
  exact ⟨rfl, rfl⟩
theorem below_grew (w : World) (k : Nat) (os : Array Obj) : Below w.heap.size w (Go.Sort.grow (w.drewN k) os) :=
  ⟨rfl, rfl, rfl, by show w.heap.size ≤ (w.heap ++ os).size; rw [Array.size_append]; omega, fun j hj => by
    show (w.heap ++ os)[j]? = w.heap[j]?
    exact Array.getElem?_append_left hj⟩
set_option maxHeartbeats 4000000 in
set_option maxRecDepth 100000 in
theorem countP_any (n : Nat) (w : World) (hT : Tabs w) (hn : n ≤ 2 ^ 41) : Calls Tryd.prog 23 #[.float .f64 (Flt.quart (4 * (n : Int)))] w fun e w' => e = .returned (.string ⟨(Spot.num (n + 1)).toArray⟩) ∧ Below w.heap.size w w' := by
  have K : Calls Tryd.prog 30 #[.int .i64 ((n : Int) + 1)] w fun e w' => e = .returned (.string ⟨(Lib.itoa ((n : Int) + 1)).toArray⟩) ∧ ∃ k os, w' = Go.Sort.grow (w.drewN k) os :=
    Any.strconv_Itoa itoa_lays ((n : Int) + 1) (by omega) (by omega) w hT.1
  rw [show Lib.itoa ((n : Int) + 1) = Spot.num (n + 1) by rw [show (n : Int) + 1 = ((n + 1 : Nat) : Int) by omega, Lib.itoa_nonneg, Spot.num_is]] at K
  have hcv : floatToIntVal .f64 (Flt.quart (4 * (n : Int))) .i64 = some (n : Int) := by
    have hd : FloatKind.f64.decode (Flt.quart (4 * (n : Int))) = Ieee.double.read (Flt.quart (4 * (n : Int))) := rfl
    unfold floatToIntVal
    rw [hd, Flt.whole_quart (by omega) (by omega), show 4 * (n : Int) / 4 = (n : Int) by omega]
    have hm : IntKind.i64.min ≤ (n : Int) ∧ (n : Int) ≤ IntKind.i64.max := by
      rw [show IntKind.i64.min = -9223372036854775808 from rfl, show IntKind.i64.max = 9223372036854775807 from rfl]
      omega
    simp only
    rw [if_pos hm]
  have hrun := fun W : World => run_convert_float_int (P := Tryd.prog) W 24 3 .f64 .i64 (Flt.quart (4 * (n : Int))) _ rfl Tryd.underlying3 hcv
  have hw1 : wrap64 ((n : Int) + 1) = (n : Int) + 1 := by unfold wrap64; omega
  have hn2 : (n : Int) ≤ 2199023255552 := by omega
  generalize Spot.num (n + 1) = t at K ⊢
  generalize Flt.quart (4 * (n : Int)) = x at hrun ⊢
  have K := Lib.hid K
  clear hT hcv
  go_enter Tryd.func23, Tryd.ntmps23
  go_wp2_with fail
  with_reducible refine K.out.mono ?_
  rintro e w1 ⟨rfl, k, os, rfl⟩
  have B1 := Lib.hid (below_grew w k os)
  generalize Go.Sort.grow (w.drewN k) os = w1 at B1 ⊢
  go_wp2
  go_ret
  exact ⟨rfl, B1.out⟩
set_option maxHeartbeats 4000000 in
set_option maxRecDepth 100000 in
theorem textP_any (u v : Int) (w : World) (hT : Tabs w) (hu : u.natAbs < 2 ^ 45) (hv : v.natAbs < 2 ^ 45) :
    Calls Tryd.prog 17 #[.complex .f64 (Flt.quart u) (Flt.quart v)] w fun e w' => e = .returned (.string ⟨(Spot.text (Spot.part u) (Spot.part v)).toArray⟩) ∧ Below w.heap.size w w' := by
  have T := Lib.hid hT
  have K0 := Lib.hid (whole_any u v w hu hv)
  have b1 := Spot.part_lt (v := u)
  have b2 := Spot.part_lt (v := v)
  unfold Spot.cx at K0
  generalize Flt.quart u = x at K0 ⊢
  generalize Flt.quart v = y at K0 ⊢
  generalize Spot.part u = l at K0 b1 ⊢
  generalize Spot.part v = c at K0 b2 ⊢
  have N1 := fun W hW => countP_any l W hW (by omega)
  have N2 := fun W hW => countP_any c W hW (by omega)
  have l1 := Spot.num_len (l + 1) 13 (by omega)
  have l2 := Spot.num_len (c + 1) 13 (by omega)
  unfold Spot.text
  generalize Spot.num (l + 1) = A at N1 l1 ⊢
  generalize Spot.num (c + 1) = B at N2 l2 ⊢
  simp only at K0
  generalize Flt.quart (4 * (l : Int)) = x2 at K0 N1
  generalize Flt.quart (4 * (c : Int)) = y2 at K0 N2
  have N1 := Lib.hid N1
  have N2 := Lib.hid N2
  clear hu hv hT b1 b2
  go_enter Tryd.func17, Tryd.ntmps17
  go_wp2_with fail
  with_reducible refine K0.out.mono ?_
  rintro e w1 ⟨rfl, rfl⟩
  go_wp2_with fail
  with_reducible refine (N1.out _ T.out).mono ?_
  rintro e w1 ⟨rfl, hb1⟩
  have B1 := Lib.hid hb1
  clear hb1
  go_wp2_with fail
  with_reducible refine (N2.out _ (tabs_keep T.out B1.out)).mono ?_
  rintro e w2 ⟨rfl, hb2⟩
  have B2 := Lib.hid (below_then B1.out hb2)
  clear hb2
  go_wp2
  go_ret
  exact ⟨by rw [← cat_lists, ← cat_lists]; rfl, B2.out⟩
set_option maxHeartbeats 4000000 in
set_option maxRecDepth 100000 in
theorem placeP_any (s : ByteArray) (u v : Int) (w : World) (hs : s.size ≤ 1000) (hu : u.natAbs < 2 ^ 45) (hv : v.natAbs < 2 ^ 45) :
    Calls Tryd.prog 9 #[.string s, .complex .f64 (Flt.quart u) (Flt.quart v)] w fun e w' => e = .returned (Spot.placeV (Spot.place s.data.toList u v)) ∧ w = w' := by
  have hsl : s.data.toList.length = s.size := by simp
  -- the spot of each place, as two words
  have KN : ∀ k, k < s.size → Calls Tryd.prog 19 #[Spot.cx (Spot.spot s.data.toList k), .string (s.extract 0 (k + 1))] w fun e w' => e = .returned (Spot.cx (Spot.spot s.data.toList (k + 1))) ∧ w = w' := fun k hk => by
    have hf := Spot.spot_bd s.data.toList k
    have h := next_any (Spot.spot s.data.toList k) (s.extract 0 (k + 1)) w (by omega) (by omega) (by simp; omega)
    rw [Spot.take_of] at h
    unfold Spot.spot at h ⊢
    rw [← Spot.steps_more (by omega)] at h
    exact h
  obtain ⟨a, ha⟩ : ∃ a : Nat → Nat, a = fun k => Flt.quart (4 * ((Spot.spot s.data.toList k).1 : Int)) := ⟨_, rfl⟩
  obtain ⟨b, hb⟩ : ∃ b : Nat → Nat, b = fun k => Flt.quart (4 * ((Spot.spot s.data.toList k).2 : Int)) := ⟨_, rfl⟩
  have hcx : ∀ k, Spot.cx (Spot.spot s.data.toList k) = .complex .f64 (a k) (b k) := fun k => by rw [ha, hb]; rfl
  have hat : ∀ k, k ≤ s.size → Spot.isAt s.data.toList u v k = ((FloatKind.f64.format.order (a k) (Flt.quart u) == some .eq) && (FloatKind.f64.format.order (b k) (Flt.quart v) == some .eq)) := fun k hk => by
    have hf := Spot.spot_bd s.data.toList k
    have h := Spot.same_is (Spot.spot s.data.toList k).1 (Spot.spot s.data.toList k).2 u v (by omega) (by omega) hu hv
    rw [ha, hb]
    simp only
    rw [h.1, h.2]
    rfl
  have h00 : a 0 = 0 ∧ b 0 = 0 := by
    rw [ha, hb]
    exact ⟨Spot.zero_is, Spot.zero_is⟩
  have KN2 := Lib.hid (fun k hk => by have h := KN k hk; rw [hcx, hcx] at h; exact h)
  have HAT := Lib.hid hat
  have HSL := Lib.hid hsl
  obtain ⟨P, hP⟩ : ∃ P, P = Spot.placeV (Spot.place s.data.toList u v) := ⟨_, rfl⟩
  rw [← hP]
  have HP := Lib.hid hP
  obtain ⟨H0, H1⟩ := h00
  have H0 := Lib.hid H0
  have H1 := Lib.hid H1
  generalize Flt.quart u = x at HAT ⊢
  generalize Flt.quart v = y at HAT ⊢
  clear KN ha hb hcx hat hsl hu hv hP
  go_enter Tryd.func9, Tryd.ntmps9
  go_wp2
  go_loopg [6, 7, 10] (s.size + 1) (fun gk s6 s7 s10 wr => ∃ k : Nat, s6 = .complex .f64 (a k) (b k) ∧ s10 = .int .i64 k ∧ k ≤ s.size ∧ s.size - k < gk ∧ w = wr ∧ Hid (∀ j, j < k → Spot.isAt s.data.toList u v j = false))
  case atStart => exact ⟨0, by rw [H0.out, H1.out], rfl, Nat.zero_le _, by omega, rfl, fun j hj => absurd hj (Nat.not_lt_zero _)⟩
  case round =>
    obtain ⟨k, rfl, rfl, hk, hg, rfl, I⟩ := hrel
    by_cases hlt : k < s.size
    · have hkz : (k : Int) < (s.size : Int) := by omega
      have K := KN2.out k hlt
      have hat := HAT.out k hk
      obtain ⟨a2, ha2⟩ : ∃ a2, a (k + 1) = a2 := ⟨_, rfl⟩
      obtain ⟨b2, hb2⟩ : ∃ b2, b (k + 1) = b2 := ⟨_, rfl⟩
      rw [ha2, hb2] at K
      have HA2 := Lib.hid ha2
      have HB2 := Lib.hid hb2
      clear ha2 hb2
      have K := Lib.hid K
      cases q1 : (FloatKind.f64.format.order (a k) x == some Ordering.eq) <;> cases q2 : (FloatKind.f64.format.order (b k) y == some Ordering.eq) <;> rw [q1, q2] at hat
      case true.true =>
        have R : Hid (P = .tuple #[.int .i64 (k : Int), .bool true]) := Lib.hid (by rw [HP.out, Spot.place_hit (by rw [HSL.out]; exact hk) I.out hat]; rfl)
        clear hat
        go_wp2
        go_ret2
        exact ⟨by rw [R.out]; rfl, rfl⟩
      all_goals
        have I2 : Hid (∀ j, j < k + 1 → Spot.isAt s.data.toList u v j = false) := Lib.hid (fun j hj => by
          by_cases e : j = k
          · subst e; exact hat
          · exact I.out j (by omega))
        clear hat
        go_wp2_with fail
        with_reducible refine K.out.mono ?_
        rintro e w1 ⟨rfl, rfl⟩
        go_wp2
        go_roundg (s.size - k)
        case measure => omega
        case rel => exact ⟨k + 1, by rw [HA2.out, HB2.out], by go_num, by omega, by omega, rfl, I2.out⟩
    · obtain rfl : k = s.size := by omega
      have hkz : ¬ (s.size : Int) < (s.size : Int) := by omega
      have hat := HAT.out s.size hk
      cases q1 : (FloatKind.f64.format.order (a s.size) x == some Ordering.eq) <;> cases q2 : (FloatKind.f64.format.order (b s.size) y == some Ordering.eq) <;> rw [q1, q2] at hat
      case true.true =>
        have R : Hid (P = .tuple #[.int .i64 (s.size : Int), .bool true]) := Lib.hid (by rw [HP.out, Spot.place_hit (by rw [HSL.out]; exact hk) I.out hat]; rfl)
        clear hat
        go_wp2
        go_ret2
        exact ⟨by rw [R.out]; rfl, rfl⟩
      all_goals
        have R : Hid (P = .tuple #[.int .i64 0, .bool false]) := Lib.hid (by
          rw [HP.out, Spot.place_none (fun j hj => by
            have := HSL.out
            by_cases e : j = s.size
            · subst e; exact hat
            · exact I.out j (by omega))]
          rfl)
        clear hat
        go_wp2
        go_ret2
        exact ⟨by rw [R.out]; rfl, rfl⟩
/-- What the program's five functions tell. -/
theorem spotOk : SpotOk where
  step := fun u v s w hu hv hs => (stepP_any u v s w hu hv hs).mono fun _ _ h => ⟨h.1, h.2 ▸ Below.refl _ _⟩
  of := fun s k w hs => (ofP_any s k w hs).mono fun _ _ h => ⟨h.1, h.2 ▸ Below.refl _ _⟩
  place := fun s u v w hs hu hv => (placeP_any s u v w hs hu hv).mono fun _ _ h => ⟨h.1, h.2 ▸ Below.refl _ _⟩
  text := fun u v w hT hu hv => textP_any u v w hT hu hv
  lines := fun s w hT hs => (linesP_any s w hT hs).mono fun _ _ h => ⟨h.1, h.2 ▸ Below.refl _ _⟩
end Go.Proofs.YtegldopmneoenaaDoor
