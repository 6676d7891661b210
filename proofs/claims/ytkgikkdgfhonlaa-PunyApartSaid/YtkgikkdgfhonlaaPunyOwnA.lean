/-
  Proved here: puny's Digit, Value, Adapt, threshold, digit and write. Conditions: as they stand in each.
-/
import Derived.Test.YtkgikkdgfhonlaaPunyNum
import Derived.Test.YtkgikkdgfhonlaaUtfGrew
namespace Go.Proofs.Ytkgikkdgfhonlaa
open Go.RowKit Utf
set_option maxHeartbeats 1000000 in
set_option maxRecDepth 100000 in
theorem digit5_no (n : Int) (w : World) (h : n < 0 ∨ 35 < n) : Calls Try.prog 11 #[.int .i64 n] w fun e w' => e = .returned (.tuple #[.int .u8 0, .bool false]) ∧ w = w' := by
  rcases h with h | h
  · go_enter Try.func11, Try.ntmps11
    go_wp2
    go_ret2
    exact ⟨rfl, rfl⟩
  · have h0 : ¬ n < 0 := by omega
    go_enter Try.func11, Try.ntmps11
    go_wp2
    go_ret2
    exact ⟨rfl, rfl⟩
set_option maxHeartbeats 1000000 in
set_option maxRecDepth 100000 in
theorem digitP_yes (n : Int) (w : World) (h : 0 ≤ n ∧ n ≤ 35) : Calls Try.prog 10 #[.int .i64 n] w fun e w' => e = .returned (.tuple #[.int .u8 (Puny.digN n), .bool true]) ∧ w = w' := by
  obtain ⟨h0, h1⟩ := h
  by_cases h2 : n < 26
  · have e : Puny.digN n = 97 + n := by unfold Puny.digN; rw [if_pos h2]
    rw [e]
    clear e h1
    go_enter Try.func10, Try.ntmps10
    go_wp2
    go_ret2
    exact ⟨rfl, rfl⟩
  · have e : Puny.digN n = 48 + (n - 26) := by unfold Puny.digN; rw [if_neg h2]; omega
    rw [e]
    have h3 : 26 ≤ n := by omega
    clear e h2
    go_enter Try.func10, Try.ntmps10
    go_wp2
    go_ret2
    exact ⟨rfl, rfl⟩
set_option maxHeartbeats 1000000 in
set_option maxRecDepth 100000 in
theorem digitP_no (n : Int) (w : World) (h : n < 0 ∨ 35 < n) : Calls Try.prog 10 #[.int .i64 n] w fun e w' => e = .returned (.tuple #[.int .u8 0, .bool false]) ∧ w = w' := by
  rcases h with h | h
  · have h1 : ¬ 0 ≤ n := by omega
    have h2 : ¬ 26 ≤ n := by omega
    go_enter Try.func10, Try.ntmps10
    go_wp2
    go_ret2
    exact ⟨rfl, rfl⟩
  · have h1 : 0 ≤ n := by omega
    have h2 : 26 ≤ n := by omega
    have h3 : ¬ n < 26 := by omega
    have h4 : ¬ n < 36 := by omega
    go_enter Try.func10, Try.ntmps10
    go_wp2
    go_ret2
    exact ⟨rfl, rfl⟩
set_option maxHeartbeats 2000000 in
set_option maxRecDepth 100000 in
theorem valueP_any (n : Int) (w : World) (h : 0 ≤ n ∧ n ≤ 255) : Calls Try.prog 12 #[.int .u8 n] w fun e w' => e = .returned (.tuple #[.int .i64 ((Puny.valOf n).getD 0), .bool (Puny.valOf n).isSome]) ∧ w = w' := by
  obtain ⟨h0, h1⟩ := h
  go_enter Try.func12, Try.ntmps12
  go_wp2
  all_goals
    go_ret2
    refine ⟨?_, rfl⟩
    unfold Puny.valOf
    first
      | (rw [if_pos (by omega)]; rfl)
      | (rw [if_neg (by omega), if_pos (by omega)]; rfl)
      | (rw [if_neg (by omega), if_neg (by omega), if_pos (by omega)]; rfl)
      | (rw [if_neg (by omega), if_neg (by omega), if_neg (by omega)]; rfl)
set_option maxHeartbeats 1000000 in
set_option maxRecDepth 100000 in
theorem thrP_any (k b : Int) (w : World) (h : -1000000000000 ≤ k ∧ k ≤ 1000000000000 ∧ -1000000000000 ≤ b ∧ b ≤ 1000000000000) : Calls Try.prog 42 #[.int .i64 k, .int .i64 b] w fun e w' => e = .returned (.int .i64 (Puny.thr k b)) ∧ w = w' := by
  obtain ⟨h0, h1, h2, h3⟩ := h
  go_enter Try.func42, Try.ntmps42
  go_wp2
  all_goals
    go_ret
    refine ⟨?_, rfl⟩
    unfold Puny.thr
    first
      | (rw [show max 1 (min 26 (k - b)) = k - b by omega]; rfl)
      | (rw [show max 1 (min 26 (k - b)) = 26 by omega]; rfl)
      | (rw [show max 1 (min 26 (k - b)) = 1 by omega]; rfl)
set_option maxHeartbeats 2000000 in
set_option maxRecDepth 100000 in
theorem adaptP_any (delta count : Int) (first : Bool) (w : World) (hd : 0 ≤ delta ∧ delta ≤ 2147483647) (hc : 1 ≤ count ∧ count ≤ 9223372036854775807) : Calls Try.prog 14 #[.int .i64 delta, .int .i64 count, .bool first] w fun e w' => e = .returned (.int .i64 (Puny.adapt delta count first)) ∧ w = w' := by
  obtain ⟨d0, d1⟩ := hd
  obtain ⟨c0, c1⟩ := hc
  unfold Puny.adapt
  obtain ⟨d, hdd⟩ : ∃ d, d = (if first then delta / 700 else delta / 2) := ⟨_, rfl⟩
  rw [← hdd]
  have hb : 0 ≤ d ∧ d ≤ 2147483647 := by rw [hdd]; split <;> omega
  have hq0 : 0 ≤ d / count := Int.ediv_nonneg hb.1 (by omega)
  have hq1 : d / count ≤ d := Int.ediv_le_self _ hb.1
  obtain ⟨q, hq⟩ : ∃ q, d / count = q := ⟨_, rfl⟩
  rw [hq]
  rw [hq] at hq0 hq1
  obtain ⟨b0, b1⟩ := hb
  have n0 : ¬ delta < 0 := by omega
  have n1 : ¬ count < 1 := by omega
  cases first
  all_goals
    simp only [Bool.false_eq_true, if_false, if_true] at hdd
    have hdd' := hdd.symm
    clear hdd
    go_enter Try.func14, Try.ntmps14
    go_wp2
    go_loopg [7, 8] ((d + q).toNat + 1) (fun gk s7 s8 wr => ∃ x y : Int, s7 = .int .i64 x ∧ s8 = .int .i64 y ∧ 0 ≤ x ∧ 0 ≤ y ∧ x + y ≤ 4294967294 ∧ x.toNat < gk ∧ Hid (Puny.bend (d + q) 0 = Puny.bend x y ∧ w = wr))
    case atStart => exact ⟨d + q, 0, rfl, rfl, by omega, by omega, by omega, by omega, ⟨rfl, rfl⟩⟩
    case round =>
      obtain ⟨x, y, rfl, rfl, hx, hy, hxy, hg, I⟩ := hrel
      by_cases hlt : 455 < x
      · have J : Hid (Puny.bend (d + q) 0 = Puny.bend (x / 35) (y + 36) ∧ w = wr) := ⟨by rw [I.out.1, Puny.bend_more hlt], I.out.2⟩
        clear I
        go_wp2
        go_roundg (x.toNat)
        case measure => omega
        case rel => exact ⟨x / 35, y + 36, rfl, rfl, by omega, by omega, by omega, by omega, J⟩
      · have R := Lib.hid (show Puny.bend (d + q) 0 = y + 36 * x / (x + 38) by rw [I.out.1, Puny.bend_last hlt])
        have hlt' : x ≤ 455 := by omega
        have hq2 : 0 ≤ 36 * x / (x + 38) ∧ 36 * x / (x + 38) ≤ 36 * x := ⟨Int.ediv_nonneg (by omega) (by omega), Int.ediv_le_self _ (by omega)⟩
        obtain ⟨z, hz⟩ : ∃ z, 36 * x / (x + 38) = z := ⟨_, rfl⟩
        rw [hz] at hq2 R
        obtain ⟨z0, z1⟩ := hq2
        clear hlt
        go_wp2
        go_ret
        exact ⟨by rw [R.out]; rfl, I.out.2⟩
set_option maxHeartbeats 1000000 in
set_option maxRecDepth 100000 in
theorem digP_any (n : Int) (w : World) (h : 0 ≤ n ∧ n ≤ 35) : Calls Try.prog 48 #[.int .i64 n] w fun e w' => e = .returned (.int .u8 ((Puny.digB n).toNat : Int)) ∧ w = w' := by
  have K := Lib.hid (digitP_yes n w h)
  rw [← Puny.digB_val h] at K
  go_enter Try.func48, Try.ntmps48
  go_wp2_with fail
  refine K.out.mono ?_
  rintro e w1 ⟨rfl, rfl⟩
  go_wp2
  go_ret
  exact ⟨rfl, rfl⟩
namespace Puny
theorem digits_short : ∀ (f : Nat) (n k b : Int), 0 ≤ n → n < 2 ^ f → (digits n k b).length ≤ f + 1
  | 0, n, k, b, h0, h1 => by
    have := thr_bd k b
    rw [digits_last (by omega)]
    simp
  | f + 1, n, k, b, h0, h1 => by
    have ht := thr_bd k b
    by_cases h : n < thr k b
    · rw [digits_last h]; simp
    · rw [digits_more (by omega), List.length_cons]
      have hl := less n (thr k b) ht.1 ht.2 (by omega)
      have hh : (n - thr k b) / (36 - thr k b) < 2 ^ f := by
        apply Int.ediv_lt_of_lt_mul (by omega)
        have h2 : (2 : Int) ^ (f + 1) = 2 ^ f * 2 := Int.pow_succ _ _
        have h3 : (0 : Int) < 2 ^ f := Int.pow_pos (by decide)
        have h4 : (2 : Int) ^ f * 2 ≤ 2 ^ f * (36 - thr k b) := Int.mul_le_mul_of_nonneg_left (by omega) (by omega)
        omega
      have := digits_short f _ (k + 36) b hl.1 hh
      omega
theorem digitsB_short {n : Int} (k b : Int) (h : 0 ≤ n ∧ n ≤ 2147483647) : (digitsB n k b).length ≤ 32 := by
  unfold digitsB
  rw [List.length_map]
  exact digits_short 31 n k b h.1 (by have : (2 : Int) ^ 31 = 2147483648 := by decide
                                      omega)
end Puny
/-- Bytes have been laid behind. -/
def LaysB (base : Nat) (v : Value) (x : List UInt8) (w : World) (e : Ending) (w' : World) : Prop := ∃ v', e = .returned v' ∧ OwnB base v' x w' ∧ Grew v v' w w'
set_option maxHeartbeats 4000000 in
set_option maxRecDepth 100000 in
theorem write_any (base : Nat) (v : Value) (bs : List UInt8) (n b : Int) (w : World) (ho : OwnB base v bs w) (hbase : base ≤ w.heap.size) (hl : bs.length ≤ 100000) (hn : 0 ≤ n ∧ n ≤ 2147483647) (hb : 0 ≤ b ∧ b ≤ 100000000000) :
    Calls Try.prog 45 #[v, .int .i64 n, .int .i64 b] w (LaysB base v (bs ++ Puny.digitsB n 36 b) w) := by
  have hsh := Puny.digitsB_short 36 b hn
  obtain ⟨n0, n1⟩ := hn
  obtain ⟨b0, b1⟩ := hb
  have HO := Lib.hid ho
  have HBS := Lib.hid hbase
  have K0 := Lib.hid (thrP_any 36 b w (by omega))
  clear ho hbase
  go_enter Try.func45, Try.ntmps45
  go_wp2_with fail
  refine K0.out.mono ?_
  rintro e w1 ⟨rfl, rfl⟩
  go_wp2
  go_loopg [0, 1, 7, 8] (n.toNat + 1) (fun gk s0 s1 s7 s8 wr => ∃ (x k : Int), s1 = .int .i64 x ∧ s7 = .int .i64 k ∧ s8 = .int .i64 (Puny.thr k b) ∧ 0 ≤ x ∧ 36 ≤ k ∧ k + 36 * x ≤ 36 + 36 * n ∧ x.toNat < gk ∧ Hid (∃ o : List UInt8, OwnB base s0 (bs ++ o) wr ∧ Puny.digitsB n 36 b = o ++ Puny.digitsB x k b ∧ Grew v s0 w wr))
  case atStart => exact ⟨n, 36, rfl, rfl, rfl, n0, by omega, by omega, by omega, ⟨[], by rw [List.append_nil]; exact HO.out, rfl, Grew.refl _ _⟩⟩
  case round =>
    obtain ⟨x, k, rfl, rfl, rfl, hx, hk, hkx, hg, I⟩ := hrel
    obtain ⟨o, I1, I2, I3⟩ := I.out
    have hol : o.length ≤ 32 := by rw [I2, List.length_append] at hsh; omega
    have hle : (bs ++ o).length ≤ 1000000 := by rw [List.length_append]; omega
    have IO := Lib.hid I1
    have IG := Lib.hid I3
    have KT := Lib.hid (fun W => thrP_any (k + 36) b W (by omega))
    have ht := Puny.thr_bd k b
    have hL := fun h => Puny.digitsB_last (n := x) (k := k) (b := b) h
    have hM := fun h => Puny.digitsB_more (n := x) (k := k) (b := b) h
    have hBS : Hid (base ≤ wr.heap.size) := Lib.hid (Nat.le_trans HBS.out I3.size)
    clear I I1 I3
    generalize Puny.thr k b = t at ht hL hM
    obtain ⟨t0, t1⟩ := ht
    by_cases hlt : x < t
    · have KD := Lib.hid (fun W => digP_any x W (by omega))
      have T := Lib.hid (show Puny.digitsB n 36 b = o ++ [Puny.digB x] by rw [I2, hL hlt])
      obtain ⟨u, hu⟩ : ∃ u, u = Puny.digB x := ⟨_, rfl⟩
      rw [← hu] at KD T
      have hub : u.toNat < 256 := u.toNat_lt
      have hnl : ¬ t ≤ x := by omega
      clear hL hM hu I2
      go_wp2_with fail
      refine (KD.out _).mono ?_
      rintro e w2 ⟨rfl, rfl⟩
      go_wp2_with (at_builtin; refine append_lit wr 42 5 (.int .u8 0) 1 Try.underlying42 info_u8 rfl (by omega) base _ _ _ IO.out hBS.out hle 1 (by omega) _ rfl rfl _ rfl rfl _ _ rfl rfl rfl ?_; intro v3 w3 ho3 hg3; have HO3 := Lib.hid ho3; have HG3 := Lib.hid hg3; clear ho3 hg3)
      go_ret
      refine ⟨_, rfl, ?_, IG.out.trans HG3.out⟩
      rw [T.out, ← List.append_assoc]
      exact OwnB.more HO3.out rfl rfl
    · have hge : t ≤ x := by omega
      obtain ⟨q0, q1⟩ := Puny.less x t t0 t1 hge
      obtain ⟨p1, p2, p3⟩ := Puny.parts x t t0 t1
      have KD := Lib.hid (fun W => digP_any (t + (x - t) % (36 - t)) W (by omega))
      obtain ⟨u, hu⟩ : ∃ u, u = Puny.digB (t + (x - t) % (36 - t)) := ⟨_, rfl⟩
      have T := Lib.hid (show Puny.digitsB n 36 b = (o ++ [u]) ++ Puny.digitsB ((x - t) / (36 - t)) (k + 36) b by rw [I2, hM hge, hu, List.append_assoc]; rfl)
      rw [← hu] at KD
      have hub : u.toNat < 256 := u.toNat_lt
      obtain ⟨r, hr⟩ : ∃ r, (x - t) % (36 - t) = r := ⟨_, rfl⟩
      obtain ⟨q, hq⟩ : ∃ q, (x - t) / (36 - t) = q := ⟨_, rfl⟩
      rw [hr] at KD p2 p3
      rw [hq] at T q0 q1
      have r0 : 0 ≤ r := by omega
      have r1 : t + r ≤ 35 := by omega
      have q2 : q < x := by omega
      clear hL hM hu p1 p2 p3 q1 I2
      go_wp2_with fail
      refine (KD.out _).mono ?_
      rintro e w2 ⟨rfl, rfl⟩
      go_wp2_with (first
        | (at_builtin; refine append_lit wr 42 5 (.int .u8 0) 1 Try.underlying42 info_u8 rfl (by omega) base _ _ _ IO.out hBS.out hle 1 (by omega) _ rfl rfl _ rfl rfl _ _ rfl rfl rfl ?_; intro v3 w3 ho3 hg3; have HO3 := Lib.hid ho3; have HG3 := Lib.hid hg3; clear ho3 hg3)
        | (go_at_call 42; refine (KT.out _).mono ?_; rintro e w4 ⟨rfl, rfl⟩))
      go_roundg (x.toNat)
      case measure => omega
      case rel => exact ⟨q, k + 36, rfl, rfl, rfl, q0, by omega, by omega, by omega, ⟨o ++ [u], by rw [← List.append_assoc]; exact OwnB.more HO3.out rfl rfl, T.out, IG.out.trans HG3.out⟩⟩
end Go.Proofs.Ytkgikkdgfhonlaa
