/-
  Proved here: the document's own 'Digit', 'Value', 'Adapt', 'threshold' and 'digits' of layer 5. Conditions: as they stand in each.
-/
import Derived.Test.YtkgikkdgfhonlaaUtfRefStr
import Derived.Test.YtkgikkdgfhonlaaPunyDigits
import Derived.Deep.LoopGhost
namespace Go.Proofs.Ytkgikkdgfhonlaa
open Go.RowKit
namespace Puny
/-- The byte of a digit. -/
def digN (n : Int) : Int := if n < 26 then 97 + n else 22 + n
/-- The number of a byte. -/
def valOf (n : Int) : Option Int := if 97 ≤ n ∧ n ≤ 122 then some (n - 97) else if 65 ≤ n ∧ n ≤ 90 then some (n - 65) else if 48 ≤ n ∧ n ≤ 57 then some (n - 48 + 26) else none
def adLoop : Nat → Int → Int → Int
  | 0, d, k => k + 36 * d / (d + 38)
  | f + 1, d, k => if 455 < d then adLoop f (d / 35) (k + 36) else k + 36 * d / (d + 38)
theorem adLoop_fuel : ∀ (f g : Nat) (d k : Int), 0 ≤ d → d.toNat ≤ f → d.toNat ≤ g → adLoop f d k = adLoop g d k
  | 0, 0, _, _, _, _, _ => rfl
  | 0, g + 1, d, k, h0, hf, _ => by unfold adLoop; rw [if_neg (by omega)]
  | f + 1, 0, d, k, h0, _, hg => by unfold adLoop; rw [if_neg (by omega)]
  | f + 1, g + 1, d, k, h0, hf, hg => by
    unfold adLoop
    split
    · exact adLoop_fuel f g _ _ (by omega) (by omega) (by omega)
    · rfl
def bend (d k : Int) : Int := adLoop d.toNat d k
theorem bend_more {d k : Int} (h : 455 < d) : bend d k = bend (d / 35) (k + 36) := by
  unfold bend
  obtain ⟨f, hf⟩ : ∃ f, d.toNat = f + 1 := ⟨d.toNat - 1, by omega⟩
  rw [hf, adLoop, if_pos h]
  exact adLoop_fuel _ _ _ _ (by omega) (by omega) (by omega)
theorem bend_last {d k : Int} (h : ¬ 455 < d) : bend d k = k + 36 * d / (d + 38) := by
  unfold bend
  cases d.toNat with
  | zero => rfl
  | succ f => rw [adLoop, if_neg h]
def adapt (delta count : Int) (first : Bool) : Int := bend ((if first then delta / 700 else delta / 2) + (if first then delta / 700 else delta / 2) / count) 0
end Puny
set_option maxHeartbeats 4000000 in
set_option maxRecDepth 100000 in
theorem digit5_any (n : Int) (w : World) (h : 0 ≤ n ∧ n ≤ 35) : Calls Try.prog 11 #[.int .i64 n] w fun e w' => e = .returned (.tuple #[.int .u8 (Puny.digN n), .bool true]) ∧ w = w' := by
  have cs : n = 0 ∨ n = 1 ∨ n = 2 ∨ n = 3 ∨ n = 4 ∨ n = 5 ∨ n = 6 ∨ n = 7 ∨ n = 8 ∨ n = 9 ∨ n = 10 ∨ n = 11 ∨ n = 12 ∨ n = 13 ∨ n = 14 ∨ n = 15 ∨ n = 16 ∨ n = 17 ∨ n = 18 ∨ n = 19 ∨ n = 20 ∨ n = 21 ∨ n = 22 ∨ n = 23 ∨ n = 24 ∨ n = 25 ∨ n = 26 ∨ n = 27 ∨ n = 28 ∨ n = 29 ∨ n = 30 ∨ n = 31 ∨ n = 32 ∨ n = 33 ∨ n = 34 ∨ n = 35 := by omega
  rcases cs with rfl | rfl | rfl | rfl | rfl | rfl | rfl | rfl | rfl | rfl | rfl | rfl | rfl | rfl | rfl | rfl | rfl | rfl | rfl | rfl | rfl | rfl | rfl | rfl | rfl | rfl | rfl | rfl | rfl | rfl | rfl | rfl | rfl | rfl | rfl | rfl
  all_goals
    clear h
    go_enter Try.func11, Try.ntmps11
    go_wp2
    go_ret2
    exact ⟨rfl, rfl⟩
set_option maxHeartbeats 2000000 in
set_option maxRecDepth 100000 in
theorem value5_any (n : Int) (w : World) (h : 0 ≤ n ∧ n ≤ 255) : Calls Try.prog 13 #[.int .u8 n] w fun e w' => e = .returned (.tuple #[.int .i64 ((Puny.valOf n).getD 0), .bool (Puny.valOf n).isSome]) ∧ w = w' := by
  obtain ⟨h0, h1⟩ := h
  go_enter Try.func13, Try.ntmps13
  go_wp2
  all_goals
    go_ret2
    refine ⟨?_, rfl⟩
    unfold Puny.valOf
    first
      | (rw [if_pos (by omega)]; rfl)
      | (rw [if_neg (by omega), if_pos (by omega)]; rfl)
      | (rw [if_neg (by omega), if_neg (by omega), if_pos (by omega)]; rfl)
      | (rw [if_neg (by omega), if_neg (by omega), if_neg (by omega)]; rfl)
set_option maxHeartbeats 1000000 in
set_option maxRecDepth 100000 in
theorem thr5_any (k b : Int) (w : World) (h : -1000000000000 ≤ k ∧ k ≤ 1000000000000 ∧ -1000000000000 ≤ b ∧ b ≤ 1000000000000) : Calls Try.prog 40 #[.int .i64 k, .int .i64 b] w fun e w' => e = .returned (.int .i64 (Puny.thr k b)) ∧ w = w' := by
  obtain ⟨h0, h1, h2, h3⟩ := h
  go_enter Try.func40, Try.ntmps40
  go_wp2
  all_goals
    go_ret
    refine ⟨?_, rfl⟩
    unfold Puny.thr
    first
      | (rw [show max 1 (min 26 (k - b)) = k - b by omega]; rfl)
      | (rw [show max 1 (min 26 (k - b)) = 26 by omega]; rfl)
      | (rw [show max 1 (min 26 (k - b)) = 1 by omega]; rfl)
set_option maxHeartbeats 2000000 in
set_option maxRecDepth 100000 in
theorem adapt5_any (delta count : Int) (first : Bool) (w : World) (hd : 0 ≤ delta ∧ delta ≤ 2147483647) (hc : 1 ≤ count ∧ count ≤ 9223372036854775807) : Calls Try.prog 15 #[.int .i64 delta, .int .i64 count, .bool first] w fun e w' => e = .returned (.int .i64 (Puny.adapt delta count first)) ∧ w = w' := by
  obtain ⟨d0, d1⟩ := hd
  obtain ⟨c0, c1⟩ := hc
  unfold Puny.adapt
  obtain ⟨d, hdd⟩ : ∃ d, d = (if first then delta / 700 else delta / 2) := ⟨_, rfl⟩
  rw [← hdd]
  have hb : 0 ≤ d ∧ d ≤ 2147483647 := by rw [hdd]; split <;> omega
  have hq0 : 0 ≤ d / count := Int.ediv_nonneg hb.1 (by omega)
  have hq1 : d / count ≤ d := Int.ediv_le_self _ hb.1
  obtain ⟨q, hq⟩ : ∃ q, d / count = q := ⟨_, rfl⟩
  rw [hq]
  rw [hq] at hq0 hq1
  obtain ⟨b0, b1⟩ := hb
  have HDD := Lib.hid hdd
  cases first
  all_goals
    simp only [Bool.false_eq_true, if_false, if_true] at hdd
    have hdd' := hdd.symm
    clear hdd HDD
    go_enter Try.func15, Try.ntmps15
    go_wp2
    go_loopg [7, 8] ((d + q).toNat + 1) (fun gk s7 s8 wr => ∃ x y : Int, s7 = .int .i64 x ∧ s8 = .int .i64 y ∧ 0 ≤ x ∧ 0 ≤ y ∧ x + y ≤ 4294967294 ∧ x.toNat < gk ∧ Hid (Puny.bend (d + q) 0 = Puny.bend x y ∧ w = wr))
    case atStart => exact ⟨d + q, 0, rfl, rfl, by omega, by omega, by omega, by omega, ⟨rfl, rfl⟩⟩
    case round =>
      obtain ⟨x, y, rfl, rfl, hx, hy, hxy, hg, I⟩ := hrel
      by_cases hlt : 455 < x
      · have J : Hid (Puny.bend (d + q) 0 = Puny.bend (x / 35) (y + 36) ∧ w = wr) := ⟨by rw [I.out.1, Puny.bend_more hlt], I.out.2⟩
        clear I
        go_wp2
        go_roundg (x.toNat)
        case measure => omega
        case rel => exact ⟨x / 35, y + 36, rfl, rfl, by omega, by omega, by omega, by omega, J⟩
      · have R := Lib.hid (show Puny.bend (d + q) 0 = y + 36 * x / (x + 38) by rw [I.out.1, Puny.bend_last hlt])
        have hlt' : x ≤ 455 := by omega
        have hq2 : 0 ≤ 36 * x / (x + 38) ∧ 36 * x / (x + 38) ≤ 36 * x := ⟨Int.ediv_nonneg (by omega) (by omega), Int.ediv_le_self _ (by omega)⟩
        obtain ⟨z, hz⟩ : ∃ z, 36 * x / (x + 38) = z := ⟨_, rfl⟩
        rw [hz] at hq2 R
        obtain ⟨z0, z1⟩ := hq2
        clear hlt
        go_wp2
        go_ret
        exact ⟨by rw [R.out]; rfl, I.out.2⟩
namespace Puny
def digB (n : Int) : UInt8 := UInt8.ofNat (digN n).toNat
theorem digB_val {n : Int} (h : 0 ≤ n ∧ n ≤ 35) : ((digB n).toNat : Int) = digN n := by
  have h1 : 0 ≤ digN n ∧ digN n < 256 := by unfold digN; split <;> omega
  unfold digB
  rw [UInt8.toNat_ofNat', Nat.mod_eq_of_lt (by show (digN n).toNat < 256; omega)]
  omega
/-- A number in digits, as bytes. -/
def digitsB (n k b : Int) : List UInt8 := (digits n k b).map digB
theorem digitsB_last {n k b : Int} (h : n < thr k b) : digitsB n k b = [digB n] := by unfold digitsB; rw [digits_last h]; rfl
theorem digitsB_more {n k b : Int} (h : thr k b ≤ n) : digitsB n k b = digB (thr k b + (n - thr k b) % (36 - thr k b)) :: digitsB ((n - thr k b) / (36 - thr k b)) (k + 36) b := by unfold digitsB; rw [digits_more h]; rfl
end Puny
theorem byte_conv (W : World) (u : UInt8) : (convert 42 9 (.slice (some ⟨W.heap.size, 0, none⟩) 1 1)).run Try.prog (W.alloc (.cells #[.int .u8 (u.toNat : Int)] 5)) = .ok (.string ⟨#[u]⟩) (W.alloc (.cells #[.int .u8 (u.toNat : Int)] 5)) :=
  string_of (bytes_lit W [byteV u] [u] rfl 1 rfl)
theorem bytes_is {S : ByteArray} {l : List UInt8} (h : S.data.toList = l) : S = ⟨l.toArray⟩ := by
  cases S with
  | mk d => subst h; simp
theorem more_size (S : ByteArray) (u : UInt8) : (S ++ (⟨#[u]⟩ : ByteArray)).size = S.size + 1 := by rw [ByteArray.size_append]; rfl
theorem more_bytes (S : ByteArray) (u : UInt8) : (S ++ (⟨#[u]⟩ : ByteArray)).data.toList = S.data.toList ++ [u] := by
  rw [ByteArray.data_append, Array.toList_append]
set_option maxHeartbeats 4000000 in
set_option maxRecDepth 100000 in
theorem digits5_any (n b : Int) (w : World) (hn : 0 ≤ n ∧ n ≤ 2147483647) (hb : 0 ≤ b ∧ b ≤ 100000000000) :
    Calls Try.prog 29 #[.int .i64 n, .int .i64 b] w fun e w' => e = .returned (.string ⟨(Puny.digitsB n 36 b).toArray⟩) ∧ Below w.heap.size w w' := by
  obtain ⟨n0, n1⟩ := hn
  obtain ⟨b0, b1⟩ := hb
  go_enter Try.func29, Try.ntmps29
  go_wp2
  go_loopg [0, 5, 6, 7, 8, 9, 10, 11] (n.toNat + 1) (fun gk s0 s5 s6 _ _ _ _ _ wr => ∃ (x k : Int) (S : ByteArray), s0 = .int .i64 x ∧ s5 = .string S ∧ s6 = .int .i64 k ∧ 0 ≤ x ∧ 36 ≤ k ∧ k + 36 * x ≤ 36 + 36 * n ∧ (S.size : Int) + x ≤ n ∧ x.toNat < gk ∧ Hid (Puny.digitsB n 36 b = S.data.toList ++ Puny.digitsB x k b ∧ Below w.heap.size w wr))
  case atStart => exact ⟨n, 36, ⟨#[]⟩, rfl, rfl, rfl, n0, by omega, by omega, by show ((0 : Nat) : Int) + n ≤ n; omega, by omega, ⟨rfl, Below.refl _ _⟩⟩
  case round =>
    obtain ⟨x, k, S, rfl, rfl, rfl, hx, hk, hkx, hS, hg, I⟩ := hrel
    have KT := Lib.hid (thr5_any k b wr (by omega))
    have ht := Puny.thr_bd k b
    have hL := fun h => Puny.digitsB_last (n := x) (k := k) (b := b) h
    have hM := fun h => Puny.digitsB_more (n := x) (k := k) (b := b) h
    generalize Puny.thr k b = t at KT ht hL hM
    obtain ⟨t0, t1⟩ := ht
    by_cases hlt : x < t
    · have KD := Lib.hid (fun W => digit5_any x W (by omega))
      rw [← Puny.digB_val (show 0 ≤ x ∧ x ≤ 35 by omega)] at KD
      have T := Lib.hid (show Puny.digitsB n 36 b = S.data.toList ++ [Puny.digB x] by rw [I.out.1, hL hlt])
      obtain ⟨u, hu⟩ : ∃ u, u = Puny.digB x := ⟨_, rfl⟩
      rw [← hu] at KD T
      clear hL hM hu
      go_wp2_with fail
      refine KT.out.mono ?_
      rintro e w1 ⟨rfl, rfl⟩
      go_wp2_with fail
      refine (KD.out _).mono ?_
      rintro e w2 ⟨rfl, rfl⟩
      have hconv := byte_conv wr u
      go_wp2
      go_ret
      refine ⟨?_, I.out.2.alloc I.out.2.size _⟩
      rw [T.out]
      show Ending.returned (.string (S ++ (⟨#[u]⟩ : ByteArray))) = _
      rw [bytes_is (more_bytes S u)]
    · have hge : t ≤ x := by omega
      obtain ⟨q0, q1⟩ := Puny.less x t t0 t1 hge
      obtain ⟨p1, p2, p3⟩ := Puny.parts x t t0 t1
      have KD := Lib.hid (fun W => digit5_any (t + (x - t) % (36 - t)) W (by omega))
      rw [← Puny.digB_val (show 0 ≤ t + (x - t) % (36 - t) ∧ t + (x - t) % (36 - t) ≤ 35 by omega)] at KD
      obtain ⟨u, hu⟩ : ∃ u, u = Puny.digB (t + (x - t) % (36 - t)) := ⟨_, rfl⟩
      have T := Lib.hid (show Puny.digitsB n 36 b = (S.data.toList ++ [u]) ++ Puny.digitsB ((x - t) / (36 - t)) (k + 36) b by rw [I.out.1, hM hge, hu, List.append_assoc]; rfl)
      rw [← hu] at KD
      obtain ⟨r, hr⟩ : ∃ r, (x - t) % (36 - t) = r := ⟨_, rfl⟩
      obtain ⟨q, hq⟩ : ∃ q, (x - t) / (36 - t) = q := ⟨_, rfl⟩
      rw [hr] at KD p2 p3
      rw [hq] at T q0 q1
      have r0 : 0 ≤ r := by omega
      have r1 : t + r ≤ 35 := by omega
      have q2 : q < x := by omega
      clear hL hM hu p1 p2 p3 q1
      have hnl : ¬ x < t := hlt
      go_wp2_with fail
      refine KT.out.mono ?_
      rintro e w1 ⟨rfl, rfl⟩
      go_wp2_with fail
      refine (KD.out _).mono ?_
      rintro e w2 ⟨rfl, rfl⟩
      have hconv := byte_conv wr u
      have J : Hid (Puny.digitsB n 36 b = (S ++ (⟨#[u]⟩ : ByteArray)).data.toList ++ Puny.digitsB q (k + 36) b ∧ Below w.heap.size w (wr.alloc (.cells #[.int .u8 (u.toNat : Int)] 5))) :=
        ⟨by rw [more_bytes]; exact T.out, I.out.2.alloc I.out.2.size _⟩
      clear I KT KD
      go_wp2
      go_roundg (x.toNat)
      case measure => omega
      case rel => exact ⟨q, k + 36, S ++ ⟨#[u]⟩, by rw [hq], rfl, rfl, q0, by omega, by omega, by rw [more_size]; omega, by omega, J⟩
end Go.Proofs.Ytkgikkdgfhonlaa
