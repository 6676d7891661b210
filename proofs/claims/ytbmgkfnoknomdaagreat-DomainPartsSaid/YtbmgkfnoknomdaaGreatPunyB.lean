/-
  Proved here: the document's own 'Digit', 'Value', 'Adapt', 'threshold' and 'digits' of layer 5. Conditions: as they stand in each.
  Proved here: the document's own 'Encode' of layer 5. Conditions: the slice can be read, and holds at most 420 numbers.
  Proved here: the document's own 'number' of layer 5: a number in digits that bytes begin with. Conditions: as they stand in each.
  Proved here: the document's own 'Decode' of layer 5: the characters that bytes tell. Conditions: as they stand in each.
  Proved here: the document's own 'Decode' of layer 5, walked. Conditions: the string has at most 1,000 bytes.
  PLAIN: what is encoded is decoded as it was, and what is decoded is encoded so, but for the case of digits. Conditions: as they stand in each.
  PLAIN: Encode and Decode, by bytes, tell of each other. Conditions: as they stand in each.
-/
import Derived.Test.YtbmgkfnoknomdaaGreatUtfA
import Derived.Test.YtbmgkfnoknomdaaGreatPunyA
import Derived.Deep.LoopGhost
import Derived.Test.YtbmgkfnoknomdaaGreatUtfRow
namespace Go.Proofs.YtbmgkfnoknomdaaGreat
open Go.RowKit
namespace Puny
/-- The byte of a digit. -/
def digN (n : Int) : Int := if n < 26 then 97 + n else 22 + n
/-- The number of a byte. -/
def valOf (n : Int) : Option Int := if 97 ≤ n ∧ n ≤ 122 then some (n - 97) else if 65 ≤ n ∧ n ≤ 90 then some (n - 65) else if 48 ≤ n ∧ n ≤ 57 then some (n - 48 + 26) else none
def adLoop : Nat → Int → Int → Int
  | 0, d, k => k + 36 * d / (d + 38)
  | f + 1, d, k => if 455 < d then adLoop f (d / 35) (k + 36) else k + 36 * d / (d + 38)
theorem adLoop_fuel : ∀ (f g : Nat) (d k : Int), 0 ≤ d → d.toNat ≤ f → d.toNat ≤ g → adLoop f d k = adLoop g d k
  | 0, 0, _, _, _, _, _ => rfl
  | 0, g + 1, d, k, h0, hf, _ => by unfold adLoop; rw [if_neg (by omega)]
  | f + 1, 0, d, k, h0, _, hg => by unfold adLoop; rw [if_neg (by omega)]
  | f + 1, g + 1, d, k, h0, hf, hg => by
    unfold adLoop
    split
    · exact adLoop_fuel f g _ _ (by omega) (by omega) (by omega)
    · rfl
def bend (d k : Int) : Int := adLoop d.toNat d k
theorem bend_more {d k : Int} (h : 455 < d) : bend d k = bend (d / 35) (k + 36) := by
  unfold bend
  obtain ⟨f, hf⟩ : ∃ f, d.toNat = f + 1 := ⟨d.toNat - 1, by omega⟩
  rw [hf, adLoop, if_pos h]
  exact adLoop_fuel _ _ _ _ (by omega) (by omega) (by omega)
theorem bend_last {d k : Int} (h : ¬ 455 < d) : bend d k = k + 36 * d / (d + 38) := by
  unfold bend
  cases d.toNat with
  | zero => rfl
  | succ f => rw [adLoop, if_neg h]
def adapt (delta count : Int) (first : Bool) : Int := bend ((if first then delta / 700 else delta / 2) + (if first then delta / 700 else delta / 2) / count) 0
end Puny
set_option maxHeartbeats 4000000 in
set_option maxRecDepth 100000 in
theorem digit5_any (n : Int) (w : World) (h : 0 ≤ n ∧ n ≤ 35) : Calls Tryz.prog 116 #[.int .i64 n] w fun e w' => e = .returned (.tuple #[.int .u8 (Puny.digN n), .bool true]) ∧ w = w' := by
  have cs : n = 0 ∨ n = 1 ∨ n = 2 ∨ n = 3 ∨ n = 4 ∨ n = 5 ∨ n = 6 ∨ n = 7 ∨ n = 8 ∨ n = 9 ∨ n = 10 ∨ n = 11 ∨ n = 12 ∨ n = 13 ∨ n = 14 ∨ n = 15 ∨ n = 16 ∨ n = 17 ∨ n = 18 ∨ n = 19 ∨ n = 20 ∨ n = 21 ∨ n = 22 ∨ n = 23 ∨ n = 24 ∨ n = 25 ∨ n = 26 ∨ n = 27 ∨ n = 28 ∨ n = 29 ∨ n = 30 ∨ n = 31 ∨ n = 32 ∨ n = 33 ∨ n = 34 ∨ n = 35 := by omega
  rcases cs with rfl | rfl | rfl | rfl | rfl | rfl | rfl | rfl | rfl | rfl | rfl | rfl | rfl | rfl | rfl | rfl | rfl | rfl | rfl | rfl | rfl | rfl | rfl | rfl | rfl | rfl | rfl | rfl | rfl | rfl | rfl | rfl | rfl | rfl | rfl | rfl
  all_goals
    clear h
    go_enter Tryz.func116, Tryz.ntmps116
    go_wp2
    go_ret2
    exact ⟨rfl, rfl⟩
set_option maxHeartbeats 2000000 in
set_option maxRecDepth 100000 in
theorem value5_any (n : Int) (w : World) (h : 0 ≤ n ∧ n ≤ 255) : Calls Tryz.prog 117 #[.int .u8 n] w fun e w' => e = .returned (.tuple #[.int .i64 ((Puny.valOf n).getD 0), .bool (Puny.valOf n).isSome]) ∧ w = w' := by
  obtain ⟨h0, h1⟩ := h
  go_enter Tryz.func117, Tryz.ntmps117
  go_wp2
  all_goals
    go_ret2
    refine ⟨?_, rfl⟩
    unfold Puny.valOf
    first
      | (rw [if_pos (by omega)]; rfl)
      | (rw [if_neg (by omega), if_pos (by omega)]; rfl)
      | (rw [if_neg (by omega), if_neg (by omega), if_pos (by omega)]; rfl)
      | (rw [if_neg (by omega), if_neg (by omega), if_neg (by omega)]; rfl)
set_option maxHeartbeats 1000000 in
set_option maxRecDepth 100000 in
theorem thr5_any (k b : Int) (w : World) (h : -1000000000000 ≤ k ∧ k ≤ 1000000000000 ∧ -1000000000000 ≤ b ∧ b ≤ 1000000000000) : Calls Tryz.prog 115 #[.int .i64 k, .int .i64 b] w fun e w' => e = .returned (.int .i64 (Puny.thr k b)) ∧ w = w' := by
  obtain ⟨h0, h1, h2, h3⟩ := h
  go_enter Tryz.func115, Tryz.ntmps115
  go_wp2
  all_goals
    go_ret
    refine ⟨?_, rfl⟩
    unfold Puny.thr
    first
      | (rw [show max 1 (min 26 (k - b)) = k - b by omega]; rfl)
      | (rw [show max 1 (min 26 (k - b)) = 26 by omega]; rfl)
      | (rw [show max 1 (min 26 (k - b)) = 1 by omega]; rfl)
set_option maxHeartbeats 2000000 in
set_option maxRecDepth 100000 in
theorem adapt5_any (delta count : Int) (first : Bool) (w : World) (hd : 0 ≤ delta ∧ delta ≤ 2147483647) (hc : 1 ≤ count ∧ count ≤ 9223372036854775807) : Calls Tryz.prog 79 #[.int .i64 delta, .int .i64 count, .bool first] w fun e w' => e = .returned (.int .i64 (Puny.adapt delta count first)) ∧ w = w' := by
  obtain ⟨d0, d1⟩ := hd
  obtain ⟨c0, c1⟩ := hc
  unfold Puny.adapt
  obtain ⟨d, hdd⟩ : ∃ d, d = (if first then delta / 700 else delta / 2) := ⟨_, rfl⟩
  rw [← hdd]
  have hb : 0 ≤ d ∧ d ≤ 2147483647 := by rw [hdd]; split <;> omega
  have hq0 : 0 ≤ d / count := Int.ediv_nonneg hb.1 (by omega)
  have hq1 : d / count ≤ d := Int.ediv_le_self _ hb.1
  obtain ⟨q, hq⟩ : ∃ q, d / count = q := ⟨_, rfl⟩
  rw [hq]
  rw [hq] at hq0 hq1
  obtain ⟨b0, b1⟩ := hb
  have HDD := Lib.hid hdd
  cases first
  all_goals
    simp only [Bool.false_eq_true, if_false, if_true] at hdd
    have hdd' := hdd.symm
    clear hdd HDD
    go_enter Tryz.func79, Tryz.ntmps79
    go_wp2
    go_loopg [7, 8] ((d + q).toNat + 1) (fun gk s7 s8 wr => ∃ x y : Int, s7 = .int .i64 x ∧ s8 = .int .i64 y ∧ 0 ≤ x ∧ 0 ≤ y ∧ x + y ≤ 4294967294 ∧ x.toNat < gk ∧ Hid (Puny.bend (d + q) 0 = Puny.bend x y ∧ w = wr))
    case atStart => exact ⟨d + q, 0, rfl, rfl, by omega, by omega, by omega, by omega, ⟨rfl, rfl⟩⟩
    case round =>
      obtain ⟨x, y, rfl, rfl, hx, hy, hxy, hg, I⟩ := hrel
      by_cases hlt : 455 < x
      · have J : Hid (Puny.bend (d + q) 0 = Puny.bend (x / 35) (y + 36) ∧ w = wr) := ⟨by rw [I.out.1, Puny.bend_more hlt], I.out.2⟩
        clear I
        go_wp2
        go_roundg (x.toNat)
        case measure => omega
        case rel => exact ⟨x / 35, y + 36, rfl, rfl, by omega, by omega, by omega, by omega, J⟩
      · have R := Lib.hid (show Puny.bend (d + q) 0 = y + 36 * x / (x + 38) by rw [I.out.1, Puny.bend_last hlt])
        have hlt' : x ≤ 455 := by omega
        have hq2 : 0 ≤ 36 * x / (x + 38) ∧ 36 * x / (x + 38) ≤ 36 * x := ⟨Int.ediv_nonneg (by omega) (by omega), Int.ediv_le_self _ (by omega)⟩
        obtain ⟨z, hz⟩ : ∃ z, 36 * x / (x + 38) = z := ⟨_, rfl⟩
        rw [hz] at hq2 R
        obtain ⟨z0, z1⟩ := hq2
        clear hlt
        go_wp2
        go_ret
        exact ⟨by rw [R.out]; rfl, I.out.2⟩
namespace Puny
def digB (n : Int) : UInt8 := UInt8.ofNat (digN n).toNat
theorem digB_val {n : Int} (h : 0 ≤ n ∧ n ≤ 35) : ((digB n).toNat : Int) = digN n := by
  have h1 : 0 ≤ digN n ∧ digN n < 256 := by unfold digN; split <;> omega
  unfold digB
  rw [UInt8.toNat_ofNat', Nat.mod_eq_of_lt (by show (digN n).toNat < 256; omega)]
  omega
/-- A number in digits, as bytes. -/
def digitsB (n k b : Int) : List UInt8 := (digits n k b).map digB
theorem digitsB_last {n k b : Int} (h : n < thr k b) : digitsB n k b = [digB n] := by unfold digitsB; rw [digits_last h]; rfl
theorem digitsB_more {n k b : Int} (h : thr k b ≤ n) : digitsB n k b = digB (thr k b + (n - thr k b) % (36 - thr k b)) :: digitsB ((n - thr k b) / (36 - thr k b)) (k + 36) b := by unfold digitsB; rw [digits_more h]; rfl
end Puny
theorem byte_conv (W : World) (u : UInt8) : (convert 76 9 (.slice (some ⟨W.heap.size, 0, none⟩) 1 1)).run Tryz.prog (W.alloc (.cells #[.int .u8 (u.toNat : Int)] 5)) = .ok (.string ⟨#[u]⟩) (W.alloc (.cells #[.int .u8 (u.toNat : Int)] 5)) :=
  string_of (bytes_lit W [byteV u] [u] rfl 1 rfl)
theorem bytes_is {S : ByteArray} {l : List UInt8} (h : S.data.toList = l) : S = ⟨l.toArray⟩ := by
  cases S with
  | mk d => subst h; simp
theorem more_size (S : ByteArray) (u : UInt8) : (S ++ (⟨#[u]⟩ : ByteArray)).size = S.size + 1 := by rw [ByteArray.size_append]; rfl
theorem more_bytes (S : ByteArray) (u : UInt8) : (S ++ (⟨#[u]⟩ : ByteArray)).data.toList = S.data.toList ++ [u] := by
  rw [ByteArray.data_append, Array.toList_append]
set_option maxHeartbeats 4000000 in
set_option maxRecDepth 100000 in
theorem digits5_any (n b : Int) (w : World) (hn : 0 ≤ n ∧ n ≤ 2147483647) (hb : 0 ≤ b ∧ b ≤ 100000000000) :
    Calls Tryz.prog 78 #[.int .i64 n, .int .i64 b] w fun e w' => e = .returned (.string ⟨(Puny.digitsB n 36 b).toArray⟩) ∧ Below w.heap.size w w' := by
  obtain ⟨n0, n1⟩ := hn
  obtain ⟨b0, b1⟩ := hb
  go_enter Tryz.func78, Tryz.ntmps78
  go_wp2
  go_loopg [0, 5, 6, 7, 8, 9, 10, 11] (n.toNat + 1) (fun gk s0 s5 s6 _ _ _ _ _ wr => ∃ (x k : Int) (S : ByteArray), s0 = .int .i64 x ∧ s5 = .string S ∧ s6 = .int .i64 k ∧ 0 ≤ x ∧ 36 ≤ k ∧ k + 36 * x ≤ 36 + 36 * n ∧ (S.size : Int) + x ≤ n ∧ x.toNat < gk ∧ Hid (Puny.digitsB n 36 b = S.data.toList ++ Puny.digitsB x k b ∧ Below w.heap.size w wr))
  case atStart => exact ⟨n, 36, ⟨#[]⟩, rfl, rfl, rfl, n0, by omega, by omega, by show ((0 : Nat) : Int) + n ≤ n; omega, by omega, ⟨rfl, Below.refl _ _⟩⟩
  case round =>
    obtain ⟨x, k, S, rfl, rfl, rfl, hx, hk, hkx, hS, hg, I⟩ := hrel
    have KT := Lib.hid (thr5_any k b wr (by omega))
    have ht := Puny.thr_bd k b
    have hL := fun h => Puny.digitsB_last (n := x) (k := k) (b := b) h
    have hM := fun h => Puny.digitsB_more (n := x) (k := k) (b := b) h
    generalize Puny.thr k b = t at KT ht hL hM
    obtain ⟨t0, t1⟩ := ht
    by_cases hlt : x < t
    · have KD := Lib.hid (fun W => digit5_any x W (by omega))
      rw [← Puny.digB_val (show 0 ≤ x ∧ x ≤ 35 by omega)] at KD
      have T := Lib.hid (show Puny.digitsB n 36 b = S.data.toList ++ [Puny.digB x] by rw [I.out.1, hL hlt])
      obtain ⟨u, hu⟩ : ∃ u, u = Puny.digB x := ⟨_, rfl⟩
      rw [← hu] at KD T
      clear hL hM hu
      go_wp2_with fail
      refine KT.out.mono ?_
      rintro e w1 ⟨rfl, rfl⟩
      go_wp2_with fail
      refine (KD.out _).mono ?_
      rintro e w2 ⟨rfl, rfl⟩
      have hconv := byte_conv wr u
      go_wp2
      go_ret
      refine ⟨?_, I.out.2.alloc I.out.2.size _⟩
      rw [T.out]
      show Ending.returned (.string (S ++ (⟨#[u]⟩ : ByteArray))) = _
      rw [bytes_is (more_bytes S u)]
    · have hge : t ≤ x := by omega
      obtain ⟨q0, q1⟩ := Puny.less x t t0 t1 hge
      obtain ⟨p1, p2, p3⟩ := Puny.parts x t t0 t1
      have KD := Lib.hid (fun W => digit5_any (t + (x - t) % (36 - t)) W (by omega))
      rw [← Puny.digB_val (show 0 ≤ t + (x - t) % (36 - t) ∧ t + (x - t) % (36 - t) ≤ 35 by omega)] at KD
      obtain ⟨u, hu⟩ : ∃ u, u = Puny.digB (t + (x - t) % (36 - t)) := ⟨_, rfl⟩
      have T := Lib.hid (show Puny.digitsB n 36 b = (S.data.toList ++ [u]) ++ Puny.digitsB ((x - t) / (36 - t)) (k + 36) b by rw [I.out.1, hM hge, hu, List.append_assoc]; rfl)
      rw [← hu] at KD
      obtain ⟨r, hr⟩ : ∃ r, (x - t) % (36 - t) = r := ⟨_, rfl⟩
      obtain ⟨q, hq⟩ : ∃ q, (x - t) / (36 - t) = q := ⟨_, rfl⟩
      rw [hr] at KD p2 p3
      rw [hq] at T q0 q1
      have r0 : 0 ≤ r := by omega
      have r1 : t + r ≤ 35 := by omega
      have q2 : q < x := by omega
      clear hL hM hu p1 p2 p3 q1
      have hnl : ¬ x < t := hlt
      go_wp2_with fail
      refine KT.out.mono ?_
      rintro e w1 ⟨rfl, rfl⟩
      go_wp2_with fail
      refine (KD.out _).mono ?_
      rintro e w2 ⟨rfl, rfl⟩
      have hconv := byte_conv wr u
      have J : Hid (Puny.digitsB n 36 b = (S ++ (⟨#[u]⟩ : ByteArray)).data.toList ++ Puny.digitsB q (k + 36) b ∧ Below w.heap.size w (wr.alloc (.cells #[.int .u8 (u.toNat : Int)] 5))) :=
        ⟨by rw [more_bytes]; exact T.out, I.out.2.alloc I.out.2.size _⟩
      clear I KT KD
      go_wp2
      go_roundg (x.toNat)
      case measure => omega
      case rel => exact ⟨q, k + 36, S ++ ⟨#[u]⟩, by rw [hq], rfl, rfl, q0, by omega, by omega, by rw [more_size]; omega, by omega, J⟩
end Go.Proofs.YtbmgkfnoknomdaaGreat
namespace Go.Proofs.YtbmgkfnoknomdaaGreat
open Go.RowKit Utf
namespace Puny
theorem adLoop_bd : ∀ (f : Nat) (d k : Int), 0 ≤ d → k ≤ adLoop f d k ∧ adLoop f d k ≤ k + d + 36
  | 0, d, k, h => by
    have h1 : 0 ≤ 36 * d / (d + 38) := Int.ediv_nonneg (by omega) (by omega)
    have h2 : 36 * d / (d + 38) ≤ 36 := by
      have := Int.ediv_le_ediv (c := d + 38) (by omega) (show 36 * d ≤ 36 * (d + 38) by omega)
      rwa [Int.mul_ediv_cancel _ (by omega)] at this
    unfold adLoop
    omega
  | f + 1, d, k, h => by
    unfold adLoop
    split
    · have := adLoop_bd f (d / 35) (k + 36) (by omega)
      omega
    · have h1 : 0 ≤ 36 * d / (d + 38) := Int.ediv_nonneg (by omega) (by omega)
      have h2 : 36 * d / (d + 38) ≤ 36 := by
        have := Int.ediv_le_ediv (c := d + 38) (by omega) (show 36 * d ≤ 36 * (d + 38) by omega)
        rwa [Int.mul_ediv_cancel _ (by omega)] at this
      omega
theorem adapt_bd {delta count : Int} (first : Bool) (hd : 0 ≤ delta ∧ delta ≤ 2147483647) (hc : 1 ≤ count) : 0 ≤ adapt delta count first ∧ adapt delta count first ≤ 5000000000 := by
  unfold adapt
  obtain ⟨d, hdd⟩ : ∃ d, d = (if first then delta / 700 else delta / 2) := ⟨_, rfl⟩
  rw [← hdd]
  have hb : 0 ≤ d ∧ d ≤ 2147483647 := by rw [hdd]; split <;> omega
  have hq0 : 0 ≤ d / count := Int.ediv_nonneg hb.1 (by omega)
  have hq1 : d / count ≤ d := Int.ediv_le_self _ hb.1
  have := adLoop_bd (d + d / count).toNat (d + d / count) 0 (by omega)
  unfold bend
  omega
theorem digs_len : ∀ (f : Nat) (n k b : Int), (digs f n k b).length ≤ f
  | 0, _, _, _ => Nat.le_refl _
  | f + 1, n, k, b => by
    unfold digs
    split
    · simp
    · simp only [List.length_cons]
      have := digs_len f ((n - thr k b) / (36 - thr k b)) (k + 36) b
      omega
theorem digitsB_len (n k b : Int) : (digitsB n k b).length ≤ n.toNat + 1 := by
  unfold digitsB digits
  rw [List.length_map]
  exact digs_len _ _ _ _
/-- What is still to be written, as bytes. -/
def tailB (ds : List Int) (b c : Int) (f : Bool) : List UInt8 := (emit adapt ds b c f).map digB
theorem tailB_one (d : Int) (ds : List Int) (b c : Int) (f : Bool) : tailB (d :: ds) b c f = digitsB d 36 b ++ tailB ds (adapt d (c + 1) f) (c + 1) false := by
  unfold tailB digitsB
  rw [emit_one, List.map_append]
def plainB (l : List Int) : List UInt8 := (lt 128 l).map fun x => UInt8.ofNat x.toNat
def dashB (l : List Int) : List UInt8 := if (lt 128 l).length = 0 then [] else [45]
/-- What Encode writes. -/
def encB (l : List Int) : List UInt8 := plainB l ++ dashB l ++ tailB (deltas l) 72 (lt 128 l).length true
theorem msF_done {f : Nat} {l : List Int} {n : Int} (h : (lt n l).length = l.length) : msF f l n = [] := by
  cases f with
  | zero => rfl
  | succ f => unfold msF; rw [if_pos h]
theorem msF_more {f : Nat} {l : List Int} {n : Int} (h : (lt n l).length ≠ l.length) : msF (f + 1) l n = least n l 1114112 :: msF f l (least n l 1114112 + 1) := by rw [msF, if_neg h]
theorem least_cons (n x : Int) (t : List Int) (z : Int) : least n (x :: t) z = least n t (if n ≤ x ∧ x < z then x else z) := rfl
theorem le_len (m : Int) (l : List Int) : (le m l).length ≤ l.length := by unfold le; exact List.length_filter_le _ _
theorem lt_snoc (m : Int) (p : List Int) (x : Int) : lt m (p ++ [x]) = if x < m then lt m p ++ [x] else lt m p := by
  unfold lt
  rw [List.filter_append]
  by_cases h : x < m <;> simp [h]
end Puny
theorem byte_convZ (W : World) (x : Int) (h : 0 ≤ x ∧ x < 256) : (convert 76 9 (.slice (some ⟨W.heap.size, 0, none⟩) 1 1)).run Tryz.prog (W.alloc (.cells #[.int .u8 x] 5)) = .ok (.string ⟨#[UInt8.ofNat x.toNat]⟩) (W.alloc (.cells #[.int .u8 x] 5)) := by
  have e : x = ((UInt8.ofNat x.toNat).toNat : Int) := by
    rw [UInt8.toNat_ofNat', Nat.mod_eq_of_lt (by show x.toNat < 256; omega)]
    omega
  have := byte_conv W (UInt8.ofNat x.toNat)
  rwa [← e] at this
/-- A writer's answer. -/
def Wrote (bs : List UInt8) (ok : Bool) (w : World) (e : Ending) (w' : World) : Prop := e = .returned (.tuple #[.string ⟨bs.toArray⟩, .bool ok]) ∧ Below w.heap.size w w'
theorem rightsZ_at {l : List Int} {k : Nat} (h : k < l.length) (hr : rightsZ l = true) : rightZ l[k]! = true := by
  unfold rightsZ at hr
  rw [getElem!_pos l k h]
  exact List.all_eq_true.1 hr _ (List.getElem_mem h)
theorem rights_lt {l : List Int} (h : rightsZ l = true) : ∀ x ∈ l, x < 1114112 := fun x hx => by
  unfold rightsZ at h
  have := (rightZ_iff x).1 (List.all_eq_true.1 h x hx)
  omega
theorem cat_bytes (S T : ByteArray) : (S ++ T).data.toList = S.data.toList ++ T.data.toList := by rw [ByteArray.data_append, Array.toList_append]
set_option maxHeartbeats 8000000 in
set_option maxRecDepth 100000 in
theorem encode5_yes (v : Value) (l : List Int) (w : World) (hl : Runes v l w) (hn : l.length ≤ 420) (hr : rightsZ l = true) :
    Calls Tryz.prog 51 #[v] w (Wrote (Puny.encB l) true w) := by
  obtain ⟨A, c, rfl, -, hcell⟩ := hl.form
  have HC := Lib.hid hcell
  have HR := Lib.hid hr
  have LT := Lib.hid (rights_lt hr)
  clear hl hcell hr
  go_enter Tryz.func51, Tryz.ntmps51
  go_wp2
  go_loopg [4, 5, 6] (l.length + 1) (fun gk s4 s5 i wr => ∃ (k q : Nat) (S : ByteArray), k ≤ l.length ∧ i = .int .i64 k ∧ s4 = .string S ∧ s5 = .int .i64 q ∧ q ≤ k ∧ S.size ≤ k ∧ l.length - k < gk ∧ Hid (S.data.toList = Puny.plainB (l.take k) ∧ q = (Puny.lt 128 (l.take k)).length ∧ Below w.heap.size w wr))
  case atStart => exact ⟨0, 0, ⟨#[]⟩, Nat.zero_le _, rfl, rfl, rfl, Nat.le_refl _, Nat.le_refl _, by omega, ⟨rfl, rfl, Below.refl _ _⟩⟩
  case round =>
    obtain ⟨k, q, S, hk, rfl, rfl, rfl, hqk, hSk, hg, I⟩ := hrel
    by_cases hlt : k < l.length
    · obtain ⟨ad, rfl, hb, hx⟩ := HC.out k hlt
      have hx' := (I.out.2.2.cell (by rw [add_block]; exact hb)).trans hx
      obtain ⟨x, hxe⟩ : ∃ x, x = l[k]! := ⟨_, rfl⟩
      have hrx := rightsZ_at hlt HR.out
      rw [← hxe] at hx' hrx
      have hx0 := (rightZ_iff x).1 hrx
      have ht : l.take (k + 1) = l.take k ++ [x] := by rw [Utf.take_next l k hlt, ← hxe]
      have KR := Lib.hid (refRight_any x wr)
      rw [hrx] at KR
      have HT := Lib.hid ht
      have hkz : (k : Int) < (l.length : Int) := by omega
      clear hx hb hxe hrx ht
      by_cases hp : x < 128
      · have hconv := byte_convZ wr x (by omega)
        have J : Hid ((S ++ (⟨#[UInt8.ofNat x.toNat]⟩ : ByteArray)).data.toList = Puny.plainB (l.take (k + 1)) ∧ q + 1 = (Puny.lt 128 (l.take (k + 1))).length ∧ Below w.heap.size w (wr.alloc (.cells #[.int .u8 x] 5))) := by
          refine ⟨?_, ?_, I.out.2.2.alloc I.out.2.2.size _⟩
          · rw [more_bytes, I.out.1, HT.out]
            unfold Puny.plainB
            rw [Puny.lt_snoc, if_pos hp, List.map_append]
            rfl
          · rw [HT.out, Puny.lt_snoc, if_pos hp, List.length_append, ← I.out.2.1]; rfl
        clear I
        go_wp2_with fail
        refine KR.out.mono ?_
        rintro e w1 ⟨rfl, rfl⟩
        go_wp2
        go_roundg (l.length - k)
        case measure => omega
        case rel => exact ⟨k + 1, q + 1, _, by omega, by go_num, rfl, by go_num, by omega, by rw [more_size]; omega, by omega, J⟩
      · have J : Hid (S.data.toList = Puny.plainB (l.take (k + 1)) ∧ q = (Puny.lt 128 (l.take (k + 1))).length ∧ Below w.heap.size w wr) := by
          refine ⟨?_, ?_, I.out.2.2⟩
          · rw [I.out.1, HT.out]; unfold Puny.plainB; rw [Puny.lt_snoc, if_neg hp]
          · rw [HT.out, Puny.lt_snoc, if_neg hp]; exact I.out.2.1
        clear I
        go_wp2_with fail
        refine KR.out.mono ?_
        rintro e w1 ⟨rfl, rfl⟩
        go_wp2
        go_roundg (l.length - k)
        case measure => omega
        case rel => exact ⟨k + 1, q, S, by omega, by go_num, rfl, rfl, by omega, by omega, by omega, J⟩
    · obtain rfl : k = l.length := by omega
      have h1 := I.out.1
      have h2 := I.out.2.1
      rw [List.take_length] at h1 h2
      have BW := Lib.hid I.out.2.2
      have T0 : Hid (∃ D : ByteArray, D.size ≤ l.length + 1 ∧ D.data.toList = Puny.plainB l ++ Puny.dashB l ∧ (0 < q → D = S ++ (⟨#[45]⟩ : ByteArray)) ∧ (q = 0 → D = S)) := by
        by_cases hq : q = 0
        · exact ⟨S, by omega, by rw [h1]; unfold Puny.dashB; rw [if_pos (by omega), List.append_nil], fun h => by omega, fun _ => rfl⟩
        · exact ⟨S ++ ⟨#[45]⟩, by rw [more_size]; omega, by rw [more_bytes, h1]; unfold Puny.dashB; rw [if_neg (by omega)], fun _ => rfl, fun h => absurd h hq⟩
      have HQ := Lib.hid h2
      clear I h1 h2
      obtain ⟨D, hD1, hD2, hD3, hD4⟩ := T0.out
      have hql : q ≤ l.length := hqk
      have HD2 := Lib.hid hD2
      have HD3 := Lib.hid hD3
      have HD4 := Lib.hid hD4
      clear hD2 hD3 hD4 T0 hk hg
      rcases Nat.eq_zero_or_pos q with hq | hq
      all_goals
        have HQ0 := Lib.hid hq
        first
          | have hqz : 0 < q := by omega
          | have hqz : ¬ 0 < q := by omega
        clear hq
        go_wp2
        go_loopg [4, 7, 8, 9, 10, 11, 12, 13] (l.length + 1) (fun gk s4 s7 s8 s9 s10 _ _ _ wr => ∃ (n e b : Int) (h f : Nat) (S : ByteArray), s4 = .string S ∧ s7 = .int .i64 n ∧ s8 = .int .i64 e ∧ s9 = .int .i64 b ∧ s10 = .int .i64 h ∧ 128 ≤ n ∧ n ≤ 1114112 ∧ 0 ≤ e ∧ e ≤ 421 ∧ 0 ≤ b ∧ b ≤ 5000000000 ∧ q ≤ h ∧ h ≤ l.length ∧ S.size ≤ 600 + 500000000 * h ∧ l.length - h < gk ∧ l.length - h ≤ f ∧
          Hid (h = (Puny.lt n l).length ∧ Puny.encB l = S.data.toList ++ Puny.tailB (Puny.rows l (Puny.msF f l n) n e) b h ((h : Int) == (q : Int)) ∧ Below w.heap.size w wr))
        case atStart =>
          refine ⟨128, 0, 72, q, l.length, D, by first | rw [HD3.out HQ0.out] | rw [HD4.out HQ0.out], rfl, rfl, rfl, rfl, by omega, by omega, by omega, by omega, by omega, by omega, by omega, by omega, by omega, by omega, by omega, ⟨HQ.out, ?_, BW.out⟩⟩
          rw [HD2.out, HQ.out, beq_self_eq_true]
          rfl
        case round =>
          obtain ⟨n, e, b, h, f, S, rfl, rfl, rfl, rfl, rfl, hn1, hn2, he1, he2, hb1, hb2, hqh, hhl, hSz, hg, hf, J⟩ := hrel
          by_cases hlt : h < l.length
          · have hne : (Puny.lt n l).length ≠ l.length := by have := J.out.1; omega
            obtain ⟨f, rfl⟩ : ∃ f', f = f' + 1 := ⟨f - 1, by omega⟩
            obtain ⟨m1, m2, m3⟩ := Puny.least_ok LT.out hne
            have hmx := LT.out _ m1
            have hlow := Puny.lt_len_less m2 l m1
            have hls := Puny.lt_same m2 m3
            have heq := J.out.2.1
            rw [Puny.msF_more hne, Puny.rest_start] at heq
            obtain ⟨m, hme⟩ : ∃ m, Puny.least n l 1114112 = m := ⟨_, rfl⟩
            rw [hme] at m2 hmx hlow hls heq
            obtain ⟨P, hP⟩ : ∃ P, (m - n) * ((h : Int) + 1) = P := ⟨_, rfl⟩
            rw [← J.out.1, hP] at heq
            have hP0 : 0 ≤ P := by rw [← hP]; exact Int.mul_nonneg (by omega) (by omega)
            have hP1 : P ≤ 469041152 := by
              rw [← hP]
              have a1 : (m - n) * ((h : Int) + 1) ≤ (m - n) * 421 := Int.mul_le_mul_of_nonneg_left (by omega) (by omega)
              omega
            have HME := Lib.hid hme
            have HLOW := Lib.hid (show h < (Puny.lt (m + 1) l).length by have := J.out.1; omega)
            have HLS := Lib.hid (show h = (Puny.lt m l).length by rw [hls]; exact J.out.1)
            have HEQ := Lib.hid heq
            have BJ := Lib.hid J.out.2.2
            have hlz : (h : Int) < (l.length : Int) := by omega
            clear hne m1 m3 hlow hls heq hme J
            go_wp2
            go_loopg [11, 12] (l.length + 1) (fun gk s11 s12 wr => ∃ (k : Nat) (z : Int), s11 = .int .i64 z ∧ s12 = .int .i64 k ∧ k ≤ l.length ∧ 0 ≤ z ∧ z ≤ 1114112 ∧ l.length - k < gk ∧ Hid (m = Puny.least n (l.drop k) z ∧ Below w.heap.size w wr))
            case atStart => exact ⟨0, 1114112, rfl, rfl, by omega, by omega, by omega, by omega, ⟨HME.out.symm, BJ.out⟩⟩
            case round =>
              obtain ⟨k, z, rfl, rfl, hk, hz0, hz1, hgk, I⟩ := hrel
              by_cases hkl : k < l.length
              · obtain ⟨ad, rfl, hb, hx⟩ := HC.out k hkl
                have hx' := (I.out.2.cell (by rw [add_block]; exact hb)).trans hx
                obtain ⟨x, hxe⟩ : ∃ x, x = l[k]! := ⟨_, rfl⟩
                have hrx := rightsZ_at hkl HR.out
                rw [← hxe] at hx' hrx
                have hx0 := (rightZ_iff x).1 hrx
                have hd : l.drop k = x :: l.drop (k + 1) := by rw [hxe, getElem!_pos l k hkl]; exact List.drop_eq_getElem_cons hkl
                have hL : m = Puny.least n (l.drop (k + 1)) (if n ≤ x ∧ x < z then x else z) := by rw [I.out.1, hd, Puny.least_cons]
                have hkz : (k : Int) < (l.length : Int) := by omega
                have BI := Lib.hid I.out.2
                have xb0 : 0 ≤ x := by omega
                have xb1 : x ≤ 1114111 := by omega
                clear hx hb hxe hrx hd I hx0
                by_cases hc : n ≤ x ∧ x < z
                · rw [if_pos hc] at hL
                  obtain ⟨q1, q2⟩ := hc
                  have I2 : Hid (m = Puny.least n (l.drop (k + 1)) x ∧ Below w.heap.size w wr) := ⟨hL, BI.out⟩
                  clear hL
                  go_wp2
                  go_roundg (l.length - k)
                  case measure => omega
                  case rel => exact ⟨k + 1, x, rfl, by go_num, by omega, by omega, by omega, by omega, I2⟩
                · rw [if_neg hc] at hL
                  have I2 : Hid (m = Puny.least n (l.drop (k + 1)) z ∧ Below w.heap.size w wr) := ⟨hL, BI.out⟩
                  clear hL
                  by_cases q1 : n ≤ x
                  · have q2 : ¬ x < z := fun h => hc ⟨q1, h⟩
                    clear hc
                    go_wp2
                    go_roundg (l.length - k)
                    case measure => omega
                    case rel => exact ⟨k + 1, z, rfl, by go_num, by omega, by omega, by omega, by omega, I2⟩
                  · clear hc
                    go_wp2
                    go_roundg (l.length - k)
                    case measure => omega
                    case rel => exact ⟨k + 1, z, rfl, by go_num, by omega, by omega, by omega, by omega, I2⟩
              · obtain rfl : k = l.length := by omega
                have hzm : m = z := by have := I.out.1; rwa [List.drop_length] at this
                have BI := Lib.hid I.out.2
                subst hzm
                clear I
                go_wp2
                go_loopg [4, 8, 9, 10, 13] (l.length + 1) (fun gk s4 s8 s9 s10 s13 wr => ∃ (k : Nat) (e' b' : Int) (h' : Nat) (S' : ByteArray), s4 = .string S' ∧ s8 = .int .i64 e' ∧ s9 = .int .i64 b' ∧ s10 = .int .i64 h' ∧ s13 = .int .i64 k ∧ k ≤ l.length ∧ 0 ≤ e' ∧ (e' ≤ 469041573 + k ∧ (h < h' → e' ≤ k)) ∧ 0 ≤ b' ∧ b' ≤ 5000000000 ∧ h ≤ h' ∧ h' ≤ l.length ∧ S'.size ≤ 600 + 500000000 * h' ∧ l.length - k < gk ∧
                  Hid (h' = (Puny.le m (l.take k)).length + (Puny.lt m (l.drop k)).length ∧ Puny.encB l = S'.data.toList ++ Puny.tailB (Puny.restOf l (Puny.msF f l (m + 1)) m (l.drop k) e') b' h' ((h' : Int) == (q : Int)) ∧ Below w.heap.size w wr))
                case atStart => exact ⟨0, e + P, b, h, S, rfl, rfl, rfl, rfl, rfl, Nat.zero_le _, by omega, ⟨by omega, fun h => by omega⟩, hb1, hb2, Nat.le_refl _, by omega, hSz, by omega, ⟨by have h9 := HLS.out; show h = 0 + (Puny.lt m l).length; omega, HEQ.out, BI.out⟩⟩
                case round =>
                  obtain ⟨k, e', b', h', S', rfl, rfl, rfl, rfl, rfl, hk', he0, ⟨he3, he4⟩, hb3, hb4, hh1, hh2, hS2, hg4, I⟩ := hrel
                  by_cases hkl : k < l.length
                  · obtain ⟨ad, rfl, hb, hx⟩ := HC.out k hkl
                    have hx' := (I.out.2.2.cell (by rw [add_block]; exact hb)).trans hx
                    obtain ⟨x, hxe⟩ : ∃ x, x = l[k]! := ⟨_, rfl⟩
                    have hrx := rightsZ_at hkl HR.out
                    rw [← hxe] at hx' hrx
                    have hx0 := (rightZ_iff x).1 hrx
                    have xb0 : 0 ≤ x := by omega
                    have xb1 : x ≤ 1114111 := by omega
                    have hd : l.drop k = x :: l.drop (k + 1) := by rw [hxe, getElem!_pos l k hkl]; exact List.drop_eq_getElem_cons hkl
                    have ht : l.take (k + 1) = l.take k ++ [x] := by rw [Utf.take_next l k hkl, ← hxe]
                    have hh := I.out.1
                    have heq := I.out.2.1
                    rw [hd, Puny.lt_cons] at hh
                    rw [hd] at heq
                    have hle := Puny.le_snoc m (l.take k) x
                    rw [← ht] at hle
                    have hkz : (k : Int) < (l.length : Int) := by omega
                    have BI2 := Lib.hid I.out.2.2
                    clear hx hb hxe hrx hd ht I hx0
                    rcases (show x < m ∨ x = m ∨ m < x by omega) with hc | hc | hc
                    · rw [if_pos hc] at hh
                      rw [if_pos (by omega)] at hle
                      rw [Puny.rest_less hc] at heq
                      have I2 : Hid (h' = (Puny.le m (l.take (k + 1))).length + (Puny.lt m (l.drop (k + 1))).length ∧ Puny.encB l = S'.data.toList ++ Puny.tailB (Puny.restOf l (Puny.msF f l (m + 1)) m (l.drop (k + 1)) (e' + 1)) b' h' ((h' : Int) == (q : Int)) ∧ Below w.heap.size w wr) :=
                        ⟨by rw [hle, List.length_append]; simp only [List.length_cons, List.length_nil] at hh ⊢; omega, heq, BI2.out⟩
                      have hxne : (x == m) = false := by rw [beq_eq_false_iff_ne]; omega
                      clear hh hle heq
                      go_wp2
                      go_roundg (l.length - k)
                      case measure => omega
                      case rel => exact ⟨k + 1, e' + 1, b', h', S', rfl, rfl, rfl, rfl, by go_num, by omega, by omega, ⟨by omega, fun hq => by have := he4 hq; omega⟩, hb3, hb4, hh1, hh2, hS2, by omega, I2⟩
                    · subst hc
                      rw [if_neg (by omega)] at hh
                      rw [if_pos (by omega)] at hle
                      rw [Puny.rest_same, Puny.tailB_one] at heq
                      have h1l := Puny.le_len x (l.take (k + 1))
                      have h2l := Puny.lt_len x (l.drop (k + 1))
                      rw [List.length_take] at h1l
                      rw [List.length_drop] at h2l
                      have hh5 : h' + 1 = (Puny.le x (l.take (k + 1))).length + (Puny.lt x (l.drop (k + 1))).length := by rw [hle, List.length_append]; simp only [List.length_cons, List.length_nil]; omega
                      have hh6 : h' + 1 ≤ l.length := by omega
                      have KD := Lib.hid (fun W => digits5_any e' b' W (by omega) (by omega))
                      have KA := Lib.hid (fun W => adapt5_any e' ((h' : Int) + 1) ((h' : Int) == (q : Int)) W (by omega) (by omega))
                      obtain ⟨n1, n2⟩ := Puny.adapt_bd (delta := e') (count := (h' : Int) + 1) ((h' : Int) == (q : Int)) (by omega) (by omega)
                      have hdl := Puny.digitsB_len e' 36 b'
                      generalize Puny.digitsB e' 36 b' = dg at KD heq hdl
                      generalize Puny.adapt e' ((h' : Int) + 1) ((h' : Int) == (q : Int)) = nb at KA heq n1 n2
                      have hfl : (((h' + 1 : Nat) : Int) == (q : Int)) = false := by rw [beq_eq_false_iff_ne]; omega
                      have I3 := Lib.hid (fun W (hB : Below w.heap.size w W) => (show h' + 1 = (Puny.le x (l.take (k + 1))).length + (Puny.lt x (l.drop (k + 1))).length ∧ Puny.encB l = (S' ++ (⟨dg.toArray⟩ : ByteArray)).data.toList ++ Puny.tailB (Puny.restOf l (Puny.msF f l (x + 1)) x (l.drop (k + 1)) 0) nb ((h' + 1 : Nat) : Int) (((h' + 1 : Nat) : Int) == (q : Int)) ∧ Below w.heap.size w W from
                        ⟨hh5, by rw [cat_bytes, heq, hfl, List.append_assoc]; rfl, hB⟩))
                      have hsz : (S' ++ (⟨dg.toArray⟩ : ByteArray)).size ≤ 600 + 500000000 * (h' + 1) := by
                        rw [ByteArray.size_append, show (⟨dg.toArray⟩ : ByteArray).size = dg.length by simp [ByteArray.size]]
                        omega
                      have HSZ := Lib.hid hsz
                      have hdz : (⟨dg.toArray⟩ : ByteArray).size ≤ 500000000 := by rw [show (⟨dg.toArray⟩ : ByteArray).size = dg.length by simp [ByteArray.size]]; omega
                      clear hh hle heq h1l h2l hh5 hfl hsz hdl
                      go_wp2_with fail
                      refine (KD.out _).mono ?_
                      rintro e9 w3 ⟨rfl, hb9⟩
                      have B3 := Lib.hid (BI2.out.trans (hb9.mono BI2.out.size))
                      clear hb9 KD
                      go_wp2_with fail
                      refine (KA.out _).mono ?_
                      rintro e8 w4 ⟨rfl, rfl⟩
                      go_wp2
                      go_roundg (l.length - k)
                      case measure => omega
                      case rel => exact ⟨k + 1, 0, nb, h' + 1, _, rfl, rfl, rfl, by go_num, by go_num, by omega, by omega, ⟨by omega, fun _ => by omega⟩, n1, n2, by omega, hh6, HSZ.out, by omega, I3.out _ B3.out⟩
                    · rw [if_neg (by omega)] at hh
                      rw [if_neg (by omega)] at hle
                      rw [Puny.rest_more hc] at heq
                      have I2 : Hid (h' = (Puny.le m (l.take (k + 1))).length + (Puny.lt m (l.drop (k + 1))).length ∧ Puny.encB l = S'.data.toList ++ Puny.tailB (Puny.restOf l (Puny.msF f l (m + 1)) m (l.drop (k + 1)) e') b' h' ((h' : Int) == (q : Int)) ∧ Below w.heap.size w wr) :=
                        ⟨by rw [hle]; exact hh, heq, BI2.out⟩
                      have hxne : (x == m) = false := by rw [beq_eq_false_iff_ne]; omega
                      have hxl : ¬ x < m := by omega
                      clear hh hle heq
                      go_wp2
                      go_roundg (l.length - k)
                      case measure => omega
                      case rel => exact ⟨k + 1, e', b', h', S', rfl, rfl, rfl, rfl, by go_num, by omega, by omega, ⟨by omega, fun hq => by have := he4 hq; omega⟩, hb3, hb4, hh1, hh2, hS2, by omega, I2⟩
                  · obtain rfl : k = l.length := by omega
                    have hh := I.out.1
                    have heq := I.out.2.1
                    rw [List.take_length, List.drop_length] at hh
                    rw [List.drop_length, Puny.rest_end] at heq
                    have hh3 : h' = (Puny.lt (m + 1) l).length := by rw [hh, Puny.lt_next]; rfl
                    have hlow2 : h < h' := by rw [hh3]; exact HLOW.out
                    have he5 := he4 hlow2
                    have J2 : Hid (h' = (Puny.lt (m + 1) l).length ∧ Puny.encB l = S'.data.toList ++ Puny.tailB (Puny.rows l (Puny.msF f l (m + 1)) (m + 1) (e' + 1)) b' h' ((h' : Int) == (q : Int)) ∧ Below w.heap.size w wr) := ⟨hh3, heq, I.out.2.2⟩
                    clear I hh heq hh3
                    go_wp2
                    go_roundg (l.length - h)
                    case measure => omega
                    case rel => exact ⟨m + 1, e' + 1, b', h', f, S', rfl, rfl, rfl, rfl, rfl, by omega, by omega, by omega, by omega, hb3, hb4, by omega, hh2, hS2, by omega, by omega, J2⟩
          · obtain rfl : h = l.length := by omega
            have R := Lib.hid (show Puny.encB l = S.data.toList by rw [J.out.2.1, Puny.msF_done J.out.1.symm]; show S.data.toList ++ [] = _; rw [List.append_nil])
            go_wp2
            go_ret2
            refine ⟨?_, J.out.2.2⟩
            rw [R.out, ← bytes_is (S := S) rfl]
            rfl
end Go.Proofs.YtbmgkfnoknomdaaGreat
namespace Go.Proofs.YtbmgkfnoknomdaaGreat
open Go.RowKit Utf
namespace Puny
def byteZ (c : UInt8) : Int := (c.toNat : Int)
/-- A number in digits that bytes begin with, and how many these are. -/
def numB (b : Int) : List UInt8 → Int → Int → Int → Nat → Option (Int × Nat)
  | [], _, _, _, _ => none
  | c :: l, k, w, s, u => match valOf (byteZ c) with
    | none => none
    | some d => if limit < w ∨ limit < s + d * w then none else if d < thr k b then some (s + d * w, u + 1) else numB b l (k + 36) (w * (36 - thr k b)) (s + d * w) (u + 1)
theorem valOf_bd {n d : Int} (h : valOf n = some d) : 0 ≤ d ∧ d ≤ 35 := by
  unfold valOf at h
  split at h
  · have := Option.some.inj h; omega
  · split at h
    · have := Option.some.inj h; omega
    · split at h
      · have := Option.some.inj h; omega
      · cases h
def numAns (o : Option (Int × Nat)) : Value := match o with | none => .tuple #[.int .i64 0, .int .i64 0] | some (x, u) => .tuple #[.int .i64 x, .int .i64 u]
end Puny
set_option maxHeartbeats 4000000 in
set_option maxRecDepth 100000 in
theorem number5_any (s : ByteArray) (b : Int) (w : World) (hs : s.size ≤ 100000) (hb : 0 ≤ b ∧ b ≤ 100000000000) :
    Calls Tryz.prog 80 #[.string s, .int .i64 b] w fun e w' => e = .returned (Puny.numAns (Puny.numB b s.data.toList 36 1 0 0)) ∧ w = w' := by
  obtain ⟨b0, b1⟩ := hb
  go_enter Tryz.func80, Tryz.ntmps80
  go_wp2
  go_loopg [6, 7, 8, 9, 10, 11] (s.size + 1) (fun gk s6 s7 s8 _ _ _ wr => ∃ (k : Nat) (sum x : Int), s6 = .int .i64 sum ∧ s7 = .int .i64 x ∧ s8 = .int .i64 k ∧ k ≤ s.size ∧ 0 ≤ sum ∧ sum ≤ 2147483647 ∧ 1 ≤ x ∧ x ≤ 75161927645 ∧ s.size - k < gk ∧ Hid (Puny.numB b s.data.toList 36 1 0 0 = Puny.numB b (s.data.toList.drop k) (36 * ((k : Int) + 1)) x sum k ∧ w = wr))
  case atStart => exact ⟨0, 0, 1, rfl, rfl, rfl, Nat.zero_le _, by omega, by omega, by omega, by omega, by omega, ⟨rfl, rfl⟩⟩
  case round =>
    obtain ⟨k, sum, x, rfl, rfl, rfl, hk, hs0, hs1, hx0, hx1, hg, I⟩ := hrel
    by_cases hlt : k < s.size
    · have hkz : (k : Int) < (s.size : Int) := by omega
      have hd := drop_next s k hlt
      have hub : s[k].toNat < 256 := s[k].toNat_lt
      have KV := Lib.hid (value5_any (s[k].toNat : Int) wr (by omega))
      have hN := I.out.1
      rw [hd, Puny.numB, show Puny.byteZ s[k] = (s[k].toNat : Int) from rfl] at hN
      have HW := Lib.hid I.out.2
      clear I hd hub
      cases hv : Puny.valOf (s[k].toNat : Int) with
      | none =>
        rw [hv] at KV hN
        simp only at hN
        have R := Lib.hid hN
        clear hv hN
        go_wp2_with fail
        refine KV.out.mono ?_
        rintro e w1 ⟨rfl, rfl⟩
        simp only [Option.getD_none, Option.isSome_none]
        go_wp2
        go_ret2
        exact ⟨by rw [R.out]; rfl, HW.out⟩
      | some d =>
        obtain ⟨d0, d1⟩ := Puny.valOf_bd hv
        rw [hv] at KV hN
        simp only at hN
        clear hv
        by_cases hxl : 2147483647 < x
        · rw [if_pos (.inl hxl)] at hN
          have R := Lib.hid hN
          clear hN
          go_wp2_with fail
          refine KV.out.mono ?_
          rintro e w1 ⟨rfl, rfl⟩
          simp only [Option.getD_some, Option.isSome_some]
          go_wp2
          go_ret2
          exact ⟨by rw [R.out]; rfl, HW.out⟩
        · have hxl' : x ≤ 2147483647 := by omega
          have hP0 : 0 ≤ d * x := Int.mul_nonneg d0 (by omega)
          have hP1 : d * x ≤ 75161927645 := by
            have a1 : d * x ≤ 35 * x := Int.mul_le_mul_of_nonneg_right d1 (by omega)
            omega
          obtain ⟨P, hP⟩ : ∃ P, d * x = P := ⟨_, rfl⟩
          rw [hP] at hP0 hP1 hN
          by_cases hsl : 2147483647 < sum + P
          · rw [if_pos (.inr hsl)] at hN
            have R := Lib.hid hN
            clear hN
            go_wp2_with fail
            refine KV.out.mono ?_
            rintro e w1 ⟨rfl, rfl⟩
            simp only [Option.getD_some, Option.isSome_some]
            go_wp2
            go_ret2
            exact ⟨by rw [R.out]; rfl, HW.out⟩
          · rw [if_neg (show ¬ (Puny.limit < x ∨ Puny.limit < sum + P) by unfold Puny.limit; omega)] at hN
            have KT := Lib.hid (fun W => thr5_any (36 * ((k : Int) + 1)) b W (by omega))
            have htb := Puny.thr_bd (36 * ((k : Int) + 1)) b
            generalize Puny.thr (36 * ((k : Int) + 1)) b = t at KT htb hN
            obtain ⟨t0, t1⟩ := htb
            have hsl' : sum + P ≤ 2147483647 := by omega
            by_cases hdt : d < t
            · rw [if_pos hdt] at hN
              have R := Lib.hid hN
              clear hN hxl hsl
              go_wp2_with fail
              refine KV.out.mono ?_
              rintro e w1 ⟨rfl, rfl⟩
              simp only [Option.getD_some, Option.isSome_some]
              go_wp2_with fail
              refine (KT.out _).mono ?_
              rintro e w2 ⟨rfl, rfl⟩
              go_wp2
              go_ret2
              exact ⟨by rw [R.out]; rfl, HW.out⟩
            · rw [if_neg hdt] at hN
              have hQ0 : 1 ≤ x * (36 - t) := Int.mul_pos (by omega) (by omega)
              have hQ1 : x * (36 - t) ≤ 75161927645 := by
                have a1 : x * (36 - t) ≤ x * 35 := Int.mul_le_mul_of_nonneg_left (by omega) (by omega)
                omega
              obtain ⟨Q, hQ⟩ : ∃ Q, x * (36 - t) = Q := ⟨_, rfl⟩
              rw [hQ] at hQ0 hQ1 hN
              have R : Hid (Puny.numB b s.data.toList 36 1 0 0 = Puny.numB b (s.data.toList.drop (k + 1)) (36 * (((k + 1 : Nat) : Int) + 1)) Q (sum + P) (k + 1) ∧ w = wr) := ⟨by rw [hN, show 36 * ((k : Int) + 1) + 36 = 36 * (((k + 1 : Nat) : Int) + 1) by omega], HW.out⟩
              clear hN hxl hsl
              go_wp2_with fail
              refine KV.out.mono ?_
              rintro e w1 ⟨rfl, rfl⟩
              simp only [Option.getD_some, Option.isSome_some]
              go_wp2_with fail
              refine (KT.out _).mono ?_
              rintro e w2 ⟨rfl, rfl⟩
              go_wp2
              go_roundg (s.size - k)
              case measure => omega
              case rel => exact ⟨k + 1, sum + P, Q, rfl, rfl, by go_num, by omega, by omega, by omega, by omega, by omega, by omega, R⟩
    · obtain rfl : k = s.size := by omega
      have R := Lib.hid (show Puny.numB b s.data.toList 36 1 0 0 = none by rw [I.out.1, List.drop_of_length_le (by simp)]; rfl)
      go_wp2
      go_ret2
      exact ⟨by rw [R.out]; rfl, I.out.2⟩
end Go.Proofs.YtbmgkfnoknomdaaGreat
namespace Go.Proofs.YtbmgkfnoknomdaaGreat
open Go.RowKit Utf
namespace Puny
/-- May this delta be read? -/
def okStep (r : Rd) (d : Int) : Bool := decide (r.i + d ≤ limit) && rightZ (r.n + (r.i + d) / (r.out.length + 1))
/-- The deltas of bytes, one by one. -/
def decL : Nat → List UInt8 → Int → Bool → Rd → Option (List Int)
  | _, [], _, _, r => some r.out
  | 0, _ :: _, _, _, _ => none
  | k + 1, x :: l, b, f, r => match numB b (x :: l) 36 1 0 0 with
    | none => none
    | some (d, m) => if okStep r d then decL k ((x :: l).drop m) (adapt d (r.out.length + 1) f) false (rstep r d) else none
/-- The place of the last dash; a, if there is none. -/
def dashFrom : List UInt8 → Nat → Nat → Nat
  | [], _, a => a
  | c :: t, k, a => dashFrom t (k + 1) (if c.toNat = 45 then k else a)
def dashAt (bs : List UInt8) : Nat := dashFrom bs 0 0
def wideB (bs : List UInt8) : Bool := bs.any fun c => decide (127 < c.toNat)
def tailAt (bs : List UInt8) : Nat := if dashAt bs = 0 then 0 else dashAt bs + 1
/-- What bytes tell. -/
def decB (bs : List UInt8) : Option (List Int) :=
  if wideB bs then none else decL bs.length (bs.drop (tailAt bs)) 72 true (start ((bs.take (dashAt bs)).map byteZ))
theorem dashFrom_le : ∀ (t : List UInt8) (k a : Nat), a ≤ k → dashFrom t k a ≤ k + t.length ∧ (dashFrom t k a = a ∨ dashFrom t k a < k + t.length)
  | [], k, a, h => ⟨by simpa [dashFrom] using h, .inl rfl⟩
  | c :: t, k, a, h => by
    unfold dashFrom
    split
    · have := dashFrom_le t (k + 1) k (by omega)
      simp only [List.length_cons]
      omega
    · have := dashFrom_le t (k + 1) a (by omega)
      simp only [List.length_cons]
      omega
theorem dashAt_lt (bs : List UInt8) : dashAt bs = 0 ∨ dashAt bs < bs.length := by
  have := (dashFrom_le bs 0 0 (Nat.le_refl _)).2
  unfold dashAt
  omega
theorem tailAt_le (bs : List UInt8) : tailAt bs ≤ bs.length := by
  have := dashAt_lt bs
  unfold tailAt
  split <;> omega
theorem numB_bd (b : Int) : ∀ (l : List UInt8) (k w s : Int) (u : Nat) (x : Int) (v : Nat), numB b l k w s u = some (x, v) → 1 ≤ w → 0 ≤ s → 0 ≤ x ∧ x ≤ limit ∧ u + 1 ≤ v ∧ v ≤ u + l.length
  | [], _, _, _, _, _, _, h, _, _ => by cases h
  | c :: l, k, w, s, u, x, v, h, hw, hs => by
    unfold numB at h
    cases hv : valOf (byteZ c) with
    | none => rw [hv] at h; cases h
    | some d =>
      rw [hv] at h
      simp only at h
      have hd := valOf_bd hv
      have ht := thr_bd k b
      have h0 : 0 ≤ d * w := Int.mul_nonneg hd.1 (by omega)
      split at h
      · cases h
      · rename_i hlim
        split at h
        · have := Option.some.inj h
          injection this with e1 e2
          subst e1 e2
          simp only [List.length_cons]
          refine ⟨by omega, by omega, by omega, by omega⟩
        · have h1 : 1 ≤ w * (36 - thr k b) := by
            have : 1 * 1 ≤ w * (36 - thr k b) := Int.mul_le_mul hw (by omega) (by omega) (by omega)
            omega
          have := numB_bd b l _ _ _ _ _ _ h h1 (by omega)
          simp only [List.length_cons]
          omega
theorem decL_none {k : Nat} {x : UInt8} {l : List UInt8} {b : Int} {f : Bool} {r : Rd} (h : numB b (x :: l) 36 1 0 0 = none) : decL k (x :: l) b f r = none := by
  cases k with
  | zero => rfl
  | succ k => unfold decL; rw [h]
theorem decL_bad {k : Nat} {x : UInt8} {l : List UInt8} {b : Int} {f : Bool} {r : Rd} {d : Int} {m : Nat} (h : numB b (x :: l) 36 1 0 0 = some (d, m)) (ho : okStep r d = false) : decL k (x :: l) b f r = none := by
  cases k with
  | zero => rfl
  | succ k => unfold decL; rw [h]; simp [ho]
theorem decL_more {k : Nat} {x : UInt8} {l : List UInt8} {b : Int} {f : Bool} {r : Rd} {d : Int} {m : Nat} (h : numB b (x :: l) 36 1 0 0 = some (d, m)) (ho : okStep r d = true) :
    decL (k + 1) (x :: l) b f r = decL k ((x :: l).drop m) (adapt d (r.out.length + 1) f) false (rstep r d) := by
  rw [decL, h]; simp [ho]
theorem rstep_out (r : Rd) (d : Int) : (rstep r d).out = r.out.take ((r.i + d) % (r.out.length + 1)).toNat ++ ((rstep r d).n :: r.out.drop ((r.i + d) % (r.out.length + 1)).toNat) := by
  have h1 := Int.emod_nonneg (r.i + d) (b := r.out.length + 1) (by omega)
  have h2 := Int.emod_lt_of_pos (r.i + d) (b := r.out.length + 1) (by omega)
  unfold rstep
  exact insert_is _ _ _ (by omega)
theorem rstep_len (r : Rd) (d : Int) : (rstep r d).out.length = r.out.length + 1 := by
  have h1 := Int.emod_nonneg (r.i + d) (b := r.out.length + 1) (by omega)
  have h2 := Int.emod_lt_of_pos (r.i + d) (b := r.out.length + 1) (by omega)
  rw [rstep_out r d, List.length_append, List.length_cons, List.length_take, List.length_drop]
  omega
end Puny
def DecPost (o : Option (List Int)) (w : World) (e : Ending) (w' : World) : Prop :=
  ∃ A c, e = .returned (.tuple #[.slice A (o.getD []).length c, .bool o.isSome]) ∧ Runes (.slice A (o.getD []).length c) (o.getD []) w' ∧ Below w.heap.size w w'
theorem runes_nil (w : World) : Runes (.slice none 0 0) [] w := ⟨none, 0, rfl, Nat.le_refl _, fun _ => rfl, fun h => absurd h (by simp)⟩
theorem dec_no {o : Option (List Int)} {w w' : World} (h : o = none) (hb : Below w.heap.size w w') : DecPost o w (.returned (.tuple #[.slice none 0 0, .bool false])) w' := by
  subst h
  exact ⟨none, 0, rfl, runes_nil _, hb⟩
theorem OwnR.parted {base : Nat} {v : Value} {l : List Int} {w : World} (h : OwnR base v l w) : (v = .slice none 0 0 ∧ l = []) ∨ ∃ g c, v = .slice (some ⟨g, 0, none⟩) l.length c ∧ l.length ≤ c ∧ base ≤ g ∧ g < w.heap.size := by
  rcases h.2 with ⟨h0, h1⟩ | ⟨g, cap, cur, h0, h1, -, h3, -⟩
  · exact .inl ⟨h0, List.eq_nil_of_length_eq_zero h1⟩
  · exact .inr ⟨g, cap, h0, h3, h1, (World.ownsRow.lt h g (by rw [h0]; rfl)).2⟩
/-- A row's first part can be read. -/
theorem OwnR.front {base g n c : Nat} {l : List Int} {w : World} (h : OwnR base (.slice (some ⟨g, 0, none⟩) n c) l w) {m : Nat} (hm : m ≤ l.length) (hc : l.length ≤ c) (hg : g < w.heap.size) : Runes (.slice (some ⟨g, 0, none⟩) m c) (l.take m) w := by
  refine ⟨some ⟨g, 0, none⟩, c, by rw [List.length_map, List.length_take, Nat.min_eq_left hm], by rw [List.length_map, List.length_take]; omega, fun e => (by cases e), fun _ => ⟨_, rfl, hg, fun j x hx => ?_⟩⟩
  have e : (⟨g, 0, none⟩ : Addr).add j = ⟨g, j, none⟩ := by unfold Addr.add; split <;> simp_all
  have hj : j < (l.take m).length := by have := (List.getElem?_eq_some_iff.1 hx).1; simpa using this
  rw [List.length_take] at hj
  rw [e, h.cell j (by omega), ← hx, List.getElem?_map, List.getElem?_take_of_lt (by omega), List.getElem?_eq_getElem (by omega), getElem!_pos l j (by omega)]
  rfl
/-- And so can its last part. -/
theorem OwnR.back {base g n c : Nat} {l : List Int} {w : World} (h : OwnR base (.slice (some ⟨g, 0, none⟩) n c) l w) {m : Nat} (hm : m ≤ l.length) (hc : l.length ≤ c) (hg : g < w.heap.size) : Runes (.slice (some ⟨g, m, none⟩) (l.length - m) (c - m)) (l.drop m) w := by
  refine ⟨some ⟨g, m, none⟩, c - m, by rw [List.length_map, List.length_drop], by rw [List.length_map, List.length_drop]; omega, fun e => (by cases e), fun _ => ⟨_, rfl, hg, fun j x hx => ?_⟩⟩
  have e : (⟨g, m, none⟩ : Addr).add j = ⟨g, m + j, none⟩ := by unfold Addr.add; split <;> simp_all
  have hj : j < (l.drop m).length := by have := (List.getElem?_eq_some_iff.1 hx).1; simpa using this
  rw [List.length_drop] at hj
  rw [e, h.cell (m + j) (by omega), ← hx, List.getElem?_map, List.getElem?_drop, List.getElem?_eq_getElem (by omega), getElem!_pos l (m + j) (by omega)]
  rfl
theorem extract_drop (s : ByteArray) (k : Nat) : (s.extract k s.size).data.toList = s.data.toList.drop k := by
  rw [ByteArray.data_extract, Array.toList_extract, List.extract_eq_take_drop, List.take_of_length_le (by simp)]
theorem any_next {t : List UInt8} {c : UInt8} (h : ¬ 127 < c.toNat) : Puny.wideB (c :: t) = Puny.wideB t := by
  unfold Puny.wideB; rw [List.any_cons, decide_eq_false h, Bool.false_or]
end Go.Proofs.YtbmgkfnoknomdaaGreat
namespace Go.Proofs.YtbmgkfnoknomdaaGreat
open Go.RowKit Utf
theorem dec_next {bs : List UInt8} {n a u L m : Nat} {ro : List Int} {rn ri q d b b' : Int} {f : Bool} {base : Nat} {v : Value} {w' : World}
    (I : ∃ fuel, n ≤ a + fuel ∧ Puny.decB bs = Puny.decL fuel (bs.drop a) b f ⟨ro, rn, ri⟩)
    (hgood : ∀ (r : Puny.Rd) (f : Bool) (fuel : Nat), Puny.okStep r d = true → Puny.decL (fuel + 1) (bs.drop a) b f r = Puny.decL fuel ((bs.drop a).drop u) (Puny.adapt d ((r.out.length : Int) + 1) f) false (Puny.rstep r d))
    (hL : L = ro.length) (hq : (ri + d) / ((L : Int) + 1) = q) (hm : (ri + d) % ((L : Int) + 1) = (m : Int)) (hb : b' = Puny.adapt d ((L : Int) + 1) f) (hov : ri + d ≤ 2147483647) (hR : rightZ (rn + q) = true) (hlt : a < n) (hu : 0 + 1 ≤ u)
    (ho : OwnR base v (ro.take m ++ [rn + q] ++ ro.drop m) w') :
    OwnR base v (ro.take m ++ [rn + q] ++ ro.drop m) w' ∧ (ro.take m ++ [rn + q] ++ ro.drop m).length = L + 1 ∧ ∃ fuel, n ≤ a + u + fuel ∧ Puny.decB bs = Puny.decL fuel (bs.drop (a + u)) b' false ⟨ro.take m ++ [rn + q] ++ ro.drop m, rn + q, m + 1⟩ := by
  obtain ⟨fuel, h1, h2⟩ := I
  obtain ⟨k, rfl⟩ : ∃ k, fuel = k + 1 := ⟨fuel - 1, by omega⟩
  have hm1 := Int.emod_lt_of_pos (ri + d) (show (0 : Int) < (L : Int) + 1 by omega)
  refine ⟨ho, by simp only [List.length_append, List.length_take, List.length_drop, List.length_singleton]; omega, k, by omega, ?_⟩
  rw [h2, hgood _ _ _ (by
    unfold Puny.okStep Puny.limit
    show (decide (ri + d ≤ 2147483647) && rightZ (rn + (ri + d) / ((ro.length : Int) + 1))) = true
    rw [← hL, hq, hR, decide_eq_true hov]; rfl), List.drop_drop]
  have e1 : Puny.rstep ⟨ro, rn, ri⟩ d = ⟨ro.take m ++ [rn + q] ++ ro.drop m, rn + q, m + 1⟩ := by
    have h3 := Puny.rstep_out ⟨ro, rn, ri⟩ d
    have h4 : (Puny.rstep ⟨ro, rn, ri⟩ d).n = rn + q := by show rn + (ri + d) / ((ro.length : Int) + 1) = rn + q; rw [← hL, hq]
    have h5 : (Puny.rstep ⟨ro, rn, ri⟩ d).i = (m : Int) + 1 := by show (ri + d) % ((ro.length : Int) + 1) + 1 = m + 1; rw [← hL, hm]
    have h6 : (Puny.rstep ⟨ro, rn, ri⟩ d).out = ro.take m ++ [rn + q] ++ ro.drop m := by
      rw [h3, h4]
      show ro.take ((ri + d) % ((ro.length : Int) + 1)).toNat ++ ((rn + q) :: ro.drop ((ri + d) % ((ro.length : Int) + 1)).toNat) = _
      rw [← hL, hm]
      simp
    cases hr : Puny.rstep ⟨ro, rn, ri⟩ d with
    | mk o n i => rw [hr] at h4 h5 h6; simp only at h4 h5 h6; rw [h4, h5, h6]
  rw [e1, hb, hL]
set_option maxHeartbeats 8000000 in
set_option maxRecDepth 100000 in
theorem decode5_any (s : ByteArray) (w : World) (hs : s.size ≤ 1000) :
    Calls Tryz.prog 53 #[.string s] w (DecPost (Puny.decB s.data.toList) w) := by
  go_enter Tryz.func53, Tryz.ntmps53
  go_wp2
  go_loopg [5, 6] (s.size + 1) (fun gk s5 s6 wr => ∃ k a : Nat, s5 = .int .i64 a ∧ s6 = .int .i64 k ∧ k ≤ s.size ∧ a ≤ k ∧ s.size - k < gk ∧ Hid (Puny.dashFrom (s.data.toList.drop k) k a = Puny.dashAt s.data.toList ∧ Puny.wideB (s.data.toList.drop k) = Puny.wideB s.data.toList ∧ w = wr))
  case atStart => exact ⟨0, 0, rfl, rfl, Nat.zero_le _, Nat.le_refl _, by omega, ⟨rfl, rfl, rfl⟩⟩
  case round =>
    obtain ⟨k, a, rfl, rfl, hk, hak, hg, I⟩ := hrel
    by_cases hlt : k < s.size
    · have hkz : (k : Int) < (s.size : Int) := by omega
      have hd := drop_next s k hlt
      have hub : s[k].toNat < 256 := s[k].toNat_lt
      obtain ⟨i1, i2, hW⟩ := I.out
      rw [hd] at i1 i2
      rw [Puny.dashFrom] at i1
      clear hd I
      by_cases h1 : 127 < s[k].toNat
      · have hz1 : (127 : Int) < (s[k].toNat : Int) := by omega
        have hno : Puny.decB s.data.toList = none := by
          unfold Puny.decB
          rw [← i2]
          unfold Puny.wideB
          rw [List.any_cons, decide_eq_true h1, Bool.true_or, if_pos rfl]
        have HN := Lib.hid hno
        have HW := Lib.hid hW
        clear i1 i2 hno hW
        go_wp2
        go_ret2
        exact dec_no HN.out (by rw [HW.out]; exact Below.refl _ _)
      · have hz1 : (s[k].toNat : Int) ≤ 127 := by omega
        rw [any_next h1] at i2
        by_cases h2 : s[k].toNat = 45
        · rw [if_pos h2] at i1
          have hz2 : (s[k].toNat : Int) = 45 := by omega
          have J : Hid (Puny.dashFrom (s.data.toList.drop (k + 1)) (k + 1) k = Puny.dashAt s.data.toList ∧ Puny.wideB (s.data.toList.drop (k + 1)) = Puny.wideB s.data.toList ∧ w = wr) := ⟨i1, i2, hW⟩
          clear i1 i2 h1 h2 hW
          go_wp2
          go_roundg (s.size - k)
          case measure => omega
          case rel => exact ⟨k + 1, k, rfl, by go_num, by omega, by omega, by omega, J⟩
        · rw [if_neg h2] at i1
          have hz2 : ((s[k].toNat : Int) == 45) = false := by simp; omega
          have J : Hid (Puny.dashFrom (s.data.toList.drop (k + 1)) (k + 1) a = Puny.dashAt s.data.toList ∧ Puny.wideB (s.data.toList.drop (k + 1)) = Puny.wideB s.data.toList ∧ w = wr) := ⟨i1, i2, hW⟩
          clear i1 i2 h1 h2 hW
          go_wp2
          go_roundg (s.size - k)
          case measure => omega
          case rel => exact ⟨k + 1, a, rfl, by go_num, by omega, by omega, by omega, J⟩
    · obtain rfl : k = s.size := by omega
      obtain ⟨i1, i2, rfl⟩ := I.out
      rw [List.drop_of_length_le (by simp)] at i1 i2
      have hDl := Puny.dashAt_lt s.data.toList
      have hDz : a = Puny.dashAt s.data.toList := i1
      have hdec : Puny.decB s.data.toList = Puny.decL s.size (s.data.toList.drop (Puny.tailAt s.data.toList)) 72 true (Puny.start ((s.data.toList.take a).map Puny.byteZ)) := by
        unfold Puny.decB
        rw [← i2, if_neg (by decide), ← hDz]
        congr 1
      have htl : Puny.tailAt s.data.toList = if a = 0 then 0 else a + 1 := by unfold Puny.tailAt; rw [← hDz]
      have hal : a = 0 ∨ (0 < a ∧ a < s.size) := by
        rw [← hDz] at hDl
        have : a = 0 ∨ a < s.size := by simpa using hDl
        omega
      rw [htl] at hdec
      have HD := Lib.hid hdec
      clear i1 i2 I hDl hDz hdec htl
      go_wp2
      go_loopg [4, 7] (a + 1) (fun gk v s7 wr => ∃ k : Nat, s7 = .int .i64 k ∧ k ≤ a ∧ a - k < gk ∧ Hid (OwnR w.heap.size v ((s.data.toList.take k).map Puny.byteZ) wr ∧ Below w.heap.size w wr))
      case atStart => exact ⟨0, rfl, Nat.zero_le _, by omega, ⟨OwnR.nil _ _, Below.refl _ _⟩⟩
      case round =>
        obtain ⟨k, rfl, hk2, hg2, I⟩ := hrel
        by_cases hlt2 : k < a
        · have hkz : (k : Int) < (a : Int) := by omega
          have hks : k < s.size := by omega
          have hksz : (k : Int) < (s.size : Int) := by omega
          have hub : s[k].toNat < 256 := s[k].toNat_lt
          have hnx : (s.data.toList.take (k + 1)).map Puny.byteZ = (s.data.toList.take k).map Puny.byteZ ++ [(s[k].toNat : Int)] := by
            rw [List.take_succ_eq_append_getElem (by simpa using hks), List.map_append]
            rfl
          have hle : ((s.data.toList.take k).map Puny.byteZ).length ≤ 1000000 := by rw [List.length_map, List.length_take]; omega
          have HN := Lib.hid hnx
          clear hnx
          go_wp2_with (at_builtin; refine append_cells wr 56 21 (.int .i32 0) 4 Tryz.underlying56 info_i32 rfl (by omega) w.heap.size u4 _ _ I.out.1 I.out.2.size hle 1 (by omega) _ rfl rfl rfl _ _ rfl rfl rfl ?_; intro v3 w3 ho3 hb3; have HO := Lib.hid ho3; have HB3 := Lib.hid hb3; clear ho3 hb3)
          have I2 : Hid (OwnR w.heap.size v3 ((s.data.toList.take (k + 1)).map Puny.byteZ) w3 ∧ Below w.heap.size w w3) := by
            refine ⟨?_, I.out.2.trans HB3.out⟩
            rw [HN.out]
            exact OwnR.more HO.out rfl rfl
          go_roundg (a - k)
          case measure => omega
          case rel => exact ⟨k + 1, by go_num, by omega, by omega, I2⟩
        · obtain rfl : k = a := by omega
          rcases hal with h0 | ⟨h0, h00⟩
          · subst h0
            rw [if_pos (rfl : (0 : Nat) = 0)] at HD
            go_wp2
            go_loopg [4, 5, 8, 9, 10, 11, 12, 13, 14, 15] (s.size + 1) (fun gk v s5 s8 s9 s10 s11 _ _ _ _ wr => ∃ (a : Nat) (r : Puny.Rd) (b : Int) (f : Bool), s5 = .int .i64 a ∧ s8 = .int .i64 r.n ∧ s9 = .int .i64 r.i ∧ s10 = .int .i64 b ∧ s11 = .bool f ∧ a ≤ s.size ∧ s.size - a < gk ∧ 0 ≤ r.n ∧ r.n ≤ 1114111 ∧ 0 ≤ r.i ∧ r.i ≤ r.out.length ∧ r.out.length ≤ a ∧ 0 ≤ b ∧ b ≤ 5000000000 ∧
              Hid (OwnR w.heap.size v r.out wr ∧ Below w.heap.size w wr ∧ ∃ fuel, s.size ≤ a + fuel ∧ Puny.decB s.data.toList = Puny.decL fuel (s.data.toList.drop a) b f r))
            case atStart => exact ⟨0, Puny.start ((s.data.toList.take 0).map Puny.byteZ), 72, true, rfl, rfl, rfl, rfl, rfl, by omega, by omega, (show (0 : Int) ≤ 128 by decide), (show (128 : Int) ≤ 1114111 by decide), Int.le_refl _, Int.natCast_nonneg _, Nat.le_refl _, by decide, by decide, ⟨I.out.1, I.out.2, s.size, by omega, HD.out⟩⟩
            case round =>
              clear I HD
              obtain ⟨a, ⟨ro, rn, ri⟩, b, f, rfl, rfl, rfl, rfl, rfl, ha, hg3, hn0, hn1, hi0, hi1, hla, hb0, hb1, I⟩ := hrel
              simp only at hn0 hn1 hi0 hi1 hla I
              by_cases hlt3 : a < s.size
              · have haz : (a : Int) < (s.size : Int) := by omega
                have KN := number5_any (s.extract a s.size) b wr (by simp; omega) (by omega)
                rw [extract_drop] at KN
                have hd := drop_next s a hlt3
                cases hN : Puny.numB b (s.data.toList.drop a) 36 1 0 0 with
                | none =>
                  rw [hN] at KN
                  have hno : Puny.decB s.data.toList = none := by
                    obtain ⟨fuel, -, h⟩ := I.out.2.2
                    rw [h, hd]
                    rw [hd] at hN
                    exact Puny.decL_none hN
                  have HK := Lib.hid KN
                  have HNO := Lib.hid hno
                  clear KN hno hN hd
                  go_wp2_with fail
                  refine HK.out.mono ?_
                  rintro e w1 ⟨rfl, rfl⟩
                  simp only [Puny.numAns]
                  go_wp2
                  go_ret2
                  exact dec_no HNO.out I.out.2.1
                | some p =>
                  obtain ⟨d, u⟩ := p
                  rw [hN] at KN
                  obtain ⟨hd0, hd1, hu0, hu1⟩ := Puny.numB_bd b _ _ _ _ _ _ _ hN (by decide) (by decide)
                  have hu2 : u ≤ s.size - a := by simpa using hu1
                  unfold Puny.limit at hd1
                  have huz : ((u : Int) == 0) = false := by simp; omega
                  have HK := Lib.hid KN
                  have hbad := fun (r : Puny.Rd) (f : Bool) (fuel : Nat) (h : Puny.okStep r d = false) => Puny.decL_bad (k := fuel) (f := f) (hd ▸ hN) h
                  have hgood := fun (r : Puny.Rd) (f : Bool) (fuel : Nat) (h : Puny.okStep r d = true) => Puny.decL_more (k := fuel) (f := f) (hd ▸ hN) h
                  simp only [← hd] at hbad hgood
                  have HBAD := Lib.hid hbad
                  have HGOOD := Lib.hid hgood
                  clear KN hN hd hu1 hbad hgood
                  go_wp2_with fail
                  refine HK.out.mono ?_
                  rintro e w1 ⟨rfl, rfl⟩
                  simp only [Puny.numAns]
                  clear HK
                  by_cases hov : ri + d ≤ 2147483647
                  · have hsum : 0 ≤ ri + d := by omega
                    obtain ⟨A4, c4, hv4, hA4⟩ := I.out.1.shape
                    subst hv4
                    obtain ⟨L, hL⟩ : ∃ L, L = ro.length := ⟨_, rfl⟩
                    have hq0 := Int.ediv_nonneg hsum (show (0 : Int) ≤ (L : Int) + 1 by omega)
                    have hq1 := Int.ediv_le_self ((L : Int) + 1) hsum
                    have hm0 := Int.emod_nonneg (ri + d) (show (L : Int) + 1 ≠ 0 by omega)
                    have hm1 := Int.emod_lt_of_pos (ri + d) (show (0 : Int) < (L : Int) + 1 by omega)
                    obtain ⟨q, hq⟩ : ∃ q, (ri + d) / ((L : Int) + 1) = q := ⟨_, rfl⟩
                    obtain ⟨m, hm⟩ : ∃ m : Nat, (ri + d) % ((L : Int) + 1) = (m : Int) := ⟨((ri + d) % ((L : Int) + 1)).toNat, by omega⟩
                    rw [hq] at hq0 hq1
                    rw [hm] at hm0 hm1
                    have hML : m ≤ L := by omega
                    have hLz : (L : Int) ≤ 1000 := by omega
                    have hqz : q ≤ 2147483647 := by omega
                    have hiL : ri ≤ (L : Int) := by omega
                    have KA := Lib.hid (adapt5_any d ((L : Int) + 1) f wr (by omega) (by omega))
                    have hab := Puny.adapt_bd (delta := d) (count := (L : Int) + 1) f (by omega) (by omega)
                    obtain ⟨b', hb'⟩ : ∃ b', b' = Puny.adapt d ((L : Int) + 1) f := ⟨_, rfl⟩
                    rw [← hb'] at KA hab
                    rw [← hL]
                    have HB' := Lib.hid hb'
                    have HLL := Lib.hid hL
                    clear hb' hL
                    go_wp2_with fail
                    with_reducible refine KA.out.mono ?_
                    rintro e w1 ⟨rfl, rfl⟩
                    clear KA
                    by_cases hN : rn + q ≤ 1114111
                    · have KR := Lib.hid (refRight_any (rn + q) wr)
                      have hpos : (0 : Int) ≤ rn + q := by omega
                      go_wp2_with fail
                      with_reducible refine KR.out.mono ?_
                      rintro e w1 ⟨rfl, rfl⟩
                      clear KR
                      cases hR : rightZ (rn + q) with
                      | false =>
                        have hno : Puny.decB s.data.toList = none := by
                          obtain ⟨fuel, -, h⟩ := I.out.2.2
                          rw [h]
                          refine HBAD.out _ _ _ ?_
                          unfold Puny.okStep
                          show (decide (ri + d ≤ Puny.limit) && rightZ (rn + (ri + d) / ((ro.length : Int) + 1))) = false
                          rw [← HLL.out, hq, hR, Bool.and_false]
                        have HNO := Lib.hid hno
                        clear hno HBAD HGOOD
                        go_wp2
                        go_ret2
                        exact dec_no HNO.out I.out.2.1
                      | true =>
                        rcases I.out.1.parted with ⟨hv, hr0⟩ | ⟨g, c, hv, hcL, hg0, hg1⟩
                        · injection hv with hv1 hv2 hv3
                          subst hv1 hv3
                          have hL0 : L = 0 := by have := HLL.out; omega
                          subst hL0
                          have hm00 : m = 0 := by omega
                          subst hm00
                          have R1 : Hid (Runes (.slice none 0 0) (ro.take 0) wr) := Lib.hid (runes_nil wr)
                          have R2 : Hid (Runes (.slice none 0 0) (ro.drop 0) wr) := Lib.hid (by rw [hr0]; exact runes_nil wr)
                          have hLa : 0 ≤ a := by omega
                          clear hr0 hv2
                          go_wp2_with (first
                            | (at_builtin; refine append_row (wr.alloc (.cells #[] 21)) 56 21 (.int .i32 0) 4 Tryz.underlying56 info_i32 rfl (by omega) wr.heap.size _ _ _ (own_empty wr _ (Nat.le_refl _)) (by simp) (by omega) _ _ (R1.out.keep (below_one _ _)) (one_runes _) (by rw [List.length_map, List.length_take]; omega) rfl _ _ rfl rfl rfl ?_; intro v3 w3 ho3 hb3; have O3 : Hid (OwnR wr.heap.size v3 (ro.take 0) w3) := Lib.hid (OwnR.more (l := []) (ns := ro.take 0) ho3 rfl (by rw [List.length_map])); have B3 := Lib.hid ((below_one wr _).trans hb3); clear ho3 hb3)
                            | (at_builtin; refine append_cells w3 56 21 (.int .i32 0) 4 Tryz.underlying56 info_i32 rfl (by omega) wr.heap.size v3 _ _ O3.out B3.out.size (by rw [List.length_take]; omega) 1 (by omega) _ rfl rfl rfl _ _ rfl rfl rfl ?_; intro v4 w4 ho4 hb4; have O4 : Hid (OwnR wr.heap.size v4 (ro.take 0 ++ [rn + q]) w4) := Lib.hid (OwnR.more ho4 rfl rfl); have B4 := Lib.hid (B3.out.trans hb4); clear ho4 hb4)
                            | (at_builtin; refine append_row w4 56 21 (.int .i32 0) 4 Tryz.underlying56 info_i32 rfl (by omega) wr.heap.size _ _ _ O4.out B4.out.size (by simp only [List.length_append, List.length_take, List.length_singleton]; omega) _ _ (R2.out.keep B4.out) (one_runes _) (by rw [List.length_map, List.length_drop]; omega) rfl _ _ rfl rfl rfl ?_; intro v5 w5 ho5 hb5; have O5 : Hid (OwnR wr.heap.size v5 (ro.take 0 ++ [rn + q] ++ ro.drop 0) w5) := Lib.hid (OwnR.more (ns := ro.drop 0) ho5 rfl (by rw [List.length_map])); have B5 := Lib.hid (B4.out.trans hb5); clear ho5 hb5))
                          have J := dec_next I.out.2.2 HGOOD.out HLL.out hq hm HB'.out hov hR hlt3 hu0 O5.out
                          have I2 := Lib.hid (And.intro (J.1.lower I.out.2.1.size) (And.intro (I.out.2.1.trans (B5.out.mono I.out.2.1.size)) J.2.2))
                          have hl2 := J.2.1
                          clear I O3 O4 O5 J R1 R2 HGOOD HBAD HB'
                          go_roundg (s.size - a)
                          case measure => omega
                          case rel => exact ⟨a + u, ⟨ro.take 0 ++ [rn + q] ++ ro.drop 0, rn + q, ((0 : Nat) : Int) + 1⟩, b', false, by go_num, rfl, rfl, rfl, rfl, by omega, by omega, (show (0 : Int) ≤ rn + q by omega), (show rn + q ≤ 1114111 by omega), (show (0 : Int) ≤ ((0 : Nat) : Int) + 1 by omega), (show ((0 : Nat) : Int) + 1 ≤ (((ro.take 0 ++ [rn + q] ++ ro.drop 0).length : Nat) : Int) by rw [hl2]; omega), (show (ro.take 0 ++ [rn + q] ++ ro.drop 0).length ≤ a + u by rw [hl2]; omega), by omega, by omega, I2⟩
                        · injection hv with hv1 hv2 hv3
                          subst hv1 hv3
                          have hcz : (L : Int) ≤ (c4 : Int) := by rw [← HLL.out] at hcL; omega
                          have hmz : (m : Int) ≤ (L : Int) := by omega
                          have hmcz : (m : Int) ≤ (c4 : Int) := by omega
                          have hmr : m ≤ ro.length := by rw [← HLL.out]; exact hML
                          have hLa : L ≤ a := by rw [HLL.out]; exact hla
                          have R1 := Lib.hid (I.out.1.front hmr hcL hg1)
                          by_cases hmc : m = c4
                          · subst hmc
                            obtain rfl : L = m := by omega
                            have hdr : ro.drop L = [] := List.drop_of_length_le (by rw [HLL.out]; exact Nat.le_refl _)
                            have R2 : Hid (Runes (.slice (some ⟨g, 0, none⟩) 0 0) (ro.drop L) wr) := Lib.hid (by rw [hdr]; exact ⟨some ⟨g, 0, none⟩, 0, rfl, Nat.le_refl _, fun e => (by cases e), fun h => absurd h (by simp)⟩)
                            clear hdr
                            go_wp2_with (first
                              | (at_builtin; refine append_row (wr.alloc (.cells #[] 21)) 56 21 (.int .i32 0) 4 Tryz.underlying56 info_i32 rfl (by omega) wr.heap.size _ _ _ (own_empty wr _ (Nat.le_refl _)) (by simp) (by omega) _ _ (R1.out.keep (below_one _ _)) (one_runes _) (by rw [List.length_map, List.length_take]; omega) rfl _ _ rfl rfl rfl ?_; intro v3 w3 ho3 hb3; have O3 : Hid (OwnR wr.heap.size v3 (ro.take L) w3) := Lib.hid (OwnR.more (l := []) (ns := ro.take L) ho3 rfl (by rw [List.length_map])); have B3 := Lib.hid ((below_one wr _).trans hb3); clear ho3 hb3)
                              | (at_builtin; refine append_cells w3 56 21 (.int .i32 0) 4 Tryz.underlying56 info_i32 rfl (by omega) wr.heap.size v3 _ _ O3.out B3.out.size (by rw [List.length_take]; omega) 1 (by omega) _ rfl rfl rfl _ _ rfl rfl rfl ?_; intro v4 w4 ho4 hb4; have O4 : Hid (OwnR wr.heap.size v4 (ro.take L ++ [rn + q]) w4) := Lib.hid (OwnR.more ho4 rfl rfl); have B4 := Lib.hid (B3.out.trans hb4); clear ho4 hb4)
                              | (at_builtin; refine append_row w4 56 21 (.int .i32 0) 4 Tryz.underlying56 info_i32 rfl (by omega) wr.heap.size _ _ _ O4.out B4.out.size (by simp only [List.length_append, List.length_take, List.length_singleton]; omega) _ _ (R2.out.keep B4.out) (one_runes _) (by rw [List.length_map, List.length_drop]; omega) rfl _ _ rfl rfl rfl ?_; intro v5 w5 ho5 hb5; have O5 : Hid (OwnR wr.heap.size v5 (ro.take L ++ [rn + q] ++ ro.drop L) w5) := Lib.hid (OwnR.more (ns := ro.drop L) ho5 rfl (by rw [List.length_map])); have B5 := Lib.hid (B4.out.trans hb5); clear ho5 hb5))
                            have J := dec_next I.out.2.2 HGOOD.out HLL.out hq hm HB'.out hov hR hlt3 hu0 O5.out
                            have I2 := Lib.hid (And.intro (J.1.lower I.out.2.1.size) (And.intro (I.out.2.1.trans (B5.out.mono I.out.2.1.size)) J.2.2))
                            have hl2 := J.2.1
                            clear I O3 O4 O5 J R1 R2 HGOOD HBAD HB'
                            go_roundg (s.size - a)
                            case measure => omega
                            case rel => exact ⟨a + u, ⟨ro.take L ++ [rn + q] ++ ro.drop L, rn + q, L + 1⟩, b', false, by go_num, rfl, rfl, rfl, rfl, by omega, by omega, (show (0 : Int) ≤ rn + q by omega), (show rn + q ≤ 1114111 by omega), (show (0 : Int) ≤ (L : Int) + 1 by omega), (show (L : Int) + 1 ≤ (((ro.take L ++ [rn + q] ++ ro.drop L).length : Nat) : Int) by rw [hl2]; omega), (show (ro.take L ++ [rn + q] ++ ro.drop L).length ≤ a + u by rw [hl2]; omega), by omega, by omega, I2⟩
                          · have hmcz2 : ((c4 : Int) == (m : Int)) = false := by simp; omega
                            have R2 := I.out.1.back hmr hcL hg1
                            rw [← HLL.out] at R2
                            have R2 := Lib.hid R2
                            go_wp2_with (first
                              | (at_builtin; refine append_row (wr.alloc (.cells #[] 21)) 56 21 (.int .i32 0) 4 Tryz.underlying56 info_i32 rfl (by omega) wr.heap.size _ _ _ (own_empty wr _ (Nat.le_refl _)) (by simp) (by omega) _ _ (R1.out.keep (below_one _ _)) (one_runes _) (by rw [List.length_map, List.length_take]; omega) rfl _ _ rfl rfl rfl ?_; intro v3 w3 ho3 hb3; have O3 : Hid (OwnR wr.heap.size v3 (ro.take m) w3) := Lib.hid (OwnR.more (l := []) (ns := ro.take m) ho3 rfl (by rw [List.length_map])); have B3 := Lib.hid ((below_one wr _).trans hb3); clear ho3 hb3)
                              | (at_builtin; refine append_cells w3 56 21 (.int .i32 0) 4 Tryz.underlying56 info_i32 rfl (by omega) wr.heap.size v3 _ _ O3.out B3.out.size (by rw [List.length_take]; omega) 1 (by omega) _ rfl rfl rfl _ _ rfl rfl rfl ?_; intro v4 w4 ho4 hb4; have O4 : Hid (OwnR wr.heap.size v4 (ro.take m ++ [rn + q]) w4) := Lib.hid (OwnR.more ho4 rfl rfl); have B4 := Lib.hid (B3.out.trans hb4); clear ho4 hb4)
                              | (at_builtin; refine append_row w4 56 21 (.int .i32 0) 4 Tryz.underlying56 info_i32 rfl (by omega) wr.heap.size _ _ _ O4.out B4.out.size (by simp only [List.length_append, List.length_take, List.length_singleton]; omega) _ _ (R2.out.keep B4.out) (one_runes _) (by rw [List.length_map, List.length_drop]; omega) rfl _ _ rfl rfl rfl ?_; intro v5 w5 ho5 hb5; have O5 : Hid (OwnR wr.heap.size v5 (ro.take m ++ [rn + q] ++ ro.drop m) w5) := Lib.hid (OwnR.more (ns := ro.drop m) ho5 rfl (by rw [List.length_map])); have B5 := Lib.hid (B4.out.trans hb5); clear ho5 hb5))
                            have J := dec_next I.out.2.2 HGOOD.out HLL.out hq hm HB'.out hov hR hlt3 hu0 O5.out
                            have I2 := Lib.hid (And.intro (J.1.lower I.out.2.1.size) (And.intro (I.out.2.1.trans (B5.out.mono I.out.2.1.size)) J.2.2))
                            have hl2 := J.2.1
                            clear I O3 O4 O5 J R1 R2 HGOOD HBAD HB'
                            go_roundg (s.size - a)
                            case measure => omega
                            case rel => exact ⟨a + u, ⟨ro.take m ++ [rn + q] ++ ro.drop m, rn + q, m + 1⟩, b', false, by go_num, rfl, rfl, rfl, rfl, by omega, by omega, (show (0 : Int) ≤ rn + q by omega), (show rn + q ≤ 1114111 by omega), (show (0 : Int) ≤ (m : Int) + 1 by omega), (show (m : Int) + 1 ≤ (((ro.take m ++ [rn + q] ++ ro.drop m).length : Nat) : Int) by rw [hl2]; omega), (show (ro.take m ++ [rn + q] ++ ro.drop m).length ≤ a + u by rw [hl2]; omega), by omega, by omega, I2⟩
                    · have hNz : (1114111 : Int) < rn + q := by omega
                      have hno : Puny.decB s.data.toList = none := by
                        obtain ⟨fuel, -, h⟩ := I.out.2.2
                        rw [h]
                        refine HBAD.out _ _ _ ?_
                        unfold Puny.okStep
                        show (decide (ri + d ≤ Puny.limit) && rightZ (rn + (ri + d) / ((ro.length : Int) + 1))) = false
                        rw [← HLL.out, hq, (show rightZ (rn + q) = false by cases h : rightZ (rn + q) with | false => rfl | true => rw [rightZ_iff] at h; omega), Bool.and_false]
                      have HNO := Lib.hid hno
                      clear hno HBAD HGOOD
                      go_wp2
                      go_ret2
                      exact dec_no HNO.out I.out.2.1
                  · have hovz : (2147483647 : Int) < ri + d := by omega
                    have hno : Puny.decB s.data.toList = none := by
                      obtain ⟨fuel, -, h⟩ := I.out.2.2
                      rw [h]
                      exact HBAD.out _ _ _ (by unfold Puny.okStep Puny.limit; rw [decide_eq_false (by omega)]; rfl)
                    have HNO := Lib.hid hno
                    clear hno hov HBAD HGOOD
                    go_wp2
                    go_ret2
                    exact dec_no HNO.out I.out.2.1
              · obtain rfl : a = s.size := by omega
                obtain ⟨ho, hb, fuel, -, h⟩ := I.out
                rw [List.drop_of_length_le (by simp), Puny.decL] at h
                obtain ⟨A4, c4, rfl, -⟩ := ho.shape
                have HO := Lib.hid ho.runes
                have HB := Lib.hid hb
                have HH := Lib.hid h
                clear ho hb h I
                go_wp2
                go_ret2
                rw [HH.out]
                exact ⟨_, _, rfl, HO.out, HB.out⟩
          · have hkz : (0 : Int) < (k : Int) := by omega
            rw [if_neg (show ¬ k = 0 by omega)] at HD
            go_wp2
            go_loopg [4, 5, 8, 9, 10, 11, 12, 13, 14, 15] (s.size + 1) (fun gk v s5 s8 s9 s10 s11 _ _ _ _ wr => ∃ (a : Nat) (r : Puny.Rd) (b : Int) (f : Bool), s5 = .int .i64 a ∧ s8 = .int .i64 r.n ∧ s9 = .int .i64 r.i ∧ s10 = .int .i64 b ∧ s11 = .bool f ∧ a ≤ s.size ∧ s.size - a < gk ∧ 0 ≤ r.n ∧ r.n ≤ 1114111 ∧ 0 ≤ r.i ∧ r.i ≤ r.out.length ∧ r.out.length ≤ a ∧ 0 ≤ b ∧ b ≤ 5000000000 ∧
              Hid (OwnR w.heap.size v r.out wr ∧ Below w.heap.size w wr ∧ ∃ fuel, s.size ≤ a + fuel ∧ Puny.decB s.data.toList = Puny.decL fuel (s.data.toList.drop a) b f r))
            case atStart =>
              have hl : (Puny.start ((s.data.toList.take k).map Puny.byteZ)).out.length ≤ k + 1 := by simp only [Puny.start, List.length_map, List.length_take]; omega
              exact ⟨k + 1, Puny.start ((s.data.toList.take k).map Puny.byteZ), 72, true, by go_num, rfl, rfl, rfl, rfl, by omega, by omega, (show (0 : Int) ≤ 128 by decide), (show (128 : Int) ≤ 1114111 by decide), Int.le_refl _, Int.natCast_nonneg _, hl, by decide, by decide, ⟨I.out.1, I.out.2, s.size, by omega, HD.out⟩⟩
            case round =>
              clear I HD
              obtain ⟨a, ⟨ro, rn, ri⟩, b, f, rfl, rfl, rfl, rfl, rfl, ha, hg3, hn0, hn1, hi0, hi1, hla, hb0, hb1, I⟩ := hrel
              simp only at hn0 hn1 hi0 hi1 hla I
              by_cases hlt3 : a < s.size
              · have haz : (a : Int) < (s.size : Int) := by omega
                have KN := number5_any (s.extract a s.size) b wr (by simp; omega) (by omega)
                rw [extract_drop] at KN
                have hd := drop_next s a hlt3
                cases hN : Puny.numB b (s.data.toList.drop a) 36 1 0 0 with
                | none =>
                  rw [hN] at KN
                  have hno : Puny.decB s.data.toList = none := by
                    obtain ⟨fuel, -, h⟩ := I.out.2.2
                    rw [h, hd]
                    rw [hd] at hN
                    exact Puny.decL_none hN
                  have HK := Lib.hid KN
                  have HNO := Lib.hid hno
                  clear KN hno hN hd
                  go_wp2_with fail
                  refine HK.out.mono ?_
                  rintro e w1 ⟨rfl, rfl⟩
                  simp only [Puny.numAns]
                  go_wp2
                  go_ret2
                  exact dec_no HNO.out I.out.2.1
                | some p =>
                  obtain ⟨d, u⟩ := p
                  rw [hN] at KN
                  obtain ⟨hd0, hd1, hu0, hu1⟩ := Puny.numB_bd b _ _ _ _ _ _ _ hN (by decide) (by decide)
                  have hu2 : u ≤ s.size - a := by simpa using hu1
                  unfold Puny.limit at hd1
                  have huz : ((u : Int) == 0) = false := by simp; omega
                  have HK := Lib.hid KN
                  have hbad := fun (r : Puny.Rd) (f : Bool) (fuel : Nat) (h : Puny.okStep r d = false) => Puny.decL_bad (k := fuel) (f := f) (hd ▸ hN) h
                  have hgood := fun (r : Puny.Rd) (f : Bool) (fuel : Nat) (h : Puny.okStep r d = true) => Puny.decL_more (k := fuel) (f := f) (hd ▸ hN) h
                  simp only [← hd] at hbad hgood
                  have HBAD := Lib.hid hbad
                  have HGOOD := Lib.hid hgood
                  clear KN hN hd hu1 hbad hgood
                  go_wp2_with fail
                  refine HK.out.mono ?_
                  rintro e w1 ⟨rfl, rfl⟩
                  simp only [Puny.numAns]
                  clear HK
                  by_cases hov : ri + d ≤ 2147483647
                  · have hsum : 0 ≤ ri + d := by omega
                    obtain ⟨A4, c4, hv4, hA4⟩ := I.out.1.shape
                    subst hv4
                    obtain ⟨L, hL⟩ : ∃ L, L = ro.length := ⟨_, rfl⟩
                    have hq0 := Int.ediv_nonneg hsum (show (0 : Int) ≤ (L : Int) + 1 by omega)
                    have hq1 := Int.ediv_le_self ((L : Int) + 1) hsum
                    have hm0 := Int.emod_nonneg (ri + d) (show (L : Int) + 1 ≠ 0 by omega)
                    have hm1 := Int.emod_lt_of_pos (ri + d) (show (0 : Int) < (L : Int) + 1 by omega)
                    obtain ⟨q, hq⟩ : ∃ q, (ri + d) / ((L : Int) + 1) = q := ⟨_, rfl⟩
                    obtain ⟨m, hm⟩ : ∃ m : Nat, (ri + d) % ((L : Int) + 1) = (m : Int) := ⟨((ri + d) % ((L : Int) + 1)).toNat, by omega⟩
                    rw [hq] at hq0 hq1
                    rw [hm] at hm0 hm1
                    have hML : m ≤ L := by omega
                    have hLz : (L : Int) ≤ 1000 := by omega
                    have hqz : q ≤ 2147483647 := by omega
                    have hiL : ri ≤ (L : Int) := by omega
                    have KA := Lib.hid (adapt5_any d ((L : Int) + 1) f wr (by omega) (by omega))
                    have hab := Puny.adapt_bd (delta := d) (count := (L : Int) + 1) f (by omega) (by omega)
                    obtain ⟨b', hb'⟩ : ∃ b', b' = Puny.adapt d ((L : Int) + 1) f := ⟨_, rfl⟩
                    rw [← hb'] at KA hab
                    rw [← hL]
                    have HB' := Lib.hid hb'
                    have HLL := Lib.hid hL
                    clear hb' hL
                    go_wp2_with fail
                    with_reducible refine KA.out.mono ?_
                    rintro e w1 ⟨rfl, rfl⟩
                    clear KA
                    by_cases hN : rn + q ≤ 1114111
                    · have KR := Lib.hid (refRight_any (rn + q) wr)
                      have hpos : (0 : Int) ≤ rn + q := by omega
                      go_wp2_with fail
                      with_reducible refine KR.out.mono ?_
                      rintro e w1 ⟨rfl, rfl⟩
                      clear KR
                      cases hR : rightZ (rn + q) with
                      | false =>
                        have hno : Puny.decB s.data.toList = none := by
                          obtain ⟨fuel, -, h⟩ := I.out.2.2
                          rw [h]
                          refine HBAD.out _ _ _ ?_
                          unfold Puny.okStep
                          show (decide (ri + d ≤ Puny.limit) && rightZ (rn + (ri + d) / ((ro.length : Int) + 1))) = false
                          rw [← HLL.out, hq, hR, Bool.and_false]
                        have HNO := Lib.hid hno
                        clear hno HBAD HGOOD
                        go_wp2
                        go_ret2
                        exact dec_no HNO.out I.out.2.1
                      | true =>
                        rcases I.out.1.parted with ⟨hv, hr0⟩ | ⟨g, c, hv, hcL, hg0, hg1⟩
                        · injection hv with hv1 hv2 hv3
                          subst hv1 hv3
                          have hL0 : L = 0 := by have := HLL.out; omega
                          subst hL0
                          have hm00 : m = 0 := by omega
                          subst hm00
                          have R1 : Hid (Runes (.slice none 0 0) (ro.take 0) wr) := Lib.hid (runes_nil wr)
                          have R2 : Hid (Runes (.slice none 0 0) (ro.drop 0) wr) := Lib.hid (by rw [hr0]; exact runes_nil wr)
                          have hLa : 0 ≤ a := by omega
                          clear hr0 hv2
                          go_wp2_with (first
                            | (at_builtin; refine append_row (wr.alloc (.cells #[] 21)) 56 21 (.int .i32 0) 4 Tryz.underlying56 info_i32 rfl (by omega) wr.heap.size _ _ _ (own_empty wr _ (Nat.le_refl _)) (by simp) (by omega) _ _ (R1.out.keep (below_one _ _)) (one_runes _) (by rw [List.length_map, List.length_take]; omega) rfl _ _ rfl rfl rfl ?_; intro v3 w3 ho3 hb3; have O3 : Hid (OwnR wr.heap.size v3 (ro.take 0) w3) := Lib.hid (OwnR.more (l := []) (ns := ro.take 0) ho3 rfl (by rw [List.length_map])); have B3 := Lib.hid ((below_one wr _).trans hb3); clear ho3 hb3)
                            | (at_builtin; refine append_cells w3 56 21 (.int .i32 0) 4 Tryz.underlying56 info_i32 rfl (by omega) wr.heap.size v3 _ _ O3.out B3.out.size (by rw [List.length_take]; omega) 1 (by omega) _ rfl rfl rfl _ _ rfl rfl rfl ?_; intro v4 w4 ho4 hb4; have O4 : Hid (OwnR wr.heap.size v4 (ro.take 0 ++ [rn + q]) w4) := Lib.hid (OwnR.more ho4 rfl rfl); have B4 := Lib.hid (B3.out.trans hb4); clear ho4 hb4)
                            | (at_builtin; refine append_row w4 56 21 (.int .i32 0) 4 Tryz.underlying56 info_i32 rfl (by omega) wr.heap.size _ _ _ O4.out B4.out.size (by simp only [List.length_append, List.length_take, List.length_singleton]; omega) _ _ (R2.out.keep B4.out) (one_runes _) (by rw [List.length_map, List.length_drop]; omega) rfl _ _ rfl rfl rfl ?_; intro v5 w5 ho5 hb5; have O5 : Hid (OwnR wr.heap.size v5 (ro.take 0 ++ [rn + q] ++ ro.drop 0) w5) := Lib.hid (OwnR.more (ns := ro.drop 0) ho5 rfl (by rw [List.length_map])); have B5 := Lib.hid (B4.out.trans hb5); clear ho5 hb5))
                          have J := dec_next I.out.2.2 HGOOD.out HLL.out hq hm HB'.out hov hR hlt3 hu0 O5.out
                          have I2 := Lib.hid (And.intro (J.1.lower I.out.2.1.size) (And.intro (I.out.2.1.trans (B5.out.mono I.out.2.1.size)) J.2.2))
                          have hl2 := J.2.1
                          clear I O3 O4 O5 J R1 R2 HGOOD HBAD HB'
                          go_roundg (s.size - a)
                          case measure => omega
                          case rel => exact ⟨a + u, ⟨ro.take 0 ++ [rn + q] ++ ro.drop 0, rn + q, ((0 : Nat) : Int) + 1⟩, b', false, by go_num, rfl, rfl, rfl, rfl, by omega, by omega, (show (0 : Int) ≤ rn + q by omega), (show rn + q ≤ 1114111 by omega), (show (0 : Int) ≤ ((0 : Nat) : Int) + 1 by omega), (show ((0 : Nat) : Int) + 1 ≤ (((ro.take 0 ++ [rn + q] ++ ro.drop 0).length : Nat) : Int) by rw [hl2]; omega), (show (ro.take 0 ++ [rn + q] ++ ro.drop 0).length ≤ a + u by rw [hl2]; omega), by omega, by omega, I2⟩
                        · injection hv with hv1 hv2 hv3
                          subst hv1 hv3
                          have hcz : (L : Int) ≤ (c4 : Int) := by rw [← HLL.out] at hcL; omega
                          have hmz : (m : Int) ≤ (L : Int) := by omega
                          have hmcz : (m : Int) ≤ (c4 : Int) := by omega
                          have hmr : m ≤ ro.length := by rw [← HLL.out]; exact hML
                          have hLa : L ≤ a := by rw [HLL.out]; exact hla
                          have R1 := Lib.hid (I.out.1.front hmr hcL hg1)
                          by_cases hmc : m = c4
                          · subst hmc
                            obtain rfl : L = m := by omega
                            have hdr : ro.drop L = [] := List.drop_of_length_le (by rw [HLL.out]; exact Nat.le_refl _)
                            have R2 : Hid (Runes (.slice (some ⟨g, 0, none⟩) 0 0) (ro.drop L) wr) := Lib.hid (by rw [hdr]; exact ⟨some ⟨g, 0, none⟩, 0, rfl, Nat.le_refl _, fun e => (by cases e), fun h => absurd h (by simp)⟩)
                            clear hdr
                            go_wp2_with (first
                              | (at_builtin; refine append_row (wr.alloc (.cells #[] 21)) 56 21 (.int .i32 0) 4 Tryz.underlying56 info_i32 rfl (by omega) wr.heap.size _ _ _ (own_empty wr _ (Nat.le_refl _)) (by simp) (by omega) _ _ (R1.out.keep (below_one _ _)) (one_runes _) (by rw [List.length_map, List.length_take]; omega) rfl _ _ rfl rfl rfl ?_; intro v3 w3 ho3 hb3; have O3 : Hid (OwnR wr.heap.size v3 (ro.take L) w3) := Lib.hid (OwnR.more (l := []) (ns := ro.take L) ho3 rfl (by rw [List.length_map])); have B3 := Lib.hid ((below_one wr _).trans hb3); clear ho3 hb3)
                              | (at_builtin; refine append_cells w3 56 21 (.int .i32 0) 4 Tryz.underlying56 info_i32 rfl (by omega) wr.heap.size v3 _ _ O3.out B3.out.size (by rw [List.length_take]; omega) 1 (by omega) _ rfl rfl rfl _ _ rfl rfl rfl ?_; intro v4 w4 ho4 hb4; have O4 : Hid (OwnR wr.heap.size v4 (ro.take L ++ [rn + q]) w4) := Lib.hid (OwnR.more ho4 rfl rfl); have B4 := Lib.hid (B3.out.trans hb4); clear ho4 hb4)
                              | (at_builtin; refine append_row w4 56 21 (.int .i32 0) 4 Tryz.underlying56 info_i32 rfl (by omega) wr.heap.size _ _ _ O4.out B4.out.size (by simp only [List.length_append, List.length_take, List.length_singleton]; omega) _ _ (R2.out.keep B4.out) (one_runes _) (by rw [List.length_map, List.length_drop]; omega) rfl _ _ rfl rfl rfl ?_; intro v5 w5 ho5 hb5; have O5 : Hid (OwnR wr.heap.size v5 (ro.take L ++ [rn + q] ++ ro.drop L) w5) := Lib.hid (OwnR.more (ns := ro.drop L) ho5 rfl (by rw [List.length_map])); have B5 := Lib.hid (B4.out.trans hb5); clear ho5 hb5))
                            have J := dec_next I.out.2.2 HGOOD.out HLL.out hq hm HB'.out hov hR hlt3 hu0 O5.out
                            have I2 := Lib.hid (And.intro (J.1.lower I.out.2.1.size) (And.intro (I.out.2.1.trans (B5.out.mono I.out.2.1.size)) J.2.2))
                            have hl2 := J.2.1
                            clear I O3 O4 O5 J R1 R2 HGOOD HBAD HB'
                            go_roundg (s.size - a)
                            case measure => omega
                            case rel => exact ⟨a + u, ⟨ro.take L ++ [rn + q] ++ ro.drop L, rn + q, L + 1⟩, b', false, by go_num, rfl, rfl, rfl, rfl, by omega, by omega, (show (0 : Int) ≤ rn + q by omega), (show rn + q ≤ 1114111 by omega), (show (0 : Int) ≤ (L : Int) + 1 by omega), (show (L : Int) + 1 ≤ (((ro.take L ++ [rn + q] ++ ro.drop L).length : Nat) : Int) by rw [hl2]; omega), (show (ro.take L ++ [rn + q] ++ ro.drop L).length ≤ a + u by rw [hl2]; omega), by omega, by omega, I2⟩
                          · have hmcz2 : ((c4 : Int) == (m : Int)) = false := by simp; omega
                            have R2 := I.out.1.back hmr hcL hg1
                            rw [← HLL.out] at R2
                            have R2 := Lib.hid R2
                            go_wp2_with (first
                              | (at_builtin; refine append_row (wr.alloc (.cells #[] 21)) 56 21 (.int .i32 0) 4 Tryz.underlying56 info_i32 rfl (by omega) wr.heap.size _ _ _ (own_empty wr _ (Nat.le_refl _)) (by simp) (by omega) _ _ (R1.out.keep (below_one _ _)) (one_runes _) (by rw [List.length_map, List.length_take]; omega) rfl _ _ rfl rfl rfl ?_; intro v3 w3 ho3 hb3; have O3 : Hid (OwnR wr.heap.size v3 (ro.take m) w3) := Lib.hid (OwnR.more (l := []) (ns := ro.take m) ho3 rfl (by rw [List.length_map])); have B3 := Lib.hid ((below_one wr _).trans hb3); clear ho3 hb3)
                              | (at_builtin; refine append_cells w3 56 21 (.int .i32 0) 4 Tryz.underlying56 info_i32 rfl (by omega) wr.heap.size v3 _ _ O3.out B3.out.size (by rw [List.length_take]; omega) 1 (by omega) _ rfl rfl rfl _ _ rfl rfl rfl ?_; intro v4 w4 ho4 hb4; have O4 : Hid (OwnR wr.heap.size v4 (ro.take m ++ [rn + q]) w4) := Lib.hid (OwnR.more ho4 rfl rfl); have B4 := Lib.hid (B3.out.trans hb4); clear ho4 hb4)
                              | (at_builtin; refine append_row w4 56 21 (.int .i32 0) 4 Tryz.underlying56 info_i32 rfl (by omega) wr.heap.size _ _ _ O4.out B4.out.size (by simp only [List.length_append, List.length_take, List.length_singleton]; omega) _ _ (R2.out.keep B4.out) (one_runes _) (by rw [List.length_map, List.length_drop]; omega) rfl _ _ rfl rfl rfl ?_; intro v5 w5 ho5 hb5; have O5 : Hid (OwnR wr.heap.size v5 (ro.take m ++ [rn + q] ++ ro.drop m) w5) := Lib.hid (OwnR.more (ns := ro.drop m) ho5 rfl (by rw [List.length_map])); have B5 := Lib.hid (B4.out.trans hb5); clear ho5 hb5))
                            have J := dec_next I.out.2.2 HGOOD.out HLL.out hq hm HB'.out hov hR hlt3 hu0 O5.out
                            have I2 := Lib.hid (And.intro (J.1.lower I.out.2.1.size) (And.intro (I.out.2.1.trans (B5.out.mono I.out.2.1.size)) J.2.2))
                            have hl2 := J.2.1
                            clear I O3 O4 O5 J R1 R2 HGOOD HBAD HB'
                            go_roundg (s.size - a)
                            case measure => omega
                            case rel => exact ⟨a + u, ⟨ro.take m ++ [rn + q] ++ ro.drop m, rn + q, m + 1⟩, b', false, by go_num, rfl, rfl, rfl, rfl, by omega, by omega, (show (0 : Int) ≤ rn + q by omega), (show rn + q ≤ 1114111 by omega), (show (0 : Int) ≤ (m : Int) + 1 by omega), (show (m : Int) + 1 ≤ (((ro.take m ++ [rn + q] ++ ro.drop m).length : Nat) : Int) by rw [hl2]; omega), (show (ro.take m ++ [rn + q] ++ ro.drop m).length ≤ a + u by rw [hl2]; omega), by omega, by omega, I2⟩
                    · have hNz : (1114111 : Int) < rn + q := by omega
                      have hno : Puny.decB s.data.toList = none := by
                        obtain ⟨fuel, -, h⟩ := I.out.2.2
                        rw [h]
                        refine HBAD.out _ _ _ ?_
                        unfold Puny.okStep
                        show (decide (ri + d ≤ Puny.limit) && rightZ (rn + (ri + d) / ((ro.length : Int) + 1))) = false
                        rw [← HLL.out, hq, (show rightZ (rn + q) = false by cases h : rightZ (rn + q) with | false => rfl | true => rw [rightZ_iff] at h; omega), Bool.and_false]
                      have HNO := Lib.hid hno
                      clear hno HBAD HGOOD
                      go_wp2
                      go_ret2
                      exact dec_no HNO.out I.out.2.1
                  · have hovz : (2147483647 : Int) < ri + d := by omega
                    have hno : Puny.decB s.data.toList = none := by
                      obtain ⟨fuel, -, h⟩ := I.out.2.2
                      rw [h]
                      exact HBAD.out _ _ _ (by unfold Puny.okStep Puny.limit; rw [decide_eq_false (by omega)]; rfl)
                    have HNO := Lib.hid hno
                    clear hno hov HBAD HGOOD
                    go_wp2
                    go_ret2
                    exact dec_no HNO.out I.out.2.1
              · obtain rfl : a = s.size := by omega
                obtain ⟨ho, hb, fuel, -, h⟩ := I.out
                rw [List.drop_of_length_le (by simp), Puny.decL] at h
                obtain ⟨A4, c4, rfl, -⟩ := ho.shape
                have HO := Lib.hid ho.runes
                have HB := Lib.hid hb
                have HH := Lib.hid h
                clear ho hb h I
                go_wp2
                go_ret2
                rw [HH.out]
                exact ⟨_, _, rfl, HO.out, HB.out⟩
end Go.Proofs.YtbmgkfnoknomdaaGreat
namespace Go.Proofs.YtbmgkfnoknomdaaGreat
open Go.RowKit Utf
namespace Puny
/-- The number that a byte is the digit of. -/
def valB (c : UInt8) : Option Int := valOf (byteZ c)
theorem digB_toNat {n : Int} (h : 0 ≤ n ∧ n ≤ 35) : byteZ (digB n) = digN n := digB_val h
theorem valB_digB {n : Int} (h : 0 ≤ n ∧ n ≤ 35) : valB (digB n) = some n := by
  unfold valB
  rw [digB_toNat h]
  unfold digN
  by_cases h1 : n < 26
  · rw [if_pos h1]
    unfold valOf
    rw [if_pos (by omega)]
    congr 1
    omega
  · rw [if_neg h1]
    unfold valOf
    rw [if_neg (by omega), if_neg (by omega), if_pos (by omega)]
    congr 1
    omega
theorem digits_bd : ∀ (f : Nat) (n k b : Int), 0 ≤ n → n.toNat < f → ∀ x ∈ digits n k b, 0 ≤ x ∧ x ≤ 35
  | 0, _, _, _, _, h => by omega
  | f + 1, n, k, b, hn, hf => by
    have ht := thr_bd k b
    by_cases h : n < thr k b
    · rw [digits_last h]
      intro x hx
      rw [List.mem_singleton] at hx
      omega
    · have hl := less n (thr k b) ht.1 ht.2 (by omega)
      have hp := parts n (thr k b) ht.1 ht.2
      rw [digits_more (by omega)]
      intro x hx
      rcases List.mem_cons.1 hx with rfl | hx
      · omega
      · exact digits_bd f _ _ _ hl.1 (by omega) x hx
theorem emit_bd : ∀ (ds : List Int) (b c : Int) (f : Bool), (∀ d ∈ ds, 0 ≤ d) → ∀ x ∈ emit adapt ds b c f, 0 ≤ x ∧ x ≤ 35
  | [], _, _, _, _ => fun x hx => by cases hx
  | d :: ds, b, c, f, h => by
    intro x hx
    rw [emit_one] at hx
    rcases List.mem_append.1 hx with hx | hx
    · exact digits_bd (d.toNat + 1) d 36 b (h d (by simp)) (by omega) x hx
    · exact emit_bd ds _ _ _ (fun y hy => h y (by simp [hy])) x hx
theorem emit_len : ∀ (ds : List Int) (b c : Int) (f : Bool), ds.length ≤ (emit adapt ds b c f).length
  | [], _, _, _ => Nat.le_refl _
  | d :: ds, b, c, f => by
    rw [emit_one, List.length_append, List.length_cons]
    have := emit_len ds (adapt d (c + 1) f) (c + 1) false
    have := List.length_pos_iff.2 (digits_ne d 36 b)
    omega
theorem numB_num (b : Int) : ∀ (vs : List Int) (k w s : Int) (u : Nat), (∀ x ∈ vs, 0 ≤ x ∧ x ≤ 35) → numB b (vs.map digB) k w s u = num b vs k w s u
  | [], _, _, _, _, _ => rfl
  | x :: vs, k, w, s, u, h => by
    have hx := valB_digB (h x (by simp))
    unfold valB at hx
    have ih := fun k w s u => numB_num b vs k w s u (fun y hy => h y (by simp [hy]))
    rw [List.map_cons, numB, num, hx]
    simp only [ih]
theorem num_of_numB (b : Int) : ∀ (bs : List UInt8) (k w s : Int) (u : Nat) (x : Int) (v : Nat), numB b bs k w s u = some (x, v) →
    ∃ vs : List Int, (bs.take (v - u)).map valB = vs.map some ∧ num b vs k w s u = some (x, v) ∧ u + vs.length = v
  | [], _, _, _, _, _, _, h => by cases h
  | c :: l, k, w, s, u, x, v, h => by
    unfold numB at h
    cases hv : valOf (byteZ c) with
    | none => rw [hv] at h; cases h
    | some d =>
      rw [hv] at h
      simp only at h
      split at h
      · cases h
      · rename_i hlim
        split at h
        · rename_i ht
          have e := Option.some.inj h
          injection e with e1 e2
          subst e1 e2
          refine ⟨[d], ?_, ?_, by simp⟩
          · rw [show u + 1 - u = 1 by omega]
            simp [valB, hv]
          · rw [num, if_neg hlim, if_pos ht]
        · rename_i ht
          obtain ⟨vs, h1, h2, h3⟩ := num_of_numB b l _ _ _ _ _ _ h
          refine ⟨d :: vs, ?_, ?_, by simp only [List.length_cons]; omega⟩
          · rw [show v - u = (v - (u + 1)) + 1 by omega, List.take_succ_cons, List.map_cons, List.map_cons, h1]
            simp [valB, hv]
          · rw [num, if_neg hlim, if_neg ht, h2]
theorem valB_bd {c : UInt8} {d : Int} (h : valB c = some d) : 0 ≤ d ∧ d < 36 := by have := valOf_bd h; omega
theorem vals_bd {bs : List UInt8} {vs : List Int} (h : bs.map valB = vs.map some) : ∀ d ∈ vs, 0 ≤ d ∧ d < 36 := by
  intro d hd
  have : some d ∈ bs.map valB := by rw [h]; exact List.mem_map.2 ⟨d, hd, rfl⟩
  obtain ⟨c, -, hc⟩ := List.mem_map.1 this
  exact valB_bd hc
/-- A number that was read was written so. -/
theorem numB_back {b : Int} {bs : List UInt8} {d : Int} {m : Nat} (h : numB b bs 36 1 0 0 = some (d, m)) : 0 ≤ d ∧ 1 ≤ m ∧ m ≤ bs.length ∧ (bs.take m).map valB = (digits d 36 b).map some := by
  have hb := numB_bd b _ _ _ _ _ _ _ h (by decide) (by decide)
  obtain ⟨vs, h1, h2, h3⟩ := num_of_numB b _ _ _ _ _ _ _ h
  rw [Nat.sub_zero] at h1
  obtain ⟨n, j, hn, hx, hv, hj, -, ht⟩ := num_back b vs 36 1 0 0 d m (vals_bd h1) h2
  obtain rfl : d = n := by omega
  rw [List.take_of_length_le (by omega)] at ht
  rw [ht] at h1
  exact ⟨hn, by omega, by omega, h1⟩
theorem mem_insert {l : List Int} {k : Nat} {x y : Int} (hk : k ≤ l.length) (h : y ∈ l) : y ∈ l.insertIdx k x := by
  rw [insert_is l k x hk]
  rw [← List.take_append_drop k l] at h
  rcases List.mem_append.1 h with h | h
  · exact List.mem_append.2 (.inl h)
  · exact List.mem_append.2 (.inr (List.mem_cons_of_mem _ h))
theorem rstep_mem {r : Rd} {d : Int} : (rstep r d).n ∈ (rstep r d).out := by rw [rstep_out]; simp
theorem rstep_keep {r : Rd} {d y : Int} (h : y ∈ r.out) : y ∈ (rstep r d).out := by
  have h1 := Int.emod_nonneg (r.i + d) (b := r.out.length + 1) (by omega)
  have h2 := Int.emod_lt_of_pos (r.i + d) (b := r.out.length + 1) (by omega)
  exact mem_insert (by omega) h
theorem rall_keep : ∀ {ds : List Int} {r : Rd} {y : Int}, y ∈ r.out → y ∈ (rall r ds).out
  | [], _, _, h => h
  | _ :: ds, _, _, h => rall_keep (ds := ds) (rstep_keep h)
theorem rall_cons (r : Rd) (d : Int) (ds : List Int) : rall r (d :: ds) = rall (rstep r d) ds := rfl
/-- What deltas are written for is read of their digits. -/
theorem decL_emit : ∀ (ds : List Int) (r : Rd) (b : Int) (f : Bool) (fuel : Nat), (∀ d ∈ ds, 0 ≤ d) → 0 ≤ r.n → 0 ≤ r.i → r.out.length + ds.length ≤ 112 → (∀ x ∈ (rall r ds).out, rightZ x = true) → ds.length ≤ fuel →
    decL fuel (tailB ds b r.out.length f) b f r = some (rall r ds).out
  | [], r, b, f, fuel, _, _, _, _, _, _ => by unfold tailB emit; cases fuel <;> rfl
  | d :: ds, r, b, f, fuel, hd, hn, hi, hlen, hR, hf => by
    obtain ⟨k, rfl⟩ : ∃ k, fuel = k + 1 := ⟨fuel - 1, by simp only [List.length_cons] at hf; omega⟩
    have hd0 := hd d (by simp)
    have hn1 := hR _ (rall_keep (ds := ds) (rstep_mem (r := r) (d := d)))
    have hr1 := (rightZ_iff _).1 hn1
    have hL : r.out.length ≤ 111 := by simp only [List.length_cons] at hlen; omega
    have hq : (rstep r d).n = r.n + (r.i + d) / (r.out.length + 1) := rfl
    have hdm := Int.mul_ediv_add_emod (r.i + d) (r.out.length + 1)
    have hm1 := Int.emod_lt_of_pos (r.i + d) (b := r.out.length + 1) (by omega)
    have hm0 := Int.emod_nonneg (r.i + d) (b := r.out.length + 1) (by omega)
    have hqb : (r.i + d) / (r.out.length + 1) ≤ 1114111 := by omega
    have hqn : 0 ≤ (r.i + d) / (r.out.length + 1) := Int.ediv_nonneg (by omega) (by omega)
    have hmul : ((r.out.length : Int) + 1) * ((r.i + d) / (r.out.length + 1)) ≤ 112 * 1114111 := Int.mul_le_mul (by omega) hqb hqn (by decide)
    have hsum : r.i + d ≤ 126322567 := by omega
    have hok : okStep r d = true := by
      unfold okStep limit
      rw [← hq, hn1, decide_eq_true (by omega)]
      rfl
    have htl : tailB (d :: ds) b r.out.length f = digitsB d 36 b ++ tailB ds (adapt d ((r.out.length : Int) + 1) f) ((r.out.length : Int) + 1) false := tailB_one _ _ _ _ _
    have hval : ∀ x ∈ digits d 36 b ++ emit adapt ds (adapt d ((r.out.length : Int) + 1) f) ((r.out.length : Int) + 1) false, 0 ≤ x ∧ x ≤ 35 := by
      intro x hx
      rcases List.mem_append.1 hx with hx | hx
      · exact digits_bd (d.toNat + 1) d 36 b hd0 (by omega) x hx
      · exact emit_bd ds _ _ _ (fun y hy => hd y (by simp [hy])) x hx
    have hnum : numB b (tailB (d :: ds) b r.out.length f) 36 1 0 0 = some (d, (digitsB d 36 b).length) := by
      have h1 := num_digits b 126322567 (by decide) (d.toNat + 1) d 36 1 0 0 (emit adapt ds (adapt d ((r.out.length : Int) + 1) f) ((r.out.length : Int) + 1) false) (by omega) hd0 (by decide) (by decide) (by omega) (by decide) (fun _ => ⟨0, rfl⟩)
      rw [← numB_num b _ _ _ _ _ hval] at h1
      rw [show tailB (d :: ds) b r.out.length f = (digits d 36 b ++ emit adapt ds (adapt d ((r.out.length : Int) + 1) f) ((r.out.length : Int) + 1) false).map digB from rfl, h1]
      simp [digitsB]
    have hne : ∃ x l, tailB (d :: ds) b r.out.length f = x :: l := by
      cases hc : tailB (d :: ds) b r.out.length f with
      | nil =>
        have h1 := congrArg List.length hc
        rw [htl, List.length_append] at h1
        have h2 : (digitsB d 36 b).length = (digits d 36 b).length := by simp [digitsB]
        have h3 := List.length_pos_iff.2 (digits_ne d 36 b)
        simp only [List.length_nil] at h1
        omega
      | cons x l => exact ⟨x, l, rfl⟩
    obtain ⟨x, l, hxl⟩ := hne
    have hdrop : (tailB (d :: ds) b r.out.length f).drop (digitsB d 36 b).length = tailB ds (adapt d ((r.out.length : Int) + 1) f) ((r.out.length : Int) + 1) false := by rw [htl, List.drop_left]
    rw [hxl] at hnum hdrop ⊢
    rw [decL_more hnum hok, hdrop, rall_cons]
    have hl2 := rstep_len r d
    have ih := decL_emit ds (rstep r d) (adapt d ((r.out.length : Int) + 1) f) false k (fun y hy => hd y (by simp [hy])) (by omega) (by show 0 ≤ (r.i + d) % (r.out.length + 1) + 1; omega) (by rw [hl2]; simp only [List.length_cons] at hlen; omega) hR (by simp only [List.length_cons] at hf; omega)
    rw [hl2] at ih
    exact ih
end Puny
end Go.Proofs.YtbmgkfnoknomdaaGreat
namespace Go.Proofs.YtbmgkfnoknomdaaGreat
open Go.RowKit Utf
namespace Puny
/-- A byte's small one (as XFoldRef's smallB). -/
def smallU (b : UInt8) : UInt8 := if 65 ≤ b.toNat ∧ b.toNat ≤ 90 then UInt8.ofNat (b.toNat + 32) else b
theorem dashFrom_no : ∀ (t : List UInt8) (k a : Nat), (∀ c ∈ t, c.toNat ≠ 45) → dashFrom t k a = a
  | [], _, _, _ => rfl
  | c :: t, k, a, h => by
    unfold dashFrom
    rw [if_neg (h c (by simp)), dashFrom_no t _ _ fun x hx => h x (by simp [hx])]
theorem dashFrom_append : ∀ (x y : List UInt8) (k a : Nat), dashFrom (x ++ y) k a = dashFrom y (k + x.length) (dashFrom x k a)
  | [], y, k, a => rfl
  | c :: x, y, k, a => by
    rw [List.cons_append, dashFrom, dashFrom, dashFrom_append x y, List.length_cons]
    congr 1
    omega
theorem dashFrom_is : ∀ (t : List UInt8) (k a : Nat), dashFrom t k a = a ∨ ∃ j, dashFrom t k a = k + j ∧ ∃ h : j < t.length, (t[j]).toNat = 45
  | [], _, _ => .inl rfl
  | c :: t, k, a => by
    unfold dashFrom
    by_cases hc : c.toNat = 45
    · rw [if_pos hc]
      rcases dashFrom_is t (k + 1) k with h | ⟨j, h1, h2, h3⟩
      · exact .inr ⟨0, by rw [h]; rfl, by simp, hc⟩
      · exact .inr ⟨j + 1, by rw [h1]; omega, by simp only [List.length_cons]; omega, by simpa using h3⟩
    · rw [if_neg hc]
      rcases dashFrom_is t (k + 1) a with h | ⟨j, h1, h2, h3⟩
      · exact .inl h
      · exact .inr ⟨j + 1, by rw [h1]; omega, by simp only [List.length_cons]; omega, by simpa using h3⟩
/-- Behind a dash that is not the first byte, and ahead of it. -/
theorem at_dash {bs : List UInt8} (h : dashAt bs ≠ 0) : bs = bs.take (dashAt bs) ++ [45] ++ bs.drop (dashAt bs + 1) := by
  rcases dashFrom_is bs 0 0 with h0 | ⟨j, h1, h2, h3⟩
  · exact absurd h0 h
  · have e : dashAt bs = j := by unfold dashAt; rw [h1]; omega
    have e45 : bs[j] = 45 := by
      apply UInt8.toNat_inj.1
      rw [h3]
      rfl
    rw [e]
    rw [List.append_assoc, List.singleton_append, ← e45, ← List.drop_eq_getElem_cons h2, List.take_append_drop]
theorem digB_plain {n : Int} (h : 0 ≤ n ∧ n ≤ 35) : (digB n).toNat ≠ 45 ∧ (digB n).toNat < 128 := by
  have := digB_val h
  unfold digN at this
  split at this <;> omega
theorem tailB_plain {ds : List Int} (b c : Int) (f : Bool) (h : ∀ d ∈ ds, 0 ≤ d) : ∀ x ∈ tailB ds b c f, x.toNat ≠ 45 ∧ x.toNat < 128 := by
  intro x hx
  obtain ⟨v, hv, rfl⟩ := List.mem_map.1 hx
  exact digB_plain (emit_bd ds b c f h v hv)
theorem lt_mem {m : Int} {l : List Int} {x : Int} (h : x ∈ lt m l) : x ∈ l ∧ x < m := by
  unfold lt at h
  have := List.mem_filter.1 h
  exact ⟨this.1, by simpa using this.2⟩
theorem plainB_back {l : List Int} (h : ∀ x ∈ l, 0 ≤ x) : (plainB l).map byteZ = lt 128 l := by
  unfold plainB
  rw [List.map_map]
  refine (List.map_congr_left fun x hx => ?_).trans (List.map_id _)
  have := lt_mem hx
  have h0 := h x this.1
  show ((UInt8.ofNat x.toNat).toNat : Int) = x
  rw [UInt8.toNat_ofNat_of_lt' (by show x.toNat < 256; omega)]
  omega
theorem plainB_lt {l : List Int} (h : ∀ x ∈ l, 0 ≤ x) : ∀ c ∈ plainB l, c.toNat < 128 := by
  intro c hc
  unfold plainB at hc
  obtain ⟨x, hx, rfl⟩ := List.mem_map.1 hc
  have := lt_mem hx
  have h0 := h x this.1
  rw [UInt8.toNat_ofNat_of_lt' (by show x.toNat < 256; omega)]
  omega
theorem rights_mem {l : List Int} (h : rightsZ l = true) : ∀ x ∈ l, rightZ x = true := by
  unfold rightsZ at h
  rwa [List.all_eq_true] at h
theorem rights_nn {l : List Int} (h : rightsZ l = true) : ∀ x ∈ l, 0 ≤ x := fun x hx => ((rightZ_iff x).1 (rights_mem h x hx)).1
theorem deltas_nn {l : List Int} (h : ∀ x ∈ l, x < 1114112) : ∀ d ∈ deltas l, 0 ≤ d := rows_nonneg l _ _ _ (deltas_rises l h) (by decide)
/-- The deltas of characters tell them. -/
theorem deltas_read {l : List Int} (h : rightsZ l = true) : (rall (start (lt 128 l)) (deltas l)).out = l := write_read l _ (deltas_rises l (rights_lt h))
theorem deltas_len {l : List Int} (h : rightsZ l = true) : (lt 128 l).length + (deltas l).length = l.length := by
  have h1 := rall_len (deltas l) (start (lt 128 l)) (start_kept fun x hx => (lt_mem hx).2) (deltas_nn (rights_lt h))
  rw [deltas_read h] at h1
  exact h1.symm
theorem wide_no {bs : List UInt8} (h : ∀ c ∈ bs, c.toNat < 128) : wideB bs = false := by
  unfold wideB
  rw [List.any_eq_false]
  intro c hc
  have := h c hc
  simp
  omega
theorem encB_lt {l : List Int} (h : rightsZ l = true) : ∀ c ∈ encB l, c.toNat < 128 := by
  intro c hc
  unfold encB at hc
  rcases List.mem_append.1 hc with hc | hc
  · rcases List.mem_append.1 hc with hc | hc
    · exact plainB_lt (rights_nn h) c hc
    · unfold dashB at hc
      split at hc
      · cases hc
      · rw [List.mem_singleton] at hc; subst hc; decide
  · exact (tailB_plain _ _ _ (deltas_nn (rights_lt h)) c hc).2
theorem encB_dash {l : List Int} (h : rightsZ l = true) : dashAt (encB l) = (plainB l).length ∧ (encB l).drop (tailAt (encB l)) = tailB (deltas l) 72 (lt 128 l).length true := by
  have hno := fun c hc => (tailB_plain 72 (lt 128 l).length true (deltas_nn (rights_lt h)) c hc).1
  have hpl : (plainB l).length = (lt 128 l).length := by unfold plainB; rw [List.length_map]
  by_cases h0 : (lt 128 l).length = 0
  · have hp : plainB l = [] := List.eq_nil_of_length_eq_zero (by omega)
    have he : encB l = tailB (deltas l) 72 (lt 128 l).length true := by unfold encB dashB; rw [hp, if_pos h0]; rfl
    have hd : dashAt (encB l) = 0 := by rw [he]; exact dashFrom_no _ _ _ hno
    refine ⟨by rw [hd, hp]; rfl, ?_⟩
    unfold tailAt
    rw [hd, if_pos rfl, he, List.drop_zero]
  · have he : encB l = plainB l ++ [45] ++ tailB (deltas l) 72 (lt 128 l).length true := by unfold encB dashB; rw [if_neg h0]
    have hd : dashAt (encB l) = (plainB l).length := by
      unfold dashAt
      rw [he, dashFrom_append, dashFrom_no _ _ _ hno, dashFrom_append]
      rw [dashFrom, dashFrom, if_pos (by decide)]
      omega
    refine ⟨hd, ?_⟩
    unfold tailAt
    rw [hd, if_neg (by omega), he]
    rw [show (plainB l).length + 1 = (plainB l ++ [45]).length by simp, List.drop_left]
/-- What is encoded is decoded as it was. -/
theorem dec_enc {l : List Int} (h : rightsZ l = true) (hn : l.length ≤ 110) : decB (encB l) = some l := by
  obtain ⟨h1, h2⟩ := encB_dash h
  have hl := deltas_len h
  have htk : (encB l).take (plainB l).length = plainB l := by unfold encB; rw [List.append_assoc, List.take_left]
  have hfu : (deltas l).length ≤ (encB l).length := by
    have : (tailB (deltas l) 72 (lt 128 l).length true).length ≤ (encB l).length := by unfold encB; rw [List.length_append]; omega
    have h3 := emit_len (deltas l) 72 (lt 128 l).length true
    unfold tailB at this
    rw [List.length_map] at this
    omega
  unfold decB
  rw [wide_no (encB_lt h), if_neg (by decide), h2, h1, htk, plainB_back (rights_nn h)]
  have key := decL_emit (deltas l) (start (lt 128 l)) 72 true (encB l).length (deltas_nn (rights_lt h)) (show (0 : Int) ≤ 128 by decide) (Int.le_refl 0) (by show (lt 128 l).length + _ ≤ 112; omega) (by rw [deltas_read h]; exact rights_mem h) hfu
  rw [deltas_read h] at key
  exact key
/-- What was read: its deltas. -/
theorem decL_back : ∀ (fuel : Nat) (bs : List UInt8) (b : Int) (f : Bool) (r : Rd) (out : List Int), decL fuel bs b f r = some out → 128 ≤ r.n → 0 ≤ r.i → (∀ x ∈ r.out, rightZ x = true) →
    ∃ ds : List Int, (∀ d ∈ ds, 0 ≤ d) ∧ out = (rall r ds).out ∧ bs.map valB = (emit adapt ds b r.out.length f).map some ∧ (∀ x ∈ out, rightZ x = true) ∧ lt 128 out = lt 128 r.out
  | fuel, [], b, f, r, out, h, _, _, hr => by
    have : some r.out = some out := by cases fuel <;> exact h
    have := Option.some.inj this
    subst this
    exact ⟨[], (fun d hd => by cases hd), rfl, rfl, hr, rfl⟩
  | 0, _ :: _, _, _, _, _, h, _, _, _ => by cases h
  | k + 1, x :: l, b, f, r, out, h, hn, hi, hr => by
    cases hN : numB b (x :: l) 36 1 0 0 with
    | none => rw [decL_none hN] at h; cases h
    | some p =>
      obtain ⟨d, m⟩ := p
      cases hok : okStep r d with
      | false => rw [decL_bad hN hok] at h; cases h
      | true =>
        rw [decL_more hN hok] at h
        obtain ⟨hd0, hm1, hml, hdig⟩ := numB_back hN
        have hq : (rstep r d).n = r.n + (r.i + d) / (r.out.length + 1) := rfl
        have hqn : 0 ≤ (r.i + d) / (r.out.length + 1) := Int.ediv_nonneg (by omega) (by omega)
        have hm0 := Int.emod_nonneg (r.i + d) (b := r.out.length + 1) (by omega)
        have hnr : rightZ (rstep r d).n = true := by
          unfold okStep at hok
          rw [Bool.and_eq_true] at hok
          rw [hq]
          exact hok.2
        have hout := rstep_out r d
        have hmem : ∀ y ∈ (rstep r d).out, y = (rstep r d).n ∨ y ∈ r.out := by
          intro y hy
          rw [hout] at hy
          rcases List.mem_append.1 hy with hy | hy
          · exact .inr (List.mem_of_mem_take hy)
          · rcases List.mem_cons.1 hy with hy | hy
            · exact .inl hy
            · exact .inr (List.mem_of_mem_drop hy)
        have hlt : lt 128 (rstep r d).out = lt 128 r.out := by
          rw [hout]
          unfold lt
          rw [List.filter_append, List.filter_cons_of_neg (by simp; omega), ← List.filter_append, List.take_append_drop]
        obtain ⟨ds, h1, h2, h3, h4, h5⟩ := decL_back k _ _ _ (rstep r d) out h (by omega) (by show 0 ≤ (r.i + d) % (r.out.length + 1) + 1; omega) (fun y hy => by rcases hmem y hy with rfl | hy; exact hnr; exact hr y hy)
        refine ⟨d :: ds, ?_, h2, ?_, h4, by rw [h5, hlt]⟩
        · intro e he
          rcases List.mem_cons.1 he with rfl | he
          · exact hd0
          · exact h1 e he
        · rw [emit_one, List.map_append, ← hdig]
          rw [rstep_len] at h3
          rw [show ((r.out.length + 1 : Nat) : Int) = (r.out.length : Int) + 1 by omega] at h3
          rw [← h3, ← List.map_append, List.take_append_drop]
theorem smallB_digit {c : UInt8} {v : Int} (h : valB c = some v) : smallU c = digB v := by
  have hc := lt256 c
  have hv := valB_bd h
  have hd := digB_val (n := v) (by omega)
  apply UInt8.toNat_inj.1
  unfold valB valOf byteZ at h
  unfold digN at hd
  unfold smallU
  split at h
  · have := Option.some.inj h
    rw [if_neg (by omega)]
    split at hd <;> omega
  · split at h
    · have := Option.some.inj h
      rw [if_pos (by omega), UInt8.toNat_ofNat_of_lt' (by show c.toNat + 32 < 256; omega)]
      split at hd <;> omega
    · split at h
      · have := Option.some.inj h
        rw [if_neg (by omega)]
        split at hd <;> omega
      · cases h
theorem small_digB {v : Int} (h : 0 ≤ v ∧ v ≤ 35) : smallU (digB v) = digB v := smallB_digit (valB_digB h)
theorem small_tail {bs : List UInt8} {vs : List Int} (h : bs.map valB = vs.map some) : bs.map smallU = vs.map digB := by
  induction bs generalizing vs with
  | nil =>
    cases vs with
    | nil => rfl
    | cons v vs => cases h
  | cons c bs ih =>
    cases vs with
    | nil => cases h
    | cons v vs =>
      rw [List.map_cons, List.map_cons] at h
      injection h with h1 h2
      rw [List.map_cons, List.map_cons, smallB_digit h1, ih h2]
/-- What is decoded is encoded so, but for the case of digits. -/
theorem enc_dec {bs : List UInt8} {l : List Int} (h : decB bs = some l) : rightsZ l = true ∧ (encB l).map smallU = bs.map smallU ∧ l.length ≤ bs.length := by
  unfold decB at h
  cases hw : wideB bs with
  | true => rw [hw] at h; cases h
  | false =>
    rw [hw, if_neg (by decide)] at h
    have hb : ∀ c ∈ bs, c.toNat < 128 := by
      intro c hc
      unfold wideB at hw
      rw [List.any_eq_false] at hw
      have := hw c hc
      simp at this
      omega
    have hp : ∀ x ∈ (bs.take (dashAt bs)).map byteZ, 0 ≤ x ∧ x < 128 := by
      intro x hx
      obtain ⟨c, hc, rfl⟩ := List.mem_map.1 hx
      have := hb c (List.mem_of_mem_take hc)
      unfold byteZ
      omega
    obtain ⟨ds, h1, h2, h3, h4, h5⟩ := decL_back _ _ _ _ _ _ h (Int.le_refl 128) (Int.le_refl 0) (fun x hx => (rightZ_iff x).2 (by have := hp x hx; omega))
    have hR : rightsZ l = true := by unfold rightsZ; rw [List.all_eq_true]; exact h4
    have hpl : lt 128 l = (bs.take (dashAt bs)).map byteZ := by rw [h5]; exact lt_all fun x hx => (hp x hx).2
    have hds : deltas l = ds := read_write (fun x hx => (hp x hx).2) h1 h2.symm hpl (deltas_rises l (rights_lt hR))
    have hlen : (lt 128 l).length = (bs.take (dashAt bs)).length := by rw [hpl, List.length_map]
    have hpb : plainB l = bs.take (dashAt bs) := by
      unfold plainB
      rw [hpl, List.map_map]
      refine (List.map_congr_left fun c _ => ?_).trans (List.map_id _)
      show UInt8.ofNat ((c.toNat : Int)).toNat = c
      rw [Int.toNat_natCast]
      exact UInt8.ofNat_toNat
    have hso : (start ((bs.take (dashAt bs)).map byteZ)).out.length = (lt 128 l).length := by rw [hpl]; rfl
    rw [hso] at h3
    have htl : (tailB (deltas l) 72 (lt 128 l).length true).map smallU = (bs.drop (tailAt bs)).map smallU := by
      rw [small_tail h3, hds]
      unfold tailB
      rw [List.map_map]
      exact List.map_congr_left fun v hv => small_digB (emit_bd ds _ _ _ h1 v hv)
    have hdl := deltas_len hR
    have hll : ds.length ≤ (bs.drop (tailAt bs)).length := by
      have e1 := congrArg List.length h3
      rw [List.length_map, List.length_map] at e1
      have := emit_len ds 72 (lt 128 l).length true
      omega
    refine ⟨hR, ?_, ?_⟩
    · unfold encB
      rw [List.map_append, htl, List.map_append, hpb]
      by_cases h0 : dashAt bs = 0
      · have : (lt 128 l).length = 0 := by rw [hlen, h0]; rfl
        unfold dashB tailAt
        rw [if_pos this, if_pos h0, h0]
        rfl
      · have h7 : ¬ (lt 128 l).length = 0 := by
          have := dashAt_lt bs
          rw [hlen, List.length_take]
          omega
        unfold dashB tailAt
        rw [if_neg h7, if_neg h0, ← List.map_append, ← List.map_append, ← at_dash h0]
    · have h8 := tailAt_le bs
      have h9 := dashAt_lt bs
      rw [List.length_drop] at hll
      rw [List.length_take] at hlen
      rw [hds] at hdl
      unfold tailAt at hll h8
      split at hll <;> omega
end Puny
end Go.Proofs.YtbmgkfnoknomdaaGreat
