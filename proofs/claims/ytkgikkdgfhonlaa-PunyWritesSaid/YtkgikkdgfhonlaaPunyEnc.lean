/-
  Proved here: the document's own 'Encode' of layer 5. Conditions: the slice can be read, and holds at most 100 numbers.
-/
import Derived.Test.YtkgikkdgfhonlaaPunyRef
import Derived.Test.YtkgikkdgfhonlaaPunyWrite
import Derived.Test.YtkgikkdgfhonlaaUtfMore
namespace Go.Proofs.Ytkgikkdgfhonlaa
open Go.RowKit Utf
namespace Puny
theorem adLoop_bd : ∀ (f : Nat) (d k : Int), 0 ≤ d → k ≤ adLoop f d k ∧ adLoop f d k ≤ k + d + 36
  | 0, d, k, h => by
    have h1 : 0 ≤ 36 * d / (d + 38) := Int.ediv_nonneg (by omega) (by omega)
    have h2 : 36 * d / (d + 38) ≤ 36 := by
      have := Int.ediv_le_ediv (c := d + 38) (by omega) (show 36 * d ≤ 36 * (d + 38) by omega)
      rwa [Int.mul_ediv_cancel _ (by omega)] at this
    unfold adLoop
    omega
  | f + 1, d, k, h => by
    unfold adLoop
    split
    · have := adLoop_bd f (d / 35) (k + 36) (by omega)
      omega
    · have h1 : 0 ≤ 36 * d / (d + 38) := Int.ediv_nonneg (by omega) (by omega)
      have h2 : 36 * d / (d + 38) ≤ 36 := by
        have := Int.ediv_le_ediv (c := d + 38) (by omega) (show 36 * d ≤ 36 * (d + 38) by omega)
        rwa [Int.mul_ediv_cancel _ (by omega)] at this
      omega
theorem adapt_bd {delta count : Int} (first : Bool) (hd : 0 ≤ delta ∧ delta ≤ 2147483647) (hc : 1 ≤ count) : 0 ≤ adapt delta count first ∧ adapt delta count first ≤ 5000000000 := by
  unfold adapt
  obtain ⟨d, hdd⟩ : ∃ d, d = (if first then delta / 700 else delta / 2) := ⟨_, rfl⟩
  rw [← hdd]
  have hb : 0 ≤ d ∧ d ≤ 2147483647 := by rw [hdd]; split <;> omega
  have hq0 : 0 ≤ d / count := Int.ediv_nonneg hb.1 (by omega)
  have hq1 : d / count ≤ d := Int.ediv_le_self _ hb.1
  have := adLoop_bd (d + d / count).toNat (d + d / count) 0 (by omega)
  unfold bend
  omega
theorem digs_len : ∀ (f : Nat) (n k b : Int), (digs f n k b).length ≤ f
  | 0, _, _, _ => Nat.le_refl _
  | f + 1, n, k, b => by
    unfold digs
    split
    · simp
    · simp only [List.length_cons]
      have := digs_len f ((n - thr k b) / (36 - thr k b)) (k + 36) b
      omega
theorem digitsB_len (n k b : Int) : (digitsB n k b).length ≤ n.toNat + 1 := by
  unfold digitsB digits
  rw [List.length_map]
  exact digs_len _ _ _ _
/-- What is still to be written, as bytes. -/
def tailB (ds : List Int) (b c : Int) (f : Bool) : List UInt8 := (emit adapt ds b c f).map digB
theorem tailB_one (d : Int) (ds : List Int) (b c : Int) (f : Bool) : tailB (d :: ds) b c f = digitsB d 36 b ++ tailB ds (adapt d (c + 1) f) (c + 1) false := by
  unfold tailB digitsB
  rw [emit_one, List.map_append]
def plainB (l : List Int) : List UInt8 := (lt 128 l).map fun x => UInt8.ofNat x.toNat
def dashB (l : List Int) : List UInt8 := if (lt 128 l).length = 0 then [] else [45]
/-- What Encode writes. -/
def encB (l : List Int) : List UInt8 := plainB l ++ dashB l ++ tailB (deltas l) 72 (lt 128 l).length true
theorem msF_done {f : Nat} {l : List Int} {n : Int} (h : (lt n l).length = l.length) : msF f l n = [] := by
  cases f with
  | zero => rfl
  | succ f => unfold msF; rw [if_pos h]
theorem msF_more {f : Nat} {l : List Int} {n : Int} (h : (lt n l).length ≠ l.length) : msF (f + 1) l n = least n l 1114112 :: msF f l (least n l 1114112 + 1) := by rw [msF, if_neg h]
theorem least_cons (n x : Int) (t : List Int) (z : Int) : least n (x :: t) z = least n t (if n ≤ x ∧ x < z then x else z) := rfl
theorem le_len (m : Int) (l : List Int) : (le m l).length ≤ l.length := by unfold le; exact List.length_filter_le _ _
theorem lt_snoc (m : Int) (p : List Int) (x : Int) : lt m (p ++ [x]) = if x < m then lt m p ++ [x] else lt m p := by
  unfold lt
  rw [List.filter_append]
  by_cases h : x < m <;> simp [h]
end Puny
theorem byte_convZ (W : World) (x : Int) (h : 0 ≤ x ∧ x < 256) : (convert 42 9 (.slice (some ⟨W.heap.size, 0, none⟩) 1 1)).run Try.prog (W.alloc (.cells #[.int .u8 x] 5)) = .ok (.string ⟨#[UInt8.ofNat x.toNat]⟩) (W.alloc (.cells #[.int .u8 x] 5)) := by
  have e : x = ((UInt8.ofNat x.toNat).toNat : Int) := by
    rw [UInt8.toNat_ofNat', Nat.mod_eq_of_lt (by show x.toNat < 256; omega)]
    omega
  have := byte_conv W (UInt8.ofNat x.toNat)
  rwa [← e] at this
/-- A writer's answer. -/
def Wrote (bs : List UInt8) (ok : Bool) (w : World) (e : Ending) (w' : World) : Prop := e = .returned (.tuple #[.string ⟨bs.toArray⟩, .bool ok]) ∧ Below w.heap.size w w'
theorem rightsZ_at {l : List Int} {k : Nat} (h : k < l.length) (hr : rightsZ l = true) : rightZ l[k]! = true := by
  unfold rightsZ at hr
  rw [getElem!_pos l k h]
  exact List.all_eq_true.1 hr _ (List.getElem_mem h)
theorem rights_lt {l : List Int} (h : rightsZ l = true) : ∀ x ∈ l, x < 1114112 := fun x hx => by
  unfold rightsZ at h
  have := (rightZ_iff x).1 (List.all_eq_true.1 h x hx)
  omega
theorem cat_bytes (S T : ByteArray) : (S ++ T).data.toList = S.data.toList ++ T.data.toList := by rw [ByteArray.data_append, Array.toList_append]
set_option maxHeartbeats 8000000 in
set_option maxRecDepth 100000 in
theorem encode5_yes (v : Value) (l : List Int) (w : World) (hl : Runes v l w) (hn : l.length ≤ 100) (hr : rightsZ l = true) :
    Calls Try.prog 17 #[v] w (Wrote (Puny.encB l) true w) := by
  obtain ⟨A, c, rfl, -, hcell⟩ := hl.form
  have HC := Lib.hid hcell
  have HR := Lib.hid hr
  have LT := Lib.hid (rights_lt hr)
  clear hl hcell hr
  go_enter Try.func17, Try.ntmps17
  go_wp2
  go_loopg [4, 5, 6] (l.length + 1) (fun gk s4 s5 i wr => ∃ (k q : Nat) (S : ByteArray), k ≤ l.length ∧ i = .int .i64 k ∧ s4 = .string S ∧ s5 = .int .i64 q ∧ q ≤ k ∧ S.size ≤ k ∧ l.length - k < gk ∧ Hid (S.data.toList = Puny.plainB (l.take k) ∧ q = (Puny.lt 128 (l.take k)).length ∧ Below w.heap.size w wr))
  case atStart => exact ⟨0, 0, ⟨#[]⟩, Nat.zero_le _, rfl, rfl, rfl, Nat.le_refl _, Nat.le_refl _, by omega, ⟨rfl, rfl, Below.refl _ _⟩⟩
  case round =>
    obtain ⟨k, q, S, hk, rfl, rfl, rfl, hqk, hSk, hg, I⟩ := hrel
    by_cases hlt : k < l.length
    · obtain ⟨ad, rfl, hb, hx⟩ := HC.out k hlt
      have hx' := (I.out.2.2.cell (by rw [add_block]; exact hb)).trans hx
      obtain ⟨x, hxe⟩ : ∃ x, x = l[k]! := ⟨_, rfl⟩
      have hrx := rightsZ_at hlt HR.out
      rw [← hxe] at hx' hrx
      have hx0 := (rightZ_iff x).1 hrx
      have ht : l.take (k + 1) = l.take k ++ [x] := by rw [Utf.take_next l k hlt, ← hxe]
      have KR := Lib.hid (refRight_any x wr)
      rw [hrx] at KR
      have HT := Lib.hid ht
      have hkz : (k : Int) < (l.length : Int) := by omega
      clear hx hb hxe hrx ht
      by_cases hp : x < 128
      · have hconv := byte_convZ wr x (by omega)
        have J : Hid ((S ++ (⟨#[UInt8.ofNat x.toNat]⟩ : ByteArray)).data.toList = Puny.plainB (l.take (k + 1)) ∧ q + 1 = (Puny.lt 128 (l.take (k + 1))).length ∧ Below w.heap.size w (wr.alloc (.cells #[.int .u8 x] 5))) := by
          refine ⟨?_, ?_, I.out.2.2.alloc I.out.2.2.size _⟩
          · rw [more_bytes, I.out.1, HT.out]
            unfold Puny.plainB
            rw [Puny.lt_snoc, if_pos hp, List.map_append]
            rfl
          · rw [HT.out, Puny.lt_snoc, if_pos hp, List.length_append, ← I.out.2.1]; rfl
        clear I
        go_wp2_with fail
        refine KR.out.mono ?_
        rintro e w1 ⟨rfl, rfl⟩
        go_wp2
        go_roundg (l.length - k)
        case measure => omega
        case rel => exact ⟨k + 1, q + 1, _, by omega, by go_num, rfl, by go_num, by omega, by rw [more_size]; omega, by omega, J⟩
      · have J : Hid (S.data.toList = Puny.plainB (l.take (k + 1)) ∧ q = (Puny.lt 128 (l.take (k + 1))).length ∧ Below w.heap.size w wr) := by
          refine ⟨?_, ?_, I.out.2.2⟩
          · rw [I.out.1, HT.out]; unfold Puny.plainB; rw [Puny.lt_snoc, if_neg hp]
          · rw [HT.out, Puny.lt_snoc, if_neg hp]; exact I.out.2.1
        clear I
        go_wp2_with fail
        refine KR.out.mono ?_
        rintro e w1 ⟨rfl, rfl⟩
        go_wp2
        go_roundg (l.length - k)
        case measure => omega
        case rel => exact ⟨k + 1, q, S, by omega, by go_num, rfl, rfl, by omega, by omega, by omega, J⟩
    · obtain rfl : k = l.length := by omega
      have h1 := I.out.1
      have h2 := I.out.2.1
      rw [List.take_length] at h1 h2
      have BW := Lib.hid I.out.2.2
      have T0 : Hid (∃ D : ByteArray, D.size ≤ l.length + 1 ∧ D.data.toList = Puny.plainB l ++ Puny.dashB l ∧ (0 < q → D = S ++ (⟨#[45]⟩ : ByteArray)) ∧ (q = 0 → D = S)) := by
        by_cases hq : q = 0
        · exact ⟨S, by omega, by rw [h1]; unfold Puny.dashB; rw [if_pos (by omega), List.append_nil], fun h => by omega, fun _ => rfl⟩
        · exact ⟨S ++ ⟨#[45]⟩, by rw [more_size]; omega, by rw [more_bytes, h1]; unfold Puny.dashB; rw [if_neg (by omega)], fun _ => rfl, fun h => absurd h hq⟩
      have HQ := Lib.hid h2
      clear I h1 h2
      obtain ⟨D, hD1, hD2, hD3, hD4⟩ := T0.out
      have hql : q ≤ l.length := hqk
      have HD2 := Lib.hid hD2
      have HD3 := Lib.hid hD3
      have HD4 := Lib.hid hD4
      clear hD2 hD3 hD4 T0 hk hg
      rcases Nat.eq_zero_or_pos q with hq | hq
      all_goals
        have HQ0 := Lib.hid hq
        first
          | have hqz : 0 < q := by omega
          | have hqz : ¬ 0 < q := by omega
        clear hq
        go_wp2
        go_loopg [4, 7, 8, 9, 10, 11, 12, 13] (l.length + 1) (fun gk s4 s7 s8 s9 s10 _ _ _ wr => ∃ (n e b : Int) (h f : Nat) (S : ByteArray), s4 = .string S ∧ s7 = .int .i64 n ∧ s8 = .int .i64 e ∧ s9 = .int .i64 b ∧ s10 = .int .i64 h ∧ 128 ≤ n ∧ n ≤ 1114112 ∧ 0 ≤ e ∧ e ≤ 101 ∧ 0 ≤ b ∧ b ≤ 5000000000 ∧ q ≤ h ∧ h ≤ l.length ∧ S.size ≤ 200 + 200000000 * h ∧ l.length - h < gk ∧ l.length - h ≤ f ∧
          Hid (h = (Puny.lt n l).length ∧ Puny.encB l = S.data.toList ++ Puny.tailB (Puny.rows l (Puny.msF f l n) n e) b h ((h : Int) == (q : Int)) ∧ Below w.heap.size w wr))
        case atStart =>
          refine ⟨128, 0, 72, q, l.length, D, by first | rw [HD3.out HQ0.out] | rw [HD4.out HQ0.out], rfl, rfl, rfl, rfl, by omega, by omega, by omega, by omega, by omega, by omega, by omega, by omega, by omega, by omega, by omega, ⟨HQ.out, ?_, BW.out⟩⟩
          rw [HD2.out, HQ.out, beq_self_eq_true]
          rfl
        case round =>
          obtain ⟨n, e, b, h, f, S, rfl, rfl, rfl, rfl, rfl, hn1, hn2, he1, he2, hb1, hb2, hqh, hhl, hSz, hg, hf, J⟩ := hrel
          by_cases hlt : h < l.length
          · have hne : (Puny.lt n l).length ≠ l.length := by have := J.out.1; omega
            obtain ⟨f, rfl⟩ : ∃ f', f = f' + 1 := ⟨f - 1, by omega⟩
            obtain ⟨m1, m2, m3⟩ := Puny.least_ok LT.out hne
            have hmx := LT.out _ m1
            have hlow := Puny.lt_len_less m2 l m1
            have hls := Puny.lt_same m2 m3
            have heq := J.out.2.1
            rw [Puny.msF_more hne, Puny.rest_start] at heq
            obtain ⟨m, hme⟩ : ∃ m, Puny.least n l 1114112 = m := ⟨_, rfl⟩
            rw [hme] at m2 hmx hlow hls heq
            obtain ⟨P, hP⟩ : ∃ P, (m - n) * ((h : Int) + 1) = P := ⟨_, rfl⟩
            rw [← J.out.1, hP] at heq
            have hP0 : 0 ≤ P := by rw [← hP]; exact Int.mul_nonneg (by omega) (by omega)
            have hP1 : P ≤ 112525312 := by
              rw [← hP]
              have a1 : (m - n) * ((h : Int) + 1) ≤ (m - n) * 101 := Int.mul_le_mul_of_nonneg_left (by omega) (by omega)
              omega
            have HME := Lib.hid hme
            have HLOW := Lib.hid (show h < (Puny.lt (m + 1) l).length by have := J.out.1; omega)
            have HLS := Lib.hid (show h = (Puny.lt m l).length by rw [hls]; exact J.out.1)
            have HEQ := Lib.hid heq
            have BJ := Lib.hid J.out.2.2
            have hlz : (h : Int) < (l.length : Int) := by omega
            clear hne m1 m3 hlow hls heq hme J
            go_wp2
            go_loopg [11, 12] (l.length + 1) (fun gk s11 s12 wr => ∃ (k : Nat) (z : Int), s11 = .int .i64 z ∧ s12 = .int .i64 k ∧ k ≤ l.length ∧ 0 ≤ z ∧ z ≤ 1114112 ∧ l.length - k < gk ∧ Hid (m = Puny.least n (l.drop k) z ∧ Below w.heap.size w wr))
            case atStart => exact ⟨0, 1114112, rfl, rfl, by omega, by omega, by omega, by omega, ⟨HME.out.symm, BJ.out⟩⟩
            case round =>
              obtain ⟨k, z, rfl, rfl, hk, hz0, hz1, hgk, I⟩ := hrel
              by_cases hkl : k < l.length
              · obtain ⟨ad, rfl, hb, hx⟩ := HC.out k hkl
                have hx' := (I.out.2.cell (by rw [add_block]; exact hb)).trans hx
                obtain ⟨x, hxe⟩ : ∃ x, x = l[k]! := ⟨_, rfl⟩
                have hrx := rightsZ_at hkl HR.out
                rw [← hxe] at hx' hrx
                have hx0 := (rightZ_iff x).1 hrx
                have hd : l.drop k = x :: l.drop (k + 1) := by rw [hxe, getElem!_pos l k hkl]; exact List.drop_eq_getElem_cons hkl
                have hL : m = Puny.least n (l.drop (k + 1)) (if n ≤ x ∧ x < z then x else z) := by rw [I.out.1, hd, Puny.least_cons]
                have hkz : (k : Int) < (l.length : Int) := by omega
                have BI := Lib.hid I.out.2
                have xb0 : 0 ≤ x := by omega
                have xb1 : x ≤ 1114111 := by omega
                clear hx hb hxe hrx hd I hx0
                by_cases hc : n ≤ x ∧ x < z
                · rw [if_pos hc] at hL
                  obtain ⟨q1, q2⟩ := hc
                  have I2 : Hid (m = Puny.least n (l.drop (k + 1)) x ∧ Below w.heap.size w wr) := ⟨hL, BI.out⟩
                  clear hL
                  go_wp2
                  go_roundg (l.length - k)
                  case measure => omega
                  case rel => exact ⟨k + 1, x, rfl, by go_num, by omega, by omega, by omega, by omega, I2⟩
                · rw [if_neg hc] at hL
                  have I2 : Hid (m = Puny.least n (l.drop (k + 1)) z ∧ Below w.heap.size w wr) := ⟨hL, BI.out⟩
                  clear hL
                  by_cases q1 : n ≤ x
                  · have q2 : ¬ x < z := fun h => hc ⟨q1, h⟩
                    clear hc
                    go_wp2
                    go_roundg (l.length - k)
                    case measure => omega
                    case rel => exact ⟨k + 1, z, rfl, by go_num, by omega, by omega, by omega, by omega, I2⟩
                  · clear hc
                    go_wp2
                    go_roundg (l.length - k)
                    case measure => omega
                    case rel => exact ⟨k + 1, z, rfl, by go_num, by omega, by omega, by omega, by omega, I2⟩
              · obtain rfl : k = l.length := by omega
                have hzm : m = z := by have := I.out.1; rwa [List.drop_length] at this
                have BI := Lib.hid I.out.2
                subst hzm
                clear I
                go_wp2
                go_loopg [4, 8, 9, 10, 13] (l.length + 1) (fun gk s4 s8 s9 s10 s13 wr => ∃ (k : Nat) (e' b' : Int) (h' : Nat) (S' : ByteArray), s4 = .string S' ∧ s8 = .int .i64 e' ∧ s9 = .int .i64 b' ∧ s10 = .int .i64 h' ∧ s13 = .int .i64 k ∧ k ≤ l.length ∧ 0 ≤ e' ∧ (e' ≤ 112525413 + k ∧ (h < h' → e' ≤ k)) ∧ 0 ≤ b' ∧ b' ≤ 5000000000 ∧ h ≤ h' ∧ h' ≤ l.length ∧ S'.size ≤ 200 + 200000000 * h' ∧ l.length - k < gk ∧
                  Hid (h' = (Puny.le m (l.take k)).length + (Puny.lt m (l.drop k)).length ∧ Puny.encB l = S'.data.toList ++ Puny.tailB (Puny.restOf l (Puny.msF f l (m + 1)) m (l.drop k) e') b' h' ((h' : Int) == (q : Int)) ∧ Below w.heap.size w wr))
                case atStart => exact ⟨0, e + P, b, h, S, rfl, rfl, rfl, rfl, rfl, Nat.zero_le _, by omega, ⟨by omega, fun h => by omega⟩, hb1, hb2, Nat.le_refl _, by omega, hSz, by omega, ⟨by have h9 := HLS.out; show h = 0 + (Puny.lt m l).length; omega, HEQ.out, BI.out⟩⟩
                case round =>
                  obtain ⟨k, e', b', h', S', rfl, rfl, rfl, rfl, rfl, hk', he0, ⟨he3, he4⟩, hb3, hb4, hh1, hh2, hS2, hg4, I⟩ := hrel
                  by_cases hkl : k < l.length
                  · obtain ⟨ad, rfl, hb, hx⟩ := HC.out k hkl
                    have hx' := (I.out.2.2.cell (by rw [add_block]; exact hb)).trans hx
                    obtain ⟨x, hxe⟩ : ∃ x, x = l[k]! := ⟨_, rfl⟩
                    have hrx := rightsZ_at hkl HR.out
                    rw [← hxe] at hx' hrx
                    have hx0 := (rightZ_iff x).1 hrx
                    have xb0 : 0 ≤ x := by omega
                    have xb1 : x ≤ 1114111 := by omega
                    have hd : l.drop k = x :: l.drop (k + 1) := by rw [hxe, getElem!_pos l k hkl]; exact List.drop_eq_getElem_cons hkl
                    have ht : l.take (k + 1) = l.take k ++ [x] := by rw [Utf.take_next l k hkl, ← hxe]
                    have hh := I.out.1
                    have heq := I.out.2.1
                    rw [hd, Puny.lt_cons] at hh
                    rw [hd] at heq
                    have hle := Puny.le_snoc m (l.take k) x
                    rw [← ht] at hle
                    have hkz : (k : Int) < (l.length : Int) := by omega
                    have BI2 := Lib.hid I.out.2.2
                    clear hx hb hxe hrx hd ht I hx0
                    rcases (show x < m ∨ x = m ∨ m < x by omega) with hc | hc | hc
                    · rw [if_pos hc] at hh
                      rw [if_pos (by omega)] at hle
                      rw [Puny.rest_less hc] at heq
                      have I2 : Hid (h' = (Puny.le m (l.take (k + 1))).length + (Puny.lt m (l.drop (k + 1))).length ∧ Puny.encB l = S'.data.toList ++ Puny.tailB (Puny.restOf l (Puny.msF f l (m + 1)) m (l.drop (k + 1)) (e' + 1)) b' h' ((h' : Int) == (q : Int)) ∧ Below w.heap.size w wr) :=
                        ⟨by rw [hle, List.length_append]; simp only [List.length_cons, List.length_nil] at hh ⊢; omega, heq, BI2.out⟩
                      have hxne : (x == m) = false := by rw [beq_eq_false_iff_ne]; omega
                      clear hh hle heq
                      go_wp2
                      go_roundg (l.length - k)
                      case measure => omega
                      case rel => exact ⟨k + 1, e' + 1, b', h', S', rfl, rfl, rfl, rfl, by go_num, by omega, by omega, ⟨by omega, fun hq => by have := he4 hq; omega⟩, hb3, hb4, hh1, hh2, hS2, by omega, I2⟩
                    · subst hc
                      rw [if_neg (by omega)] at hh
                      rw [if_pos (by omega)] at hle
                      rw [Puny.rest_same, Puny.tailB_one] at heq
                      have h1l := Puny.le_len x (l.take (k + 1))
                      have h2l := Puny.lt_len x (l.drop (k + 1))
                      rw [List.length_take] at h1l
                      rw [List.length_drop] at h2l
                      have hh5 : h' + 1 = (Puny.le x (l.take (k + 1))).length + (Puny.lt x (l.drop (k + 1))).length := by rw [hle, List.length_append]; simp only [List.length_cons, List.length_nil]; omega
                      have hh6 : h' + 1 ≤ l.length := by omega
                      have KD := Lib.hid (fun W => digits5_any e' b' W (by omega) (by omega))
                      have KA := Lib.hid (fun W => adapt5_any e' ((h' : Int) + 1) ((h' : Int) == (q : Int)) W (by omega) (by omega))
                      obtain ⟨n1, n2⟩ := Puny.adapt_bd (delta := e') (count := (h' : Int) + 1) ((h' : Int) == (q : Int)) (by omega) (by omega)
                      have hdl := Puny.digitsB_len e' 36 b'
                      generalize Puny.digitsB e' 36 b' = dg at KD heq hdl
                      generalize Puny.adapt e' ((h' : Int) + 1) ((h' : Int) == (q : Int)) = nb at KA heq n1 n2
                      have hfl : (((h' + 1 : Nat) : Int) == (q : Int)) = false := by rw [beq_eq_false_iff_ne]; omega
                      have I3 := Lib.hid (fun W (hB : Below w.heap.size w W) => (show h' + 1 = (Puny.le x (l.take (k + 1))).length + (Puny.lt x (l.drop (k + 1))).length ∧ Puny.encB l = (S' ++ (⟨dg.toArray⟩ : ByteArray)).data.toList ++ Puny.tailB (Puny.restOf l (Puny.msF f l (x + 1)) x (l.drop (k + 1)) 0) nb ((h' + 1 : Nat) : Int) (((h' + 1 : Nat) : Int) == (q : Int)) ∧ Below w.heap.size w W from
                        ⟨hh5, by rw [cat_bytes, heq, hfl, List.append_assoc]; rfl, hB⟩))
                      have hsz : (S' ++ (⟨dg.toArray⟩ : ByteArray)).size ≤ 200 + 200000000 * (h' + 1) := by
                        rw [ByteArray.size_append, show (⟨dg.toArray⟩ : ByteArray).size = dg.length by simp [ByteArray.size]]
                        omega
                      have HSZ := Lib.hid hsz
                      have hdz : (⟨dg.toArray⟩ : ByteArray).size ≤ 200000000 := by rw [show (⟨dg.toArray⟩ : ByteArray).size = dg.length by simp [ByteArray.size]]; omega
                      clear hh hle heq h1l h2l hh5 hfl hsz hdl
                      go_wp2_with fail
                      refine (KD.out _).mono ?_
                      rintro e9 w3 ⟨rfl, hb9⟩
                      have B3 := Lib.hid (BI2.out.trans (hb9.mono BI2.out.size))
                      clear hb9 KD
                      go_wp2_with fail
                      refine (KA.out _).mono ?_
                      rintro e8 w4 ⟨rfl, rfl⟩
                      go_wp2
                      go_roundg (l.length - k)
                      case measure => omega
                      case rel => exact ⟨k + 1, 0, nb, h' + 1, _, rfl, rfl, rfl, by go_num, by go_num, by omega, by omega, ⟨by omega, fun _ => by omega⟩, n1, n2, by omega, hh6, HSZ.out, by omega, I3.out _ B3.out⟩
                    · rw [if_neg (by omega)] at hh
                      rw [if_neg (by omega)] at hle
                      rw [Puny.rest_more hc] at heq
                      have I2 : Hid (h' = (Puny.le m (l.take (k + 1))).length + (Puny.lt m (l.drop (k + 1))).length ∧ Puny.encB l = S'.data.toList ++ Puny.tailB (Puny.restOf l (Puny.msF f l (m + 1)) m (l.drop (k + 1)) e') b' h' ((h' : Int) == (q : Int)) ∧ Below w.heap.size w wr) :=
                        ⟨by rw [hle]; exact hh, heq, BI2.out⟩
                      have hxne : (x == m) = false := by rw [beq_eq_false_iff_ne]; omega
                      have hxl : ¬ x < m := by omega
                      clear hh hle heq
                      go_wp2
                      go_roundg (l.length - k)
                      case measure => omega
                      case rel => exact ⟨k + 1, e', b', h', S', rfl, rfl, rfl, rfl, by go_num, by omega, by omega, ⟨by omega, fun hq => by have := he4 hq; omega⟩, hb3, hb4, hh1, hh2, hS2, by omega, I2⟩
                  · obtain rfl : k = l.length := by omega
                    have hh := I.out.1
                    have heq := I.out.2.1
                    rw [List.take_length, List.drop_length] at hh
                    rw [List.drop_length, Puny.rest_end] at heq
                    have hh3 : h' = (Puny.lt (m + 1) l).length := by rw [hh, Puny.lt_next]; rfl
                    have hlow2 : h < h' := by rw [hh3]; exact HLOW.out
                    have he5 := he4 hlow2
                    have J2 : Hid (h' = (Puny.lt (m + 1) l).length ∧ Puny.encB l = S'.data.toList ++ Puny.tailB (Puny.rows l (Puny.msF f l (m + 1)) (m + 1) (e' + 1)) b' h' ((h' : Int) == (q : Int)) ∧ Below w.heap.size w wr) := ⟨hh3, heq, I.out.2.2⟩
                    clear I hh heq hh3
                    go_wp2
                    go_roundg (l.length - h)
                    case measure => omega
                    case rel => exact ⟨m + 1, e' + 1, b', h', f, S', rfl, rfl, rfl, rfl, rfl, by omega, by omega, by omega, by omega, hb3, hb4, by omega, hh2, hS2, by omega, by omega, J2⟩
          · obtain rfl : h = l.length := by omega
            have R := Lib.hid (show Puny.encB l = S.data.toList by rw [J.out.2.1, Puny.msF_done J.out.1.symm]; show S.data.toList ++ [] = _; rw [List.append_nil])
            go_wp2
            go_ret2
            refine ⟨?_, J.out.2.2⟩
            rw [R.out, ← bytes_is (S := S) rfl]
            rfl
set_option maxHeartbeats 4000000 in
set_option maxRecDepth 100000 in
theorem encode5_no (v : Value) (l : List Int) (w : World) (hl : Runes v l w) (hn : l.length ≤ 100) (hr : rightsZ l = false) :
    Calls Try.prog 17 #[v] w (Wrote [] false w) := by
  obtain ⟨A, c, rfl, -, hcell⟩ := hl.form
  have HC := Lib.hid hcell
  have HR := Lib.hid hr
  clear hl hcell hr
  go_enter Try.func17, Try.ntmps17
  go_wp2
  go_loopg [4, 5, 6] (l.length + 1) (fun gk s4 s5 i wr => ∃ (k q : Nat) (S : ByteArray), k ≤ l.length ∧ i = .int .i64 k ∧ s4 = .string S ∧ s5 = .int .i64 q ∧ q ≤ k ∧ S.size ≤ k ∧ l.length - k < gk ∧ Hid (rightsZ (l.take k) = true ∧ Below w.heap.size w wr))
  case atStart => exact ⟨0, 0, ⟨#[]⟩, Nat.zero_le _, rfl, rfl, rfl, Nat.le_refl _, Nat.le_refl _, by omega, ⟨rfl, Below.refl _ _⟩⟩
  case round =>
    obtain ⟨k, q, S, hk, rfl, rfl, rfl, hqk, hSk, hg, I⟩ := hrel
    by_cases hlt : k < l.length
    · obtain ⟨ad, rfl, hb, hx⟩ := HC.out k hlt
      have hx' := (I.out.2.cell (by rw [add_block]; exact hb)).trans hx
      obtain ⟨x, hxe⟩ : ∃ x, x = l[k]! := ⟨_, rfl⟩
      rw [← hxe] at hx'
      have ht : l.take (k + 1) = l.take k ++ [x] := by rw [Utf.take_next l k hlt, ← hxe]
      have KR := Lib.hid (refRight_any x wr)
      have hkz : (k : Int) < (l.length : Int) := by omega
      clear hx hb hxe
      cases hrx : rightZ x with
      | false =>
        rw [hrx] at KR
        clear hrx ht
        go_wp2_with fail
        refine KR.out.mono ?_
        rintro e w1 ⟨rfl, rfl⟩
        go_wp2
        go_ret2
        exact ⟨rfl, I.out.2⟩
      | true =>
        rw [hrx] at KR
        have hx0 := (rightZ_iff x).1 hrx
        have J := Lib.hid (fun W (hB : Below w.heap.size w W) => (show rightsZ (l.take (k + 1)) = true ∧ Below w.heap.size w W from ⟨by rw [ht, rightsZ_snoc, I.out.1, hrx]; rfl, hB⟩))
        have BI := Lib.hid I.out.2
        clear hrx ht I
        by_cases hp : x < 128
        · have hconv := byte_convZ wr x (by omega)
          go_wp2_with fail
          refine KR.out.mono ?_
          rintro e w1 ⟨rfl, rfl⟩
          go_wp2
          go_roundg (l.length - k)
          case measure => omega
          case rel => exact ⟨k + 1, q + 1, _, by omega, by go_num, rfl, by go_num, by omega, by rw [more_size]; omega, by omega, J.out _ (BI.out.alloc BI.out.size _)⟩
        · go_wp2_with fail
          refine KR.out.mono ?_
          rintro e w1 ⟨rfl, rfl⟩
          go_wp2
          go_roundg (l.length - k)
          case measure => omega
          case rel => exact ⟨k + 1, q, S, by omega, by go_num, rfl, rfl, by omega, by omega, by omega, J.out _ BI.out⟩
    · exfalso
      have h := I.out.1
      rw [List.take_of_length_le (by omega), HR.out] at h
      cases h
end Go.Proofs.Ytkgikkdgfhonlaa
