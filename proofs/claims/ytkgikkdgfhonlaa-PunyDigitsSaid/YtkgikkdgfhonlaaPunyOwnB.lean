/-
  Proved here: puny's plainOf, least, newWriter, number. Conditions: as they stand in each.
-/
import Derived.Test.YtkgikkdgfhonlaaPunyOwnA
import Derived.Deep.QuietTactic
import Derived.BigQuiet
import Derived.Deep.RegionHeld3
namespace Go.Proofs.Ytkgikkdgfhonlaa
open Go.RowKit Utf
theorem OwnB.shape {base : Nat} {v : Value} {l : List UInt8} {w : World} (h : OwnB base v l w) : ∃ (A : Option Addr) (c : Nat), v = .slice A l.length c := by
  rcases h.2 with ⟨rfl, h0⟩ | ⟨g, cap, cur, rfl, hb, hg, hnc, hcm, hcs, hcur⟩
  · exact ⟨none, 0, by rw [h0]⟩
  · exact ⟨some ⟨g, 0, none⟩, cap, rfl⟩
theorem OwnB.lower {base base' : Nat} {v : Value} {l : List UInt8} {w : World} (h : OwnB base v l w) (hb : base' ≤ base) : OwnB base' v l w := by
  refine ⟨h.1, ?_⟩
  rcases h.2 with h0 | ⟨g, cap, cur, h1, h2, h3⟩
  · exact .inl h0
  · exact .inr ⟨g, cap, cur, h1, Nat.le_trans hb h2, h3⟩
theorem plainB_snoc (l : List Int) (x : Int) : Puny.plainB (l ++ [x]) = if x < 128 then Puny.plainB l ++ [UInt8.ofNat x.toNat] else Puny.plainB l := by
  unfold Puny.plainB
  rw [Puny.lt_snoc]
  by_cases h : x < 128
  · rw [if_pos h, if_pos h, List.map_append]; rfl
  · rw [if_neg h, if_neg h]
def PlainPost (l : List Int) (w : World) (e : Ending) (w' : World) : Prop := ∃ v, e = .returned (.tuple #[v, .bool true]) ∧ OwnB w.heap.size v (Puny.plainB l) w' ∧ Below w.heap.size w w'
theorem plainB_len (l : List Int) : (Puny.plainB l).length ≤ l.length := by unfold Puny.plainB; rw [List.length_map]; exact Puny.lt_len 128 l
set_option maxHeartbeats 4000000 in
set_option maxRecDepth 100000 in
theorem plainOf_yes (v : Value) (l : List Int) (w : World) (hl : Runes v l w) (hn : l.length ≤ 10000) (hr : rightsZ l = true) : Calls Try.prog 24 #[v] w (PlainPost l w) := by
  obtain ⟨A, c, rfl, -, hcell⟩ := hl.form
  have HC := Lib.hid hcell
  have HR := Lib.hid hr
  clear hl hcell hr
  go_enter Try.func24, Try.ntmps24
  go_wp2
  go_loopg [4, 6, 9] (l.length + 1) (fun gk s4 _ i wr => ∃ k : Nat, k ≤ l.length ∧ i = .int .i64 k ∧ l.length - k < gk ∧ Hid (OwnB w.heap.size s4 (Puny.plainB (l.take k)) wr ∧ Below w.heap.size w wr))
  case atStart => exact ⟨0, Nat.zero_le _, rfl, by omega, ⟨OwnB.nil _ _, Below.refl _ _⟩⟩
  case round =>
    obtain ⟨k, hk, rfl, hg, I⟩ := hrel
    by_cases hlt : k < l.length
    · obtain ⟨ad, rfl, hb, hx⟩ := HC.out k hlt
      have hx' := (I.out.2.cell (by rw [add_block]; exact hb)).trans hx
      obtain ⟨x, hxe⟩ : ∃ x, x = l[k]! := ⟨_, rfl⟩
      have hrx := rightsZ_at hlt HR.out
      rw [← hxe] at hx' hrx
      have hx0 := (rightZ_iff x).1 hrx
      have ht : l.take (k + 1) = l.take k ++ [x] := by rw [Utf.take_next l k hlt, ← hxe]
      have KR := Lib.hid (right_any x wr)
      rw [hrx] at KR
      have hkz : (k : Int) < (l.length : Int) := by omega
      have hle : (Puny.plainB (l.take k)).length ≤ 1000000 := by have := plainB_len (l.take k); rw [List.length_take] at this; omega
      obtain ⟨x0, x1, -⟩ := hx0
      have hs := plainB_snoc (l.take k) x
      rw [← ht] at hs
      clear hx hb hxe hrx ht
      by_cases hp : x < 128
      · rw [if_pos hp] at hs
        have HS := Lib.hid hs
        have hv : Hid ([Value.int .u8 x] = [UInt8.ofNat x.toNat].map byteV) := Lib.hid (by
          unfold byteV
          rw [List.map_cons, List.map_nil, UInt8.toNat_ofNat_of_lt' (by show x.toNat < 256; omega), Int.toNat_of_nonneg x0])
        clear hs
        go_wp2_with fail
        refine KR.out.mono ?_
        rintro e w1 ⟨rfl, rfl⟩
        go_wp2_with (at_builtin; refine append_cells wr 42 5 (.int .u8 0) 1 Try.underlying42 info_u8 rfl (by omega) w.heap.size _ _ _ I.out.1 I.out.2.size hle 1 (by omega) _ rfl rfl rfl _ _ rfl rfl rfl ?_; intro v3 w3 ho3 hb3; have HO := Lib.hid ho3; have HB3 := Lib.hid hb3; clear ho3 hb3)
        have J : Hid (OwnB w.heap.size v3 (Puny.plainB (l.take (k + 1))) w3 ∧ Below w.heap.size w w3) := by
          refine ⟨?_, I.out.2.trans HB3.out⟩
          rw [HS.out]
          exact OwnB.more HO.out hv.out rfl
        go_roundg (l.length - k)
        case measure => omega
        case rel => exact ⟨k + 1, by omega, by go_num, by omega, J⟩
      · rw [if_neg hp] at hs
        have J : Hid (OwnB w.heap.size u4 (Puny.plainB (l.take (k + 1))) wr ∧ Below w.heap.size w wr) := ⟨by rw [hs]; exact I.out.1, I.out.2⟩
        clear hs I
        go_wp2_with fail
        refine KR.out.mono ?_
        rintro e w1 ⟨rfl, rfl⟩
        go_wp2
        go_roundg (l.length - k)
        case measure => omega
        case rel => exact ⟨k + 1, by omega, by go_num, by omega, J⟩
    · obtain rfl : k = l.length := by omega
      have h := I.out
      rw [List.take_length] at h
      have H := Lib.hid h
      clear h I
      go_wp2
      go_ret2
      exact ⟨_, rfl, H.out.1, H.out.2⟩
set_option maxHeartbeats 4000000 in
set_option maxRecDepth 100000 in
theorem plainOf_no (v : Value) (l : List Int) (w : World) (hl : Runes v l w) (hn : l.length ≤ 10000) (hr : rightsZ l = false) : Calls Try.prog 24 #[v] w fun e w' => e = .returned (.tuple #[.slice none 0 0, .bool false]) ∧ Below w.heap.size w w' := by
  obtain ⟨A, c, rfl, -, hcell⟩ := hl.form
  have HC := Lib.hid hcell
  have HR := Lib.hid hr
  clear hl hcell hr
  go_enter Try.func24, Try.ntmps24
  go_wp2
  go_loopg [4, 6, 9] (l.length + 1) (fun gk s4 _ i wr => ∃ k : Nat, k ≤ l.length ∧ i = .int .i64 k ∧ l.length - k < gk ∧ Hid ((∃ o : List UInt8, o.length ≤ k ∧ OwnB w.heap.size s4 o wr) ∧ rightsZ (l.take k) = true ∧ Below w.heap.size w wr))
  case atStart => exact ⟨0, Nat.zero_le _, rfl, by omega, ⟨⟨[], Nat.le_refl _, OwnB.nil _ _⟩, rfl, Below.refl _ _⟩⟩
  case round =>
    obtain ⟨k, hk, rfl, hg, I⟩ := hrel
    by_cases hlt : k < l.length
    · obtain ⟨ad, rfl, hb, hx⟩ := HC.out k hlt
      have hx' := (I.out.2.2.cell (by rw [add_block]; exact hb)).trans hx
      obtain ⟨x, hxe⟩ : ∃ x, x = l[k]! := ⟨_, rfl⟩
      rw [← hxe] at hx'
      have ht : l.take (k + 1) = l.take k ++ [x] := by rw [Utf.take_next l k hlt, ← hxe]
      have KR := Lib.hid (right_any x wr)
      have hkz : (k : Int) < (l.length : Int) := by omega
      clear hx hb hxe
      cases hrx : rightZ x with
      | false =>
        rw [hrx] at KR
        clear hrx ht
        go_wp2_with fail
        refine KR.out.mono ?_
        rintro e w1 ⟨rfl, rfl⟩
        go_wp2
        go_ret2
        exact ⟨rfl, I.out.2.2⟩
      | true =>
        rw [hrx] at KR
        obtain ⟨x0, x1, -⟩ := (rightZ_iff x).1 hrx
        have HRN := Lib.hid (show rightsZ (l.take (k + 1)) = true by rw [ht, rightsZ_snoc, I.out.2.1, hrx]; rfl)
        obtain ⟨⟨o, ho1, ho2⟩, -, hbI⟩ := I.out
        have IO := Lib.hid ho2
        have BI := Lib.hid hbI
        have hle : o.length ≤ 1000000 := by omega
        clear hrx ht I ho2 hbI
        by_cases hp : x < 128
        · have hv : Hid ([Value.int .u8 x] = [UInt8.ofNat x.toNat].map byteV) := Lib.hid (by
            unfold byteV
            rw [List.map_cons, List.map_nil, UInt8.toNat_ofNat_of_lt' (by show x.toNat < 256; omega), Int.toNat_of_nonneg x0])
          go_wp2_with fail
          refine KR.out.mono ?_
          rintro e w1 ⟨rfl, rfl⟩
          go_wp2_with (at_builtin; refine append_cells wr 42 5 (.int .u8 0) 1 Try.underlying42 info_u8 rfl (by omega) w.heap.size _ _ _ IO.out BI.out.size hle 1 (by omega) _ rfl rfl rfl _ _ rfl rfl rfl ?_; intro v3 w3 ho3 hb3; have HO := Lib.hid ho3; have HB3 := Lib.hid hb3; clear ho3 hb3)
          go_roundg (l.length - k)
          case measure => omega
          case rel => exact ⟨k + 1, by omega, by go_num, by omega, ⟨⟨o ++ [UInt8.ofNat x.toNat], by rw [List.length_append]; simp; omega, OwnB.more HO.out hv.out rfl⟩, HRN.out, BI.out.trans HB3.out⟩⟩
        · go_wp2_with fail
          refine KR.out.mono ?_
          rintro e w1 ⟨rfl, rfl⟩
          go_wp2
          go_roundg (l.length - k)
          case measure => omega
          case rel => exact ⟨k + 1, by omega, by go_num, by omega, ⟨⟨o, by omega, IO.out⟩, HRN.out, BI.out⟩⟩
    · exfalso
      have h := I.out.2.1
      rw [List.take_of_length_le (by omega), HR.out] at h
      cases h
set_option maxHeartbeats 4000000 in
set_option maxRecDepth 100000 in
theorem leastP_any (v : Value) (l : List Int) (n : Int) (w : World) (hl : Runes v l w) (hn : l.length ≤ 10000) (hr : rightsZ l = true) (hn0 : 0 ≤ n ∧ n ≤ 1114112) :
    Calls Try.prog 26 #[v, .int .i32 n] w fun e w' => (Puny.least n l 1114112 ≠ 1114112 → e = .returned (.int .i32 (Puny.least n l 1114112))) ∧ Below w.heap.size w w' := by
  obtain ⟨A, c, rfl, -, hcell⟩ := hl.form
  obtain ⟨n0, n1⟩ := hn0
  have HC := Lib.hid hcell
  have HR := Lib.hid hr
  clear hl hcell hr
  go_enter Try.func26, Try.ntmps26
  go_wp2
  go_loopg [5, 7, 10] (l.length + 1) (fun gk s5 _ i wr => ∃ (k : Nat) (m z : Int), k ≤ l.length ∧ i = .int .i64 k ∧ s5 = .int .i32 m ∧ l.length - k < gk ∧ 0 ≤ z ∧ z ≤ 1114112 ∧ -1 ≤ m ∧ (m < 0 → z = 1114112) ∧ (0 ≤ m → z = m) ∧ Hid (Puny.least n l 1114112 = Puny.least n (l.drop k) z ∧ Below w.heap.size w wr))
  case atStart => exact ⟨0, -1, 1114112, Nat.zero_le _, rfl, rfl, by omega, by omega, by omega, by omega, fun _ => rfl, fun h => by omega, ⟨rfl, Below.refl _ _⟩⟩
  case round =>
    obtain ⟨k, m, z, hk, rfl, rfl, hg, z0, z1, m0, hm1, hm2, I⟩ := hrel
    by_cases hlt : k < l.length
    · obtain ⟨ad, rfl, hb, hx⟩ := HC.out k hlt
      have hx' := (I.out.2.cell (by rw [add_block]; exact hb)).trans hx
      obtain ⟨x, hxe⟩ : ∃ x, x = l[k]! := ⟨_, rfl⟩
      have hrx := rightsZ_at hlt HR.out
      rw [← hxe] at hx' hrx
      have hx0 := (rightZ_iff x).1 hrx
      obtain ⟨x0, x1, -⟩ := hx0
      have hd : l.drop k = x :: l.drop (k + 1) := by rw [hxe, getElem!_pos l k hlt]; exact List.drop_eq_getElem_cons hlt
      have hL : Puny.least n l 1114112 = Puny.least n (l.drop (k + 1)) (if n ≤ x ∧ x < z then x else z) := by rw [I.out.1, hd, Puny.least_cons]
      have hkz : (k : Int) < (l.length : Int) := by omega
      have BI := Lib.hid I.out.2
      have M1 := Lib.hid hm1
      have M2 := Lib.hid hm2
      clear hx hb hxe hrx hd I hm1 hm2
      by_cases q1 : n ≤ x
      · by_cases q2 : m < 0
        · have hz := M1.out q2
          rw [if_pos ⟨q1, by omega⟩] at hL
          have I2 : Hid (Puny.least n l 1114112 = Puny.least n (l.drop (k + 1)) x ∧ Below w.heap.size w wr) := ⟨hL, BI.out⟩
          clear hL hz
          go_wp2
          go_roundg (l.length - k)
          case measure => omega
          case rel => exact ⟨k + 1, x, x, by omega, by go_num, rfl, by omega, by omega, by omega, by omega, fun h => by omega, fun _ => rfl, I2⟩
        · have hz := M2.out (by omega)
          subst hz
          by_cases q3 : x < z
          · rw [if_pos ⟨q1, q3⟩] at hL
            have I2 : Hid (Puny.least n l 1114112 = Puny.least n (l.drop (k + 1)) x ∧ Below w.heap.size w wr) := ⟨hL, BI.out⟩
            clear hL
            go_wp2
            go_roundg (l.length - k)
            case measure => omega
            case rel => exact ⟨k + 1, x, x, by omega, by go_num, rfl, by omega, by omega, by omega, by omega, fun h => by omega, fun _ => rfl, I2⟩
          · rw [if_neg (fun h => q3 h.2)] at hL
            have I2 : Hid (Puny.least n l 1114112 = Puny.least n (l.drop (k + 1)) z ∧ Below w.heap.size w wr) := ⟨hL, BI.out⟩
            clear hL
            go_wp2
            go_roundg (l.length - k)
            case measure => omega
            case rel => exact ⟨k + 1, z, z, by omega, by go_num, rfl, by omega, by omega, by omega, by omega, fun h => by omega, fun _ => rfl, I2⟩
      · rw [if_neg (fun h => q1 h.1)] at hL
        have I2 : Hid (Puny.least n l 1114112 = Puny.least n (l.drop (k + 1)) z ∧ Below w.heap.size w wr) := ⟨hL, BI.out⟩
        clear hL
        go_wp2
        go_roundg (l.length - k)
        case measure => omega
        case rel => exact ⟨k + 1, m, z, by omega, by go_num, rfl, by omega, by omega, by omega, by omega, M1.out, M2.out, I2⟩
    · obtain rfl : k = l.length := by omega
      have h1 := I.out.1
      rw [List.drop_length] at h1
      have h1' : Puny.least n l 1114112 = z := h1
      have H1 := Lib.hid h1'
      have BI := Lib.hid I.out.2
      have M1 := Lib.hid hm1
      have M2 := Lib.hid hm2
      clear h1 h1' I hm1 hm2
      go_wp2
      go_ret
      refine ⟨fun hne => ?_, BI.out⟩
      rw [H1.out] at hne ⊢
      have : ¬ m < 0 := fun h => hne (M1.out h)
      rw [M2.out (by omega)]
      rfl
end Go.Proofs.Ytkgikkdgfhonlaa
