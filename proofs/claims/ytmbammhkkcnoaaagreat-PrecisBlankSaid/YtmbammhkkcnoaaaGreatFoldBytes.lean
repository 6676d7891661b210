/-
  Proved here: bytes of a string in memory of their own; fold's 'Plain' tells small letters of ASCII, byte by byte. Conditions: the string has at most 100,000 bytes.
-/
import Derived.Test.YtmbammhkkcnoaaaGreatUtfA
namespace Go.Proofs.YtmbammhkkcnoaaaGreat
open Go.RowKit Utf
theorem madeBelow {w w1 : World} (h : w.grownBy w1 none) : Below w.heap.size w w1 := ⟨h.os, h.tape, h.output, h.size, fun k hk => h.block k hk (by simp)⟩
/-- A byte's small one. -/
def smallB (b : UInt8) : UInt8 := if 65 ≤ b.toNat ∧ b.toNat ≤ 90 then u (b.toNat + 32) else b
/-- Block g has the bytes bs, and may be written. -/
def Bytes8 (g : Nat) (bs : List UInt8) (w : World) : Prop := g < w.heap.size ∧ ∀ j, j < bs.length → w.cell? ⟨g, j, none⟩ = some (byteV bs[j]!) ∧ w.frozen? ⟨g, j, none⟩ = false
theorem bytes8_of (t : ByteArray) (w : World) : ∃ cap W1, (convert 9 45 (.string t)).run Tryz.prog w = .ok (.slice (some ⟨w.heap.size, 0, none⟩) t.size cap) W1 ∧ t.size ≤ cap ∧ Bytes8 w.heap.size t.data.toList W1 ∧ Below w.heap.size w W1 := by
  have hsz : (bytesRow t (grownCap w t.size 0 5)).size = t.size + (grownCap w t.size 0 5 - t.size) := by
    unfold bytesRow
    rw [Array.size_append, Array.size_map, Array.size_replicate, ByteArray.size_data]
  refine ⟨_, _, run_bytes_of_string (P := Tryz.prog) w 9 45 5 t Tryz.underlying9 Tryz.underlying45 Tryz.underlying5, ?_, ⟨by simp, fun j h => ⟨?_, ?_⟩⟩, ((Below.refl _ w).drew).alloc (Nat.le_refl _) _⟩
  · exact grownCap_ge w t.size 0 5
  · have := World.cell?_alloc_mark w.drew (bytesRow t (grownCap w t.size 0 5)) 5 ((bytesRow t (grownCap w t.size 0 5)).size, (bytesRow t (grownCap w t.size 0 5)).size + 1) j
    have hj : j < t.data.size := by simpa using h
    rw [getElem!_pos t.data.toList j h]
    exact this.trans (bytesRow_at t _ j hj)
  · have := World.frozen?_alloc_mark w.drew (bytesRow t (grownCap w t.size 0 5)) 5 ((bytesRow t (grownCap w t.size 0 5)).size) ((bytesRow t (grownCap w t.size 0 5)).size + 1) j
    have hj : j < t.size := by simpa using h
    refine this.trans ?_
    rw [hsz, decide_eq_false (by omega)]
    rfl
theorem Bytes8.put {g : Nat} {bs : List UInt8} {w : World} (h : Bytes8 g bs w) (k : Nat) (b : UInt8) : Bytes8 g (bs.set k b) (w.setCell ⟨g, k, none⟩ (byteV b)) := by
  refine ⟨by simpa using h.1, fun j hj => ?_⟩
  rw [List.length_set] at hj
  obtain ⟨h1, h2⟩ := h.2 j hj
  refine ⟨?_, by simpa using h2⟩
  by_cases e : k = j
  · subst e
    rw [World.cell?_setCell_same w _ _ h1, getElem!_pos (bs.set k b) k (by rw [List.length_set]; exact hj), List.getElem_set_self]
  · rw [World.cell?_setCell_other w _ _ _ (fun he => e (by injection he)), h1, getElem!_pos bs j hj, getElem!_pos (bs.set k b) j (by rw [List.length_set]; exact hj), List.getElem_set_ne e]
theorem Bytes8.bytes {g cap : Nat} {bs : List UInt8} {w : World} (h : Bytes8 g bs w) (hc : bs.length ≤ cap) : Bytes (.slice (some ⟨g, 0, none⟩) bs.length cap) bs w := by
  refine ⟨some ⟨g, 0, none⟩, cap, by rw [List.length_map], by rw [List.length_map]; exact hc, fun h => (by cases h), fun _ => ⟨_, rfl, h.1, fun j x hx => ?_⟩⟩
  have e : (⟨g, 0, none⟩ : Addr).add j = ⟨g, j, none⟩ := by unfold Addr.add; split <;> simp_all
  have hj : j < bs.length := by have := (List.getElem?_eq_some_iff.1 hx).1; simpa using this
  rw [e, (h.2 j hj).1, ← hx, List.getElem?_map, List.getElem?_eq_getElem hj, getElem!_pos bs j hj]
  rfl
theorem enter_plain (args : Array Value) (w : World) : (callFunc 47 args).run Tryz.prog w = .ok (.enter 47 args) w := by kernel_rfl
theorem smallB_up {b : UInt8} (h1 : 65 ≤ b.toNat) (h2 : b.toNat ≤ 90) : byteV (smallB b) = .int .u8 ((b.toNat : Int) + 32) := by
  unfold smallB byteV
  rw [if_pos ⟨h1, h2⟩, u_toNat (by omega)]
  rfl
theorem smallB_no {b : UInt8} (h : ¬ (65 ≤ b.toNat ∧ b.toNat ≤ 90)) : byteV (smallB b) = .int .u8 (b.toNat : Int) := by
  unfold smallB byteV
  rw [if_neg h]
set_option maxHeartbeats 1000000 in
theorem plainB_any (b : UInt8) (w : World) : Calls Tryz.prog 47 #[.int .u8 (b.toNat : Int)] w fun e w' => e = .returned (byteV (smallB b)) ∧ Below w.heap.size w w' := by
  have hb := lt256 b
  rcases (show (65 ≤ b.toNat ∧ b.toNat ≤ 90) ∨ b.toNat < 65 ∨ (65 ≤ b.toNat ∧ 90 < b.toNat) by omega) with ⟨h1, h2⟩ | h1 | ⟨h1, h2⟩
  · have he := smallB_up h1 h2
    generalize smallB b = c at he ⊢
    rw [he, show (b.toNat : Int) + 32 = b.toNat - 65 + 97 by omega]
    clear he
    go_enter Tryz.func47, Tryz.ntmps47
    go_wp2
    go_ret
    exact ⟨rfl, Below.refl _ _⟩
  · rw [smallB_no (by omega)]
    go_enter Tryz.func47, Tryz.ntmps47
    go_wp2
    go_ret
    exact ⟨rfl, Below.refl _ _⟩
  · rw [smallB_no (by omega)]
    go_enter Tryz.func47, Tryz.ntmps47
    go_wp2
    go_ret
    exact ⟨rfl, Below.refl _ _⟩
set_option maxHeartbeats 4000000 in
set_option maxRecDepth 100000 in
theorem eachB_any (B cap : Nat) (bs : List UInt8) (w : World) (hl : Bytes8 B bs w) (hn : bs.length ≤ 100000) :
    Calls Tryz.prog 46 #[.slice (some ⟨B, 0, none⟩) bs.length cap, .func (.func 47) #[] #[]] w fun e w' => ∃ v, e = .returned v ∧ OwnB w.heap.size v (bs.map smallB) w' ∧ Below w.heap.size w w' := by
  obtain ⟨hBz, hcell⟩ := hl
  have HC := Lib.hid hcell
  obtain ⟨i0, hi0, hz0, hs0, hb0⟩ := info_parts info_u8
  have hby : i0.bytes * bs.length ≤ 281474976710656 := by rw [hb0]; omega
  clear hcell
  go_enter Tryz.func46, Tryz.ntmps46
  go_wp2_with (at_make; refine wpList_make_own _ rfl _ _ 45 rfl w.heap.size 5 i0 (.int .u8 0) 1 Tryz.underlying45 hi0 hz0 hs0 _ _ _ bs.length rfl rfl rfl hby (by simp only [maxLen]; omega) (by simp) ?_; intro w1 ho1 hg1)
  have hb1 := madeBelow hg1
  have B1 := Lib.hid hb1
  have O1 : Hid (OwnB w.heap.size (.slice (some ⟨w.heap.size, 0, none⟩) 0 bs.length) [] w1) := Lib.hid (by simpa [OwnB] using ho1)
  clear hb1 hg1 ho1 hby hb0 hs0 hz0 hi0
  go_loopg [5, 7, 13] (bs.length + 1) (fun gk v _ i wr => ∃ k : Nat, k ≤ bs.length ∧ i = .int .i64 k ∧ bs.length - k < gk ∧ Hid (OwnB w.heap.size v ((bs.take k).map smallB) wr ∧ Below w.heap.size w wr))
  case atStart => exact ⟨0, Nat.zero_le _, rfl, by omega, ⟨O1.out, B1.out⟩⟩
  case round =>
    obtain ⟨k, hk, rfl, hg, I⟩ := hrel
    by_cases hlt : k < bs.length
    · obtain ⟨hx, -⟩ := HC.out k hlt
      have hx' := (I.out.2.cell (p := ⟨B, k, none⟩) hBz).trans hx
      obtain ⟨x, hxe⟩ : ∃ x, x = bs[k]! := ⟨_, rfl⟩
      rw [← hxe] at hx'
      have hnx : (bs.take (k + 1)).map smallB = (bs.take k).map smallB ++ [smallB x] := by rw [List.take_succ_eq_append_getElem hlt, List.map_append, hxe, getElem!_pos bs k hlt]; rfl
      have hle : ((bs.take k).map smallB).length ≤ 1000000 := by rw [List.length_map, List.length_take]; omega
      have hkz : (k : Int) < (bs.length : Int) := by omega
      have hxb := lt256 x
      have K := plainB_any x wr
      obtain ⟨y, hy⟩ : ∃ y, y = smallB x := ⟨_, rfl⟩
      rw [← hy] at K hnx
      unfold byteV at K hx'
      have hyb := lt256 y
      have HN := Lib.hid hnx
      have HK := Lib.hid K
      clear hx hxe hnx K hy
      go_wp2_with fail
      refine HK.out.mono ?_
      rintro e w2 ⟨rfl, hb2⟩
      have HB := Lib.hid hb2
      clear hb2 HK
      go_wp2_with (at_builtin; refine append_cells w2 45 5 (.int .u8 0) 1 Tryz.underlying45 info_u8 rfl (by omega) w.heap.size u5 _ _ (I.out.1.keep HB.out) (Nat.le_trans I.out.2.size HB.out.size) hle 1 (by omega) _ rfl rfl rfl _ _ rfl rfl rfl ?_; intro v3 w3 ho3 hb3; have HO := Lib.hid ho3; have HB3 := Lib.hid hb3; clear ho3 hb3)
      have I2 : Hid (OwnB w.heap.size v3 ((bs.take (k + 1)).map smallB) w3 ∧ Below w.heap.size w w3) := by
        refine ⟨?_, (I.out.2.trans (HB.out.mono I.out.2.size)).trans HB3.out⟩
        rw [HN.out]
        exact OwnB.more HO.out rfl rfl
      go_roundg (bs.length - k)
      case measure => omega
      case rel => exact ⟨k + 1, by omega, by go_num, by omega, I2⟩
    · obtain rfl : k = bs.length := by omega
      go_wp2
      go_ret
      have h := I.out.1
      rw [List.take_length] at h
      exact ⟨_, rfl, h, I.out.2⟩
set_option maxHeartbeats 2000000 in
set_option maxRecDepth 100000 in
theorem plain_any (s : ByteArray) (w : World) (hs : s.size ≤ 100000) : Calls Tryz.prog 19 #[.string s] w fun e w' => e = .returned (.string ⟨(s.data.toList.map smallB).toArray⟩) ∧ Below w.heap.size w w' := by
  obtain ⟨cap, W1, hconv, hcap, hB8, hbW⟩ := bytes8_of s w
  have H1 := eachB_any w.heap.size cap s.data.toList W1 hB8 (by simpa using hs)
  rw [show s.data.toList.length = s.size by simp] at H1
  have HK := Lib.hid H1
  have HBW := Lib.hid hbW
  clear hB8 hbW H1
  go_enter Tryz.func19, Tryz.ntmps19
  go_wp2_with fail
  refine HK.out.mono ?_
  rintro e w2 ⟨v2, rfl, ho2, hb2⟩
  have hcv := string_of ho2.bytes
  have HB := Lib.hid (below_then HBW.out hb2)
  clear ho2 hb2 HK
  go_wp2
  go_ret
  exact ⟨rfl, HB.out⟩
end Go.Proofs.YtmbammhkkcnoaaaGreat
