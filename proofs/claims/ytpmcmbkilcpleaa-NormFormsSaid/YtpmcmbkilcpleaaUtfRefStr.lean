/-
  Proved here: the document's own 'bytes' and 'String': the bytes of a character, and of all characters of a slice, or nothing if one is none. Conditions: the slice can be read, and holds at most 20,000 numbers.
-/
import Derived.Test.YtpmcmbkilcpleaaUtfStr
namespace Go.Proofs.Ytpmcmbkilcpleaa
open Go.RowKit Utf
def BytesPost (r : Int) (w : World) (e : Ending) (w' : World) : Prop := ∃ v', e = .returned v' ∧ Bytes v' (enc r.toNat) w' ∧ Below w.heap.size w w'
theorem bytes_lit (w : World) (cells : List Value) (bs : List UInt8) (h : cells = bs.map byteV) (m : Nat) (hm : m = bs.length) : Bytes (.slice (some ⟨w.heap.size, 0, none⟩) m m) bs (w.alloc (.cells cells.toArray 5)) := by
  subst h hm
  refine ⟨some ⟨w.heap.size, 0, none⟩, bs.length, by rw [List.length_map], by rw [List.length_map]; exact Nat.le_refl _, fun h => (by cases h), fun _ => ⟨_, rfl, by simp, fun j u hu => ?_⟩⟩
  have e : (⟨w.heap.size, 0, none⟩ : Addr).add j = ⟨w.heap.size, j, none⟩ := by unfold Addr.add; split <;> simp_all
  rw [e, World.cell?_alloc_at _ _ _ _ (by simp), ← hu]
  simp
set_option maxHeartbeats 1000000 in
set_option maxRecDepth 100000 in
theorem refBytes1 (r : Int) (w : World) (h1 : 0 ≤ r) (h2 : r < 128) : Calls Try.prog 62 #[.int .i32 r] w (BytesPost r w) := by
  have hL := refLen_any r w
  rw [(enc_len1 h1 h2).1] at hL
  go_enter Try.func62, Try.ntmps62
  go_wp2_with (go_at_call 75; refine hL.mono ?_; rintro e w' ⟨rfl, rfl⟩)
  go_ret
  exact ⟨_, rfl, bytes_lit _ _ _ (enc1_cells h1 h2) _ (enc_len1 h1 h2).2.symm, below_one _ _⟩
set_option maxHeartbeats 1000000 in
set_option maxRecDepth 100000 in
theorem refBytes2 (r : Int) (w : World) (h1 : 128 ≤ r) (h2 : r ≤ 2047) : Calls Try.prog 62 #[.int .i32 r] w (BytesPost r w) := by
  have hL := refLen_any r w
  rw [(enc_len2 h1 h2).1] at hL
  go_enter Try.func62, Try.ntmps62
  go_wp2_with (go_at_call 75; refine hL.mono ?_; rintro e w' ⟨rfl, rfl⟩)
  go_ret
  exact ⟨_, rfl, bytes_lit _ _ _ (enc2_cells h1 h2) _ (enc_len2 h1 h2).2.symm, below_one _ _⟩
set_option maxHeartbeats 1000000 in
set_option maxRecDepth 100000 in
theorem refBytes3 (r : Int) (w : World) (h1 : 2047 < r) (h2 : r ≤ 65535) (hr : rightZ r = true) : Calls Try.prog 62 #[.int .i32 r] w (BytesPost r w) := by
  have hL := refLen_any r w
  rw [(enc_len3 h1 h2 hr).1] at hL
  go_enter Try.func62, Try.ntmps62
  go_wp2_with (go_at_call 75; refine hL.mono ?_; rintro e w' ⟨rfl, rfl⟩)
  go_ret
  exact ⟨_, rfl, bytes_lit _ _ _ (enc3_cells h1 h2) _ (enc_len3 h1 h2 hr).2.symm, below_one _ _⟩
set_option maxHeartbeats 1000000 in
set_option maxRecDepth 100000 in
theorem refBytes4 (r : Int) (w : World) (h1 : 65535 < r) (h2 : r ≤ 1114111) : Calls Try.prog 62 #[.int .i32 r] w (BytesPost r w) := by
  have hL := refLen_any r w
  rw [(enc_len4 h1 h2).1] at hL
  go_enter Try.func62, Try.ntmps62
  go_wp2_with (go_at_call 75; refine hL.mono ?_; rintro e w' ⟨rfl, rfl⟩)
  go_ret
  exact ⟨_, rfl, bytes_lit _ _ _ (enc4_cells h1 h2) _ (enc_len4 h1 h2).2.symm, below_one _ _⟩
theorem refBytes_any (r : Int) (w : World) (hr : rightZ r = true) : Calls Try.prog 62 #[.int .i32 r] w (BytesPost r w) := by
  have hb := (rightZ_iff r).1 hr
  rcases (show r < 128 ∨ (128 ≤ r ∧ r ≤ 2047) ∨ (2047 < r ∧ r ≤ 65535) ∨ 65535 < r by omega) with h | ⟨h4, h5⟩ | ⟨h4, h5⟩ | h
  · exact refBytes1 r w hb.1 h
  · exact refBytes2 r w h4 h5
  · exact refBytes3 r w h4 h5 hr
  · exact refBytes4 r w h hb.2.1
set_option maxHeartbeats 2000000 in
set_option maxRecDepth 100000 in
theorem refString_any (v : Value) (l : List Int) (w : World) (hl : Runes v l w) (hn : l.length ≤ 20000) : Calls Try.prog 44 #[v] w (StrPost l w) := by
  obtain ⟨A, c, rfl, hc, hcell⟩ := hl.form
  have HC := Lib.hid hcell
  clear hl hcell
  go_enter Try.func44, Try.ntmps44
  go_wp2
  go_loopg [4, 5] (l.length + 1) (fun gk v i wr => ∃ k : Nat, k ≤ l.length ∧ i = .int .i64 k ∧ l.length - k < gk ∧ Hid (rightsZ (l.take k) = true ∧ OwnB w.heap.size v (encZ (l.take k)) wr ∧ Below w.heap.size w wr))
  case atStart => exact ⟨0, Nat.zero_le _, rfl, by omega, ⟨rfl, OwnB.nil _ _, Below.refl _ _⟩⟩
  case round =>
    obtain ⟨k, hk, rfl, hg, I⟩ := hrel
    by_cases hlt : k < l.length
    · obtain ⟨ad, rfl, hb, hx⟩ := HC.out k hlt
      have hx' := (I.out.2.2.cell (by rw [add_block]; exact hb)).trans hx
      obtain ⟨x, hxe⟩ : ∃ x, x = l[k]! := ⟨_, rfl⟩
      rw [← hxe] at hx'
      have HX := Lib.hid hxe
      have hR := refRight_any x wr
      clear hx hb hxe
      cases hr : rightZ x with
      | false =>
        rw [hr] at hR
        have HR := Lib.hid hr
        clear hr
        go_wp2_with (go_at_call 61; ((with_reducible refine hR.mono ?_); rintro e w' ⟨rfl, rfl⟩))
        go_ret2
        exact ⟨by rw [rightsZ_take hlt (by rw [← HX.out]; exact HR.out)]; rfl, I.out.2.2⟩
      | true =>
        rw [hr] at hR
        have HR := Lib.hid hr
        have hB := refBytes_any x wr hr
        clear hr
        have hle : (encZ (l.take k)).length ≤ 100000 := by have := encZ_len (l.take k); rw [List.length_take] at this; omega
        go_wp2_with (first
          | (go_at_call 61; ((with_reducible refine hR.mono ?_); rintro e w' ⟨rfl, rfl⟩))
          | (go_at_call 62; ((with_reducible refine hB.mono ?_); rintro e w2 ⟨v2, rfl, hs2, hb2⟩; have HS := Lib.hid hs2; have HB := Lib.hid hb2; clear hs2 hb2))
          | (at_builtin; refine append_row w2 69 5 (.int .u8 0) 1 Try.underlying69 info_u8 rfl (by omega) w.heap.size u4 _ _ (I.out.2.1.keep HB.out) (Nat.le_trans I.out.2.2.size HB.out.size) (by omega) v2 _ HS.out (one_bytes _) (by rw [List.length_map]; have := enc_le x.toNat; omega) rfl _ _ rfl rfl rfl ?_; intro v3 w3 ho3 hb3; have HO := Lib.hid ho3; have HB3 := Lib.hid hb3; clear ho3 hb3))
        have I2 : Hid (rightsZ (l.take (k + 1)) = true ∧ OwnB w.heap.size v3 (encZ (l.take (k + 1))) w3 ∧ Below w.heap.size w w3) := by
          refine ⟨?_, ?_, (I.out.2.2.trans (HB.out.mono I.out.2.2.size)).trans HB3.out⟩
          · rw [take_next l k hlt, rightsZ_snoc, ← HX.out, I.out.1, HR.out]; rfl
          · rw [take_next l k hlt, encZ_snoc, ← HX.out]; exact OwnB.more HO.out rfl (by rw [List.length_map])
        go_roundg (l.length - k)
        case measure => omega
        case rel => exact ⟨k + 1, by omega, by go_num, by omega, I2⟩
    · obtain rfl : k = l.length := by omega
      have hconv := string_of I.out.2.1.bytes
      go_wp2
      go_ret2
      refine ⟨?_, I.out.2.2⟩
      have hr := I.out.1
      rw [List.take_length] at hr
      rw [hr]
      rfl
end Go.Proofs.Ytpmcmbkilcpleaa
