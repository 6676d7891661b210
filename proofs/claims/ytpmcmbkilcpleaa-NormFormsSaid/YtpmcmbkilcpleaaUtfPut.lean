/-
  Proved here: 'put' of package utf lays the bytes of a character behind bytes that the caller owns. Conditions: the number is a character, there are not too many bytes.
-/
import Derived.Test.YtpmcmbkilcpleaaUtfSmall
import Derived.Test.YtpmcmbkilcpleaaUtfOwn
namespace Go.Proofs.Ytpmcmbkilcpleaa
open Go.RowKit Utf
theorem byteV_u {n : Nat} {z : Int} (h : n < 256) (e : z = n) : Value.int .u8 z = byteV (u n) := by
  unfold byteV
  rw [u_toNat h, e]
theorem enc1_cells {r : Int} (h0 : 0 ≤ r) (h : r < 128) : [Value.int .u8 r] = (enc r.toNat).map byteV := by
  unfold enc
  rw [if_pos (by omega), List.map_cons, List.map_nil, ← byteV_u (z := r) (by omega) (by omega)]
theorem enc2_cells {r : Int} (h0 : 128 ≤ r) (h : r ≤ 2047) : [Value.int .u8 (192 + r / 64), .int .u8 (128 + r % 64)] = (enc r.toNat).map byteV := by
  unfold enc
  rw [if_neg (by omega), if_pos (by omega), List.map_cons, List.map_cons, List.map_nil, ← byteV_u (z := 192 + r / 64) (by omega) (by omega), ← byteV_u (z := 128 + r % 64) (by omega) (by omega)]
theorem enc3_cells {r : Int} (h0 : 2047 < r) (h : r ≤ 65535) : [Value.int .u8 (224 + r / 4096), .int .u8 (128 + r / 64 % 64), .int .u8 (128 + r % 64)] = (enc r.toNat).map byteV := by
  unfold enc
  rw [if_neg (by omega), if_neg (by omega), if_pos (by omega), List.map_cons, List.map_cons, List.map_cons, List.map_nil, ← byteV_u (z := 224 + r / 4096) (by omega) (by omega), ← byteV_u (z := 128 + r / 64 % 64) (by omega) (by omega), ← byteV_u (z := 128 + r % 64) (by omega) (by omega)]
theorem enc4_cells {r : Int} (h0 : 65535 < r) (h : r ≤ 1114111) : [Value.int .u8 (240 + r / 262144), .int .u8 (128 + r / 4096 % 64), .int .u8 (128 + r / 64 % 64), .int .u8 (128 + r % 64)] = (enc r.toNat).map byteV := by
  unfold enc
  rw [if_neg (by omega), if_neg (by omega), if_neg (by omega), List.map_cons, List.map_cons, List.map_cons, List.map_cons, List.map_nil, ← byteV_u (z := 240 + r / 262144) (by omega) (by omega), ← byteV_u (z := 128 + r / 4096 % 64) (by omega) (by omega), ← byteV_u (z := 128 + r / 64 % 64) (by omega) (by omega), ← byteV_u (z := 128 + r % 64) (by omega) (by omega)]
theorem enc_len1 {r : Int} (h0 : 0 ≤ r) (h : r < 128) : lenZ r = 1 ∧ (enc r.toNat).length = 1 := by
  rw [enc_length]; unfold lenZ lenOf
  rw [if_pos ((rightZ_iff r).2 (by omega)), if_pos (by omega)]; exact ⟨rfl, rfl⟩
theorem enc_len2 {r : Int} (h0 : 128 ≤ r) (h : r ≤ 2047) : lenZ r = 2 ∧ (enc r.toNat).length = 2 := by
  rw [enc_length]; unfold lenZ lenOf
  rw [if_pos ((rightZ_iff r).2 (by omega)), if_neg (by omega), if_pos (by omega)]; exact ⟨rfl, rfl⟩
theorem enc_len3 {r : Int} (h0 : 2047 < r) (h : r ≤ 65535) (hr : rightZ r = true) : lenZ r = 3 ∧ (enc r.toNat).length = 3 := by
  rw [enc_length]; unfold lenZ lenOf
  rw [if_pos hr, if_neg (by omega), if_neg (by omega), if_pos (by omega)]; exact ⟨rfl, rfl⟩
theorem enc_len4 {r : Int} (h0 : 65535 < r) (h : r ≤ 1114111) : lenZ r = 4 ∧ (enc r.toNat).length = 4 := by
  rw [enc_length]; unfold lenZ lenOf
  rw [if_pos ((rightZ_iff r).2 (by omega)), if_neg (by omega), if_neg (by omega), if_neg (by omega)]; exact ⟨rfl, rfl⟩
def PutPost (base : Nat) (bs : List UInt8) (r : Int) (w : World) (e : Ending) (w' : World) : Prop := ∃ v', e = .returned v' ∧ OwnB base v' (bs ++ enc r.toNat) w' ∧ Below base w w'
set_option maxHeartbeats 1000000 in
set_option maxRecDepth 100000 in
theorem put1 (base : Nat) (v : Value) (bs : List UInt8) (r : Int) (w : World) (h1 : 0 ≤ r) (h2 : r < 128) (hown : OwnB base v bs w) (hbase : base ≤ w.heap.size) (hlen : bs.length ≤ 100000) :
    Calls Try.prog 48 #[v, .int .i32 r] w (PutPost base bs r w) := by
  have hL := len_any r w
  rw [(enc_len1 h1 h2).1] at hL
  have HO := Lib.hid hown
  clear hown
  go_enter Try.func48, Try.ntmps48
  go_wp2_with (first
    | (go_at_call 65; refine hL.mono ?_; rintro e w' ⟨rfl, rfl⟩)
    | (go_at_call 66; refine (tail_any _ (by omega) (by omega) _).mono ?_; rintro e w' ⟨rfl, rfl⟩)
    | (at_builtin; refine append_cells w 69 5 (.int .u8 0) 1 Try.underlying69 info_u8 rfl (by omega) base v _ _ HO.out hbase (by omega) 1 (by omega) _ rfl rfl rfl _ _ rfl rfl rfl ?_; intro v' w1 ho hb))
  go_ret
  exact ⟨v', rfl, OwnB.more ho (enc1_cells h1 h2) (enc_len1 h1 h2).2.symm, hb⟩
set_option maxHeartbeats 1000000 in
set_option maxRecDepth 100000 in
theorem put2 (base : Nat) (v : Value) (bs : List UInt8) (r : Int) (w : World) (h1 : 128 ≤ r) (h2 : r ≤ 2047) (hown : OwnB base v bs w) (hbase : base ≤ w.heap.size) (hlen : bs.length ≤ 100000) :
    Calls Try.prog 48 #[v, .int .i32 r] w (PutPost base bs r w) := by
  have hL := len_any r w
  rw [(enc_len2 h1 h2).1] at hL
  have HO := Lib.hid hown
  clear hown
  go_enter Try.func48, Try.ntmps48
  go_wp2_with (first
    | (go_at_call 65; refine hL.mono ?_; rintro e w' ⟨rfl, rfl⟩)
    | (go_at_call 66; refine (tail_any _ (by omega) (by omega) _).mono ?_; rintro e w' ⟨rfl, rfl⟩)
    | (at_builtin; refine append_cells w 69 5 (.int .u8 0) 1 Try.underlying69 info_u8 rfl (by omega) base v _ _ HO.out hbase (by omega) 2 (by omega) _ rfl rfl rfl _ _ rfl rfl rfl ?_; intro v' w1 ho hb))
  go_ret
  exact ⟨v', rfl, OwnB.more ho (enc2_cells h1 h2) (enc_len2 h1 h2).2.symm, hb⟩
set_option maxHeartbeats 1000000 in
set_option maxRecDepth 100000 in
theorem put3 (base : Nat) (v : Value) (bs : List UInt8) (r : Int) (w : World) (h1 : 2047 < r) (h2 : r ≤ 65535) (hr : rightZ r = true) (hown : OwnB base v bs w) (hbase : base ≤ w.heap.size) (hlen : bs.length ≤ 100000) :
    Calls Try.prog 48 #[v, .int .i32 r] w (PutPost base bs r w) := by
  have hL := len_any r w
  rw [(enc_len3 h1 h2 hr).1] at hL
  have HO := Lib.hid hown
  clear hown
  go_enter Try.func48, Try.ntmps48
  go_wp2_with (first
    | (go_at_call 65; refine hL.mono ?_; rintro e w' ⟨rfl, rfl⟩)
    | (go_at_call 66; refine (tail_any _ (by omega) (by omega) _).mono ?_; rintro e w' ⟨rfl, rfl⟩)
    | (at_builtin; refine append_cells w 69 5 (.int .u8 0) 1 Try.underlying69 info_u8 rfl (by omega) base v _ _ HO.out hbase (by omega) 3 (by omega) _ rfl rfl rfl _ _ rfl rfl rfl ?_; intro v' w1 ho hb))
  go_ret
  exact ⟨v', rfl, OwnB.more ho (enc3_cells h1 h2) (enc_len3 h1 h2 hr).2.symm, hb⟩
set_option maxHeartbeats 1000000 in
set_option maxRecDepth 100000 in
theorem put4 (base : Nat) (v : Value) (bs : List UInt8) (r : Int) (w : World) (h1 : 65535 < r) (h2 : r ≤ 1114111) (hown : OwnB base v bs w) (hbase : base ≤ w.heap.size) (hlen : bs.length ≤ 100000) :
    Calls Try.prog 48 #[v, .int .i32 r] w (PutPost base bs r w) := by
  have hL := len_any r w
  rw [(enc_len4 h1 h2).1] at hL
  have HO := Lib.hid hown
  clear hown
  go_enter Try.func48, Try.ntmps48
  go_wp2_with (first
    | (go_at_call 65; refine hL.mono ?_; rintro e w' ⟨rfl, rfl⟩)
    | (go_at_call 66; refine (tail_any _ (by omega) (by omega) _).mono ?_; rintro e w' ⟨rfl, rfl⟩)
    | (at_builtin; refine append_cells w 69 5 (.int .u8 0) 1 Try.underlying69 info_u8 rfl (by omega) base v _ _ HO.out hbase (by omega) 4 (by omega) _ rfl rfl rfl _ _ rfl rfl rfl ?_; intro v' w1 ho hb))
  go_ret
  exact ⟨v', rfl, OwnB.more ho (enc4_cells h1 h2) (enc_len4 h1 h2).2.symm, hb⟩
theorem put_any (base : Nat) (v : Value) (bs : List UInt8) (r : Int) (w : World) (hr : rightZ r = true) (hown : OwnB base v bs w) (hbase : base ≤ w.heap.size) (hlen : bs.length ≤ 100000) :
    Calls Try.prog 48 #[v, .int .i32 r] w (PutPost base bs r w) := by
  have hb := (rightZ_iff r).1 hr
  rcases (show r < 128 ∨ (128 ≤ r ∧ r ≤ 2047) ∨ (2047 < r ∧ r ≤ 65535) ∨ 65535 < r by omega) with h | ⟨h4, h5⟩ | ⟨h4, h5⟩ | h
  · exact put1 base v bs r w hb.1 h hown hbase hlen
  · exact put2 base v bs r w h4 h5 hown hbase hlen
  · exact put3 base v bs r w h4 h5 hr hown hbase hlen
  · exact put4 base v bs r w h hb.2.1 hown hbase hlen
end Go.Proofs.Ytpmcmbkilcpleaa
