/-
  Proved here: 'put' of package utf lays the bytes of a character behind bytes that the caller owns. Conditions: the number is a character, there are not too many bytes.
-/
import Derived.Test.YtmcjgdajnppbhaaGreatDoorUtfSmall
import Derived.Test.YtmcjgdajnppbhaaGreatDoorUtfOwn
namespace Go.Proofs.YtmcjgdajnppbhaaGreatDoor
open Go.RowKit Utf
theorem byteV_u {n : Nat} {z : Int} (h : n < 256) (e : z = n) : Value.int .u8 z = byteV (u n) := by
  unfold byteV
  rw [u_toNat h, e]
theorem enc1_cells {r : Int} (h0 : 0 ≤ r) (h : r < 128) : [Value.int .u8 r] = (enc r.toNat).map byteV := by
  unfold enc
  rw [if_pos (by omega), List.map_cons, List.map_nil, ← byteV_u (z := r) (by omega) (by omega)]
theorem enc2_cells {r : Int} (h0 : 128 ≤ r) (h : r ≤ 2047) : [Value.int .u8 (192 + r / 64), .int .u8 (128 + r % 64)] = (enc r.toNat).map byteV := by
  unfold enc
  rw [if_neg (by omega), if_pos (by omega), List.map_cons, List.map_cons, List.map_nil, ← byteV_u (z := 192 + r / 64) (by omega) (by omega), ← byteV_u (z := 128 + r % 64) (by omega) (by omega)]
theorem enc3_cells {r : Int} (h0 : 2047 < r) (h : r ≤ 65535) : [Value.int .u8 (224 + r / 4096), .int .u8 (128 + r / 64 % 64), .int .u8 (128 + r % 64)] = (enc r.toNat).map byteV := by
  unfold enc
  rw [if_neg (by omega), if_neg (by omega), if_pos (by omega), List.map_cons, List.map_cons, List.map_cons, List.map_nil, ← byteV_u (z := 224 + r / 4096) (by omega) (by omega), ← byteV_u (z := 128 + r / 64 % 64) (by omega) (by omega), ← byteV_u (z := 128 + r % 64) (by omega) (by omega)]
theorem enc4_cells {r : Int} (h0 : 65535 < r) (h : r ≤ 1114111) : [Value.int .u8 (240 + r / 262144), .int .u8 (128 + r / 4096 % 64), .int .u8 (128 + r / 64 % 64), .int .u8 (128 + r % 64)] = (enc r.toNat).map byteV := by
  unfold enc
  rw [if_neg (by omega), if_neg (by omega), if_neg (by omega), List.map_cons, List.map_cons, List.map_cons, List.map_cons, List.map_nil, ← byteV_u (z := 240 + r / 262144) (by omega) (by omega), ← byteV_u (z := 128 + r / 4096 % 64) (by omega) (by omega), ← byteV_u (z := 128 + r / 64 % 64) (by omega) (by omega), ← byteV_u (z := 128 + r % 64) (by omega) (by omega)]
theorem enc_len1 {r : Int} (h0 : 0 ≤ r) (h : r < 128) : lenZ r = 1 ∧ (enc r.toNat).length = 1 := by
  rw [enc_length]; unfold lenZ lenOf
  rw [if_pos ((rightZ_iff r).2 (by omega)), if_pos (by omega)]; exact ⟨rfl, rfl⟩
theorem enc_len2 {r : Int} (h0 : 128 ≤ r) (h : r ≤ 2047) : lenZ r = 2 ∧ (enc r.toNat).length = 2 := by
  rw [enc_length]; unfold lenZ lenOf
  rw [if_pos ((rightZ_iff r).2 (by omega)), if_neg (by omega), if_pos (by omega)]; exact ⟨rfl, rfl⟩
theorem enc_len3 {r : Int} (h0 : 2047 < r) (h : r ≤ 65535) (hr : rightZ r = true) : lenZ r = 3 ∧ (enc r.toNat).length = 3 := by
  rw [enc_length]; unfold lenZ lenOf
  rw [if_pos hr, if_neg (by omega), if_neg (by omega), if_pos (by omega)]; exact ⟨rfl, rfl⟩
theorem enc_len4 {r : Int} (h0 : 65535 < r) (h : r ≤ 1114111) : lenZ r = 4 ∧ (enc r.toNat).length = 4 := by
  rw [enc_length]; unfold lenZ lenOf
  rw [if_pos ((rightZ_iff r).2 (by omega)), if_neg (by omega), if_neg (by omega), if_neg (by omega)]; exact ⟨rfl, rfl⟩
def PutPost (base : Nat) (bs : List UInt8) (r : Int) (w : World) (e : Ending) (w' : World) : Prop := ∃ v', e = .returned v' ∧ OwnB base v' (bs ++ enc r.toNat) w' ∧ Below base w w'
end Go.Proofs.YtmcjgdajnppbhaaGreatDoor
