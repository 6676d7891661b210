/-
  Proved here: fold's 'each' at characters, handed any bound function that tells a character and leaves what lay in memory as it was: what it makes of each, in new memory. Conditions: the slice can be read, and holds at most 10,000 numbers.
-/
import Derived.Test.YtceclnhaeijloaaUtfA
namespace Go.Proofs.Ytceclnhaeijloaa
open Go.RowKit Utf
theorem madeBelow {w w1 : World} (h : w.grownBy w1 none) : Below w.heap.size w w1 := ⟨h.os, h.tape, h.output, h.size, fun k hk => h.block k hk (by simp)⟩
set_option maxHeartbeats 4000000 in
set_option maxRecDepth 100000 in
theorem eachR_any (g : Nat) (rv : Array Value) (f : Int → Int) (v : Value) (l : List Int) (w : World) (eg : ∀ args w, (callFunc g args).run Try.prog w = .ok (.enter g args) w) (hl : Runes v l w) (hn : l.length ≤ 10000)
    (hf : ∀ (W : World) (x : Int), Below w.heap.size w W → Calls Try.prog g (rv ++ #[.int .i32 x]) W fun e w' => e = .returned (.int .i32 (f x)) ∧ Below W.heap.size W w') :
    Calls Try.prog 34 #[v, .func (.func g) rv #[]] w fun e w' => ∃ v, e = .returned v ∧ OwnR w.heap.size v (l.map f) w' ∧ Below w.heap.size w w' := by
  obtain ⟨A, c, rfl, hc, hcell⟩ := hl.form
  have HC := Lib.hid hcell
  have HF := Lib.hid hf
  obtain ⟨i0, hi0, hz0, hs0, hb0⟩ := info_parts info_i32
  have hby : i0.bytes * l.length ≤ 281474976710656 := by rw [hb0]; omega
  clear hl hcell hf
  go_enter Try.func34, Try.ntmps34
  go_wp2_with (at_make; refine wpList_make_own _ rfl _ _ 22 rfl w.heap.size 21 i0 (.int .i32 0) 1 Try.underlying22 hi0 hz0 hs0 _ _ _ l.length rfl rfl rfl hby (by simp only [maxLen]; omega) (by simp) ?_; intro w1 ho1 hg1)
  have hb1 := madeBelow hg1
  have B1 := Lib.hid hb1
  have O1 : Hid (OwnR w.heap.size (.slice (some ⟨w.heap.size, 0, none⟩) 0 l.length) [] w1) := Lib.hid (by simpa [OwnR] using ho1)
  clear hb1 hg1 ho1 hby hb0 hs0 hz0 hi0
  go_loopg [5, 7, 13] (l.length + 1) (fun gk v _ i wr => ∃ k : Nat, k ≤ l.length ∧ i = .int .i64 k ∧ l.length - k < gk ∧ Hid (OwnR w.heap.size v ((l.take k).map f) wr ∧ Below w.heap.size w wr))
  case atStart => exact ⟨0, Nat.zero_le _, rfl, by omega, ⟨O1.out, B1.out⟩⟩
  case round =>
    obtain ⟨k, hk, rfl, hg, I⟩ := hrel
    by_cases hlt : k < l.length
    · obtain ⟨ad, rfl, hb, hx⟩ := HC.out k hlt
      have hx' := (I.out.2.cell (by rw [add_block]; exact hb)).trans hx
      obtain ⟨x, hxe⟩ : ∃ x, x = l[k]! := ⟨_, rfl⟩
      rw [← hxe] at hx'
      have hnx : (l.take (k + 1)).map f = (l.take k).map f ++ [f x] := by rw [take_next l k hlt, List.map_append, ← hxe]; rfl
      have hle : ((l.take k).map f).length ≤ 1000000 := by rw [List.length_map, List.length_take]; omega
      have hkz : (k : Int) < (l.length : Int) := by omega
      have K := HF.out wr x I.out.2
      obtain ⟨y, hy⟩ : ∃ y, y = f x := ⟨_, rfl⟩
      rw [← hy] at K hnx
      have HN := Lib.hid hnx
      have HK := Lib.hid K
      clear hx hb hxe hnx K hy
      go_wp2_with fail
      refine HK.out.mono ?_
      rintro e w2 ⟨rfl, hb2⟩
      have HB := Lib.hid hb2
      clear hb2 HK
      go_wp2_with (at_builtin; refine append_cells w2 22 21 (.int .i32 0) 4 Try.underlying22 info_i32 rfl (by omega) w.heap.size u5 _ _ (I.out.1.keep HB.out) (Nat.le_trans I.out.2.size HB.out.size) hle 1 (by omega) _ rfl rfl rfl _ _ rfl rfl rfl ?_; intro v3 w3 ho3 hb3; have HO := Lib.hid ho3; have HB3 := Lib.hid hb3; clear ho3 hb3)
      have I2 : Hid (OwnR w.heap.size v3 ((l.take (k + 1)).map f) w3 ∧ Below w.heap.size w w3) := by
        refine ⟨?_, (I.out.2.trans (HB.out.mono I.out.2.size)).trans HB3.out⟩
        rw [HN.out]
        exact OwnR.more HO.out rfl rfl
      go_roundg (l.length - k)
      case measure => omega
      case rel => exact ⟨k + 1, by omega, by go_num, by omega, I2⟩
    · obtain rfl : k = l.length := by omega
      go_wp2
      go_ret
      have h := I.out.1
      rw [List.take_length] at h
      exact ⟨_, rfl, h, I.out.2⟩
end Go.Proofs.Ytceclnhaeijloaa
