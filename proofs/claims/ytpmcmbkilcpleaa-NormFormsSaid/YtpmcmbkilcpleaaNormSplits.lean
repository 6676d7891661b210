/-
  Proved here: norm.Split: all of a slice is split. Conditions: the table is one that New made; the slice can be read, and holds at most 10,000 numbers.
-/
import Derived.Test.YtpmcmbkilcpleaaNormSplit
namespace Go.Proofs.Ytpmcmbkilcpleaa
open Go.RowKit Utf
/-- What 'make([]rune, 0, n)' leaves. -/
theorem made_grew {w w1 : World} (h : w.grownBy w1 none) : Below w.heap.size w w1 := ⟨h.os, h.tape, h.output, h.size, fun k hk => h.block k hk (by simp)⟩
set_option maxHeartbeats 4000000 in
set_option maxRecDepth 100000 in
theorem splitAll_any (t v : Value) (l : List Int) (soft : Bool) (w : World) (hT : Table w t) (hl : Runes v l w) (hn : l.length ≤ 10000) : Calls Try.prog 12 #[t, v, .bool soft] w (PiecesPost (Norm.split soft l) w) := by
  have hT' := hT
  obtain ⟨b0, b1, b2, b3, rfl, -, -, -, -⟩ := hT'
  obtain ⟨A, c, rfl, hc, hcell⟩ := hl.form
  have HC := Lib.hid hcell
  have HT := Lib.hid (show Tabled w.heap.size _ w from fun W hW => hT.below hW)
  obtain ⟨i0, hi0, hz0, hs0, hb0⟩ := info_parts info_i32
  have hby : i0.bytes * l.length ≤ 281474976710656 := by rw [hb0]; omega
  clear hT hl hcell
  go_enter Try.func12, Try.ntmps12
  go_wp2_with (at_make; refine wpList_make_own _ rfl _ _ 22 rfl w.heap.size 21 i0 (.int .i32 0) 1 Try.underlying22 hi0 hz0 hs0 _ _ _ l.length rfl rfl rfl hby (by simp only [maxLen]; omega) (by simp) ?_; intro w1 ho1 hg1)
  have hb1 := made_grew hg1
  obtain ⟨hz1, e0, e1, e2, e3⟩ := boxTable hb1
  have hsz1 : w.heap.size + 1 < w1.heap.size := by have := (World.ownsRow.lt ho1 (w.heap.size + 1) (by simp [Value.ownBlock])).2; omega
  have E := Lib.hid (And.intro e0 (And.intro e1 (And.intro e2 e3)))
  have B1 := Lib.hid (below_then (below_one w _) hb1)
  have O1 : Hid (OwnR w.heap.size (.slice (some ⟨w.heap.size + 1, 0, none⟩) 0 l.length) [] w1) := Lib.hid (by simpa [OwnR] using ho1)
  clear hb1 hg1 ho1 e0 e1 e2 e3 hby hb0 hs0 hz0 hi0
  go_loopg [7, 9, 15] (l.length + 1) (fun gk v _ i wr => ∃ k : Nat, k ≤ l.length ∧ i = .int .i64 k ∧ l.length - k < gk ∧ Hid (OwnR w.heap.size v (Norm.split soft (l.take k)) wr ∧ Grew (.slice (some ⟨w.heap.size + 1, 0, none⟩) 0 l.length) v w1 wr))
  case atStart => exact ⟨0, Nat.zero_le _, rfl, by omega, ⟨O1.out, Grew.refl _ _⟩⟩
  case round =>
    obtain ⟨k, hk, rfl, hg, I⟩ := hrel
    have hBW := B1.out.trans (I.out.2.below (base := w.heap.size) (by omega) (fun j hj => by simp [Value.ownBlock] at hj; omega))
    have BW := Lib.hid hBW
    by_cases hlt : k < l.length
    · obtain ⟨ad, rfl, hb, hx⟩ := HC.out k hlt
      have hx' := (hBW.cell (by rw [add_block]; exact hb)).trans hx
      obtain ⟨x, hxe⟩ : ∃ x, x = l[k]! := ⟨_, rfl⟩
      rw [← hxe] at hx'
      have HX := Lib.hid hxe
      have hkz : (k : Int) < (l.length : Int) := by omega
      have hwz : w.heap.size < wr.heap.size := by have := I.out.2.size; omega
      have f0 := (I.out.2.cell (p := ⟨w.heap.size, 0, none⟩) hz1 (by simp [Value.ownBlock])).trans E.out.1
      have f1 := (I.out.2.cell (p := ⟨w.heap.size, 1, none⟩) hz1 (by simp [Value.ownBlock])).trans E.out.2.1
      have f2 := (I.out.2.cell (p := ⟨w.heap.size, 2, none⟩) hz1 (by simp [Value.ownBlock])).trans E.out.2.2.1
      have f3 := (I.out.2.cell (p := ⟨w.heap.size, 3, none⟩) hz1 (by simp [Value.ownBlock])).trans E.out.2.2.2
      have K := Lib.hid (splitOne_any soft x w.heap.size _ u7 _ wr (HT.out.next hBW) I.out.1 (Nat.le_of_lt hwz) (by have := split_len soft (l.take k); rw [List.length_take] at this; omega))
      clear hx hb hxe hBW
      go_wp2_with fail
      refine K.out.mono ?_
      rintro e w3 ⟨v3, rfl, ho3, hg3⟩
      have I2 : Hid (OwnR w.heap.size v3 (Norm.split soft (l.take (k + 1))) w3 ∧ Grew (.slice (some ⟨w.heap.size + 1, 0, none⟩) 0 l.length) v3 w1 w3) := by
        refine ⟨?_, I.out.2.trans hg3⟩
        rw [take_next l k hlt, split_snoc, ← HX.out]
        exact ho3
      clear ho3 hg3 K f0 f1 f2 f3
      go_wp2
      go_roundg (l.length - k)
      case measure => omega
      case rel => exact ⟨k + 1, by omega, by go_num, by omega, I2⟩
    · obtain rfl : k = l.length := by omega
      clear hBW
      go_wp2
      go_ret
      have h := I.out.1
      rw [List.take_length] at h
      exact ⟨_, rfl, h, BW.out⟩
end Go.Proofs.Ytpmcmbkilcpleaa
