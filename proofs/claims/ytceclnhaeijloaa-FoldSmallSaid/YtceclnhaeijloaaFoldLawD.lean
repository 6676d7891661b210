/-
  Proved here: the law FoldSmall: nothing that is folded has a great letter, or a wide character. Conditions: none.
-/
import Derived.Test.YtceclnhaeijloaaFoldSmall
import Derived.Test.YtceclnhaeijloaaFoldLawB
namespace Go.Proofs.Ytceclnhaeijloaa
open Go.RowKit Utf
theorem match_undef4 {α : Type} (h1 : Bool → α) (h2 : Option Value → α) : Go.yielded.match_1 (fun _ => α) (some undef) h1 h2 = h2 (some undef) := rfl
attribute [local go_sem] match_undef4
set_option maxRecDepth 100000 in
set_option maxHeartbeats 8000000 in
theorem small4_walk (s : ByteArray) (w : World) : Calls Try.prog 6 #[.string s] w fun e w' => e = .returned (.bool true) ∧ Below w.heap.size w w' := by
  by_cases hs : s.size ≤ 200
  · have hsz : (s.size : Int) ≤ 200 := by omega
    obtain ⟨⟨m, z⟩, hrd⟩ : ∃ p, rdOf s.data.toList = p := ⟨_, rfl⟩
    obtain ⟨hm1, hm2, hmz⟩ := rd_cases hrd
    rcases hmz with ⟨rfl, -⟩ | ⟨k, rfl, -, -⟩
    · have hml : (ints m).length ≤ 200 := by simp [ints]; simp at hm2; omega
      have F0 := (folds_of hs hrd).is
      obtain ⟨-, -, -, ⟨a1, a2⟩, -⟩ := folds_all (ints_right m hm1).1 hml
      have hfx := Fold.fold_all_fix (ints m)
      obtain ⟨L, hL⟩ : ∃ L, L = Fold.fold (ints m) := ⟨_, rfl⟩
      rw [← hL] at a1 a2 hfx F0
      have hrx := rd_enc a1
      obtain ⟨i1, -, -⟩ := ints_back a1
      have hel := encZ_len L
      obtain ⟨x, hx⟩ : ∃ x, x = encZ L := ⟨_, rfl⟩
      rw [← hx] at hrx F0 hel
      have hxs : (⟨x.toArray⟩ : ByteArray).size ≤ 100000 := by
        have e : (⟨x.toArray⟩ : ByteArray).size = x.length := by simp [ByteArray.size]
        omega
      have hR := fun W => runes_at ⟨x.toArray⟩ W hxs (l := L.map Int.toNat) (z := -1) (by simpa using hrx)
      unfold RunesAt at hR
      rw [i1, List.length_map] at hR
      have H0 := Lib.hid F0
      have HR := Lib.hid hR
      have HX := Lib.hid hfx
      clear hrd hm1 hm2 hml F0 a1 hfx hL hrx i1 hel hx hxs hR
      go_enter Try.func6, Try.ntmps6
      go_wp2_with fail
      refine (small4_any _).mono ?_
      rintro e w1 ⟨rfl, hb1⟩
      have B1 := Lib.hid hb1
      clear hb1
      go_wp2_with fail
      refine (new_any _).mono ?_
      rintro e w2 ⟨tt, rfl, hT, hb2⟩
      have hT' := hT
      obtain ⟨b0, b1, b2, b3, rfl, -, -, -, -⟩ := hT'
      have K0 := Lib.hid (kept_new (b0 := b0) (b1 := b1) (b2 := b2) (b3 := b3) (below_then B1.out hb2) hT 29)
      clear hT hb2 B1
      go_wp2_with fail
      refine (fold_at K0.out H0.out).mono ?_
      rintro e w3 ⟨rfl, K1, L1⟩
      obtain ⟨hS, c0, c1, c2, c3⟩ := K1.out.held
      clear K0 L1
      go_wp2_with fail
      refine (HR.out _).mono ?_
      rintro e w4 ⟨A5, c5, rfl, hr4, hb4⟩
      have K3 := Lib.hid (K1.out.next hb4)
      obtain ⟨A6, c6, e6, -, hcell⟩ := hr4.form
      injection e6 with e7 e8 e9
      subst e7
      have HC := Lib.hid hcell
      clear hr4 hb4 K1 e8 e9 hcell
      go_wp2
      go_loopg [9] (L.length + 1) (fun gk i wr => ∃ k : Nat, k ≤ L.length ∧ i = .int .i64 k ∧ L.length - k < gk ∧ Hid (Kept w w2.heap.size b0 b1 b2 b3 wr ∧ Below w4.heap.size w4 wr))
      case atStart => exact ⟨0, Nat.zero_le _, rfl, by omega, ⟨K3.out, Below.refl _ _⟩⟩
      case round =>
        obtain ⟨k, hk, rfl, hg, I⟩ := hrel
        by_cases hlt : k < L.length
        · obtain ⟨ad, rfl, hb, hx⟩ := HC.out k hlt
          have hx' := (I.out.2.cell (by rw [add_block]; exact hb)).trans hx
          obtain ⟨y, hye⟩ : ∃ y, y = L[k]! := ⟨_, rfl⟩
          rw [← hye] at hx'
          have hfy : Fold.fo y = y := HX.out y (by rw [hye, getElem!_pos L k hlt]; exact List.getElem_mem hlt)
          obtain ⟨hcat, hwd⟩ := Fold.fix_small hfy
          have hkz : (k : Int) < (L.length : Int) := by omega
          obtain ⟨hS, c0, c1, c2, c3⟩ := I.out.1.held
          have KC : Hid (Calls Try.prog 25 #[.agg #[.slice (some ⟨b0, 0, none⟩) 74 74, .slice (some ⟨b1, 0, none⟩) 10 10, .slice (some ⟨b2, 0, none⟩) 11 11, .slice (some ⟨b3, 0, none⟩) 42 42], .int .i32 y] wr.drew fun e w' => e = .returned (.int .i64 (catOf y)) ∧ Below wr.drew.heap.size wr.drew w') := Lib.hid (cat_any _ y wr.drew I.out.1.drew.table)
          have hbz : ad.block < wr.heap.size := Nat.lt_of_lt_of_le hb I.out.2.size
          obtain ⟨cy, hcy⟩ : ∃ cy, cy = catOf y := ⟨_, rfl⟩
          rw [← hcy] at KC hcat
          have hcb : (cy == 1) = false := by simpa using hcat
          clear hx hb hye hfy hcy hcat
          rcases (show y < 65281 ∨ (65281 ≤ y ∧ 65374 < y) by unfold wideOf at hwd; simp at hwd; omega) with h1 | ⟨h1, h2⟩
          · clear hwd
            go_wp2
            first | (go_region_with (go_at_call 25; (with_reducible refine KC.out.mono ?_); rintro e w5 ⟨rfl, hb5⟩; have hB5 := below_of_drew hb5; have hx5 := (hB5.cell (by rw [add_block]; exact hbz)).trans hx'; have I2 : Hid (Kept w w2.heap.size b0 b1 b2 b3 w5 ∧ Below w4.heap.size w4 w5) := ⟨I.out.1.next hB5, I.out.2.trans (hB5.mono I.out.2.size)⟩; clear hb5 hB5)) | fail
            all_goals
              go_wp2
              go_roundg (L.length - k)
              case measure => omega
              case rel => exact ⟨k + 1, by omega, by go_num, by omega, I2⟩
          · clear hwd
            go_wp2
            first | (go_region_with (go_at_call 25; (with_reducible refine KC.out.mono ?_); rintro e w5 ⟨rfl, hb5⟩; have hB5 := below_of_drew hb5; have hx5 := (hB5.cell (by rw [add_block]; exact hbz)).trans hx'; have I2 : Hid (Kept w w2.heap.size b0 b1 b2 b3 w5 ∧ Below w4.heap.size w4 w5) := ⟨I.out.1.next hB5, I.out.2.trans (hB5.mono I.out.2.size)⟩; clear hb5 hB5)) | fail
            all_goals
              go_wp2
              go_roundg (L.length - k)
              case measure => omega
              case rel => exact ⟨k + 1, by omega, by go_num, by omega, I2⟩
        · obtain rfl : k = L.length := by omega
          go_wp2
          go_ret
          exact ⟨rfl, I.out.1.below⟩
    · have F0 := foldIs_no (s := s) (by omega) hrd
      have hR := fun W => runes_at ⟨#[]⟩ W (by decide) (l := []) (z := -1) (by decide +kernel)
      have H0 := Lib.hid F0
      have HR := Lib.hid hR
      clear hrd hm1 hm2 F0 hR
      go_enter Try.func6, Try.ntmps6
      go_wp2_with fail
      refine (small4_any _).mono ?_
      rintro e w1 ⟨rfl, hb1⟩
      have B1 := Lib.hid hb1
      clear hb1
      go_wp2_with fail
      refine (new_any _).mono ?_
      rintro e w2 ⟨tt, rfl, hT, hb2⟩
      have hT' := hT
      obtain ⟨b0, b1, b2, b3, rfl, -, -, -, -⟩ := hT'
      have K0 := Lib.hid (kept_new (b0 := b0) (b1 := b1) (b2 := b2) (b3 := b3) (below_then B1.out hb2) hT 29)
      clear hT hb2 B1
      go_wp2_with fail
      refine (fold_at K0.out H0.out).mono ?_
      rintro e w3 ⟨rfl, K1, L1⟩
      obtain ⟨hS, c0, c1, c2, c3⟩ := K1.out.held
      clear K0 L1
      go_wp2_with fail
      refine (HR.out _).mono ?_
      rintro e w4 ⟨A5, c5, rfl, hr4, hb4⟩
      have K3 := Lib.hid (K1.out.next hb4)
      clear hr4 hb4 K1
      go_wp2
      go_loopg [9] 1 (fun gk i wr => i = .int .i64 0 ∧ Hid (Kept w w2.heap.size b0 b1 b2 b3 wr))
      case atStart => exact ⟨rfl, K3⟩
      case round =>
        obtain ⟨rfl, I⟩ := hrel
        go_wp2
        go_ret
        exact ⟨rfl, I.out.below⟩
  · have hsz : (200 : Int) < (s.size : Int) := by omega
    go_enter Try.func6, Try.ntmps6
    go_wp2_with fail
    refine (small4_any _).mono ?_
    rintro e w1 ⟨rfl, hb1⟩
    have B1 := Lib.hid hb1
    clear hb1
    go_wp2
    go_ret
    exact ⟨rfl, B1.out⟩
end Go.Proofs.Ytceclnhaeijloaa
