/-
  Proved here: the law LabelChars, given what the program's six functions tell. Conditions: none.
-/
import Derived.Test.YtocaiabbihampaaGreatLabSmall
import Derived.Test.YtocaiabbihampaaGreatLabFine
import Derived.Test.YtocaiabbihampaaGreatNorm
import Derived.BigRegion
import Derived.Deep.RegionWith
import Derived.StillTailTactics
import Derived.Deep.RegionHeld3
namespace Go.Proofs.YtocaiabbihampaaGreat
open Go.RowKit Utf
set_option maxHeartbeats 8000000 in
set_option maxRecDepth 100000 in
theorem chars8_walk (B : LabOk) (s : ByteArray) (w : World) : Calls Tryz.prog 7 #[.string s] w fun e w' => e = .returned (.bool true) ∧ Below w.heap.size w w' := by
  by_cases hs : s.size ≤ 150
  · have hsz : ¬ (150 : Int) < (s.size : Int) := by omega
    have WS := Lib.hid (wide_of (s := s) (by omega))
    obtain ⟨E, hE⟩ : ∃ E, Lab.wideE s.data.toList = E := ⟨_, rfl⟩
    by_cases h0 : E = 0
    · subst h0
      obtain ⟨l, hrd, hr, hse, R, hl0, hc0, hcat⟩ := Lab.chars_of hE
      have hne := Lab.right_ne R
      obtain ⟨i1, -, -⟩ := ints_back hr
      have hll : l.length ≤ 150 := by
        have := (rd_cases hrd).2.1
        simp at this
        omega
      have hlp : 0 < l.length := List.length_pos_iff.2 hne
      have hR : ∀ W, Calls Tryz.prog 18 #[.string s] W fun e w' => ∃ A c, e = .returned (.tuple #[.slice A l.length c, .int .i64 (-1)]) ∧ Runes (.slice A l.length c) l w' ∧ Below W.heap.size W w' :=
        fun W => (runes_at s W (by omega) hrd).mono fun e w' ⟨A, c, he, hr, hb⟩ => ⟨A, c, by rw [he, List.length_map], by rw [List.length_map, i1] at hr; exact hr, hb⟩
      have hN := fun (t : Value) (W : World) (hT : Table W t) => nfkc_yes t s W hT (fits_of (s := s) (by omega) hrd true)
      have hF := (folds_of (s := s) (by omega) hrd).is
      rw [i1] at hF hN
      rw [R.fold, ← hse] at hF
      rw [show formOf true true l = l from R.soft, ← hse] at hN
      have HR := Lib.hid hR
      have HN := Lib.hid hN
      have HF := Lib.hid hF
      have HE := Lib.hid hE
      have HCAT := Lib.hid hcat
      clear hR hN hF hE R hse hr hrd hne i1 hcat hs
      go_enter Tryz.func7, Tryz.ntmps7
      go_wp2_with fail
      refine (small8_any B _).mono ?_
      rintro e w0 ⟨rfl, hb0⟩
      have B0 := Lib.hid hb0
      clear hb0
      go_wp2_with fail
      refine (new_any _).mono ?_
      rintro e w1 ⟨tt, rfl, hT, hb1⟩
      have hT' := hT
      obtain ⟨b0, b1, b2, b3, rfl, -, -, -, -⟩ := hT'
      have K0 := Lib.hid (kept_new (b0 := b0) (b1 := b1) (b2 := b2) (b3 := b3) (below_then B0.out hb1) hT 28)
      obtain ⟨hS, c0, c1, c2, c3⟩ := K0.out.held
      clear hT hb1 B0
      go_wp2_with fail
      refine (B.wide_at (.agg #[.slice (some ⟨b0, 0, none⟩) 74 74, .slice (some ⟨b1, 0, none⟩) 10 10, .slice (some ⟨b2, 0, none⟩) 11 11, .slice (some ⟨b3, 0, none⟩) 42 42]) s _ K0.out.table WS.out HE.out).mono ?_
      rintro e w2 ⟨rfl, hb⟩
      have K1 := Lib.hid (K0.out.next hb)
      clear hb K0 hS c0 c1 c2 c3
      obtain ⟨hS, c0, c1, c2, c3⟩ := K1.out.held
      go_wp2_with fail
      refine (HR.out _).mono ?_
      rintro e w4 ⟨A, c, rfl, hrn, hb⟩
      obtain ⟨A2, c2', e6, -, hcell⟩ := hrn.form
      injection e6 with e7 e8 e9
      subst e7
      have K2 := Lib.hid (K1.out.next hb)
      have HC := Lib.hid hcell
      have Z4 := Lib.hid (Below.refl w4.heap.size w4)
      clear hrn hb e8 e9 hcell K1 hS c0 c1 c2 c3
      obtain ⟨hS, c0, c1, c2, c3⟩ := K2.out.held
      go_wp2_with fail
      refine (HN.out (.agg #[.slice (some ⟨b0, 0, none⟩) 74 74, .slice (some ⟨b1, 0, none⟩) 10 10, .slice (some ⟨b2, 0, none⟩) 11 11, .slice (some ⟨b3, 0, none⟩) 42 42]) _ K2.out.table).mono ?_
      rintro e w5 ⟨rfl, hb⟩
      have K3 := Lib.hid (K2.out.next hb)
      have Z5 := Lib.hid hb
      clear hb K2 Z4 hS c0 c1 c2 c3
      obtain ⟨hS, c0, c1, c2, c3⟩ := K3.out.held
      obtain ⟨ad, rfl, hb, hx⟩ := HC.out 0 (by omega)
      rw [show ad.add 0 = ad by unfold Addr.add; rw [if_pos rfl]] at hx
      have hx' := (Z5.out.cell hb).trans hx
      have hbz : ad.block < w5.heap.size := Nat.lt_of_lt_of_le hb Z5.out.size
      obtain ⟨x, hxe⟩ : ∃ x, l[0]! = x := ⟨_, rfl⟩
      rw [hxe] at hx' hl0 hc0
      have x45 : (x == 45) = false := by simpa using hl0
      have hlz : (0 : Int) < (l.length : Int) := by omega
      have hln : ((l.length : Int) == 0) = false := by rw [beq_eq_false_iff_ne]; omega
      have HC0 := Lib.hid hc0
      clear hx hb hxe hl0 hc0
      go_wp2
      go_region_held3 (fun w' => w'.cell? ad = some (.int .i32 x) ∧ w'.cell? ⟨w1.heap.size, 0, none⟩ = some (.slice (some ⟨b0, 0, none⟩) 74 74) ∧ w'.cell? ⟨w1.heap.size, 1, none⟩ = some (.slice (some ⟨b1, 0, none⟩) 10 10) ∧ w'.cell? ⟨w1.heap.size, 2, none⟩ = some (.slice (some ⟨b2, 0, none⟩) 11 11) ∧ w'.cell? ⟨w1.heap.size, 3, none⟩ = some (.slice (some ⟨b3, 0, none⟩) 42 42)) (go_keep) ((go_at_call 20; (with_reducible refine (class_at K3.out.drew HC0.out).mono ?_); rintro e w6 ⟨rfl, K6, L6⟩; have hB6 := below_of_drew L6.out; have hx6 := (hB6.cell hbz).trans hx'; have Z6 := Lib.hid (below_then Z5.out hB6); obtain ⟨hS6, d0, d1, d2, d3⟩ := K6.out.held; clear L6 hB6))
      clear K3 Z5 hS c0 c1 c2 c3 hx' hbz x45 HC0 hx6 hS6 d0 d1 d2 d3
      go_wp2
      go_loopg [9] (l.length + 1) (fun gk i wr => ∃ k : Nat, k ≤ l.length ∧ i = .int .i64 k ∧ l.length - k < gk ∧ Hid (Kept w w1.heap.size b0 b1 b2 b3 wr ∧ Below w4.heap.size w4 wr))
      case atStart => exact ⟨0, Nat.zero_le _, rfl, by omega, ⟨K6.out, Z6.out⟩⟩
      case round =>
        obtain ⟨k, hk, rfl, hg, I⟩ := hrel
        obtain ⟨hS, c0, c1, c2, c3⟩ := I.out.1.held
        by_cases hlt : k < l.length
        · obtain ⟨ad2, hae, hb, hx⟩ := HC.out k hlt
          obtain rfl : ad = ad2 := by injection hae
          have hx' := (I.out.2.cell (by rw [add_block]; exact hb)).trans hx
          have hbz : ad.block < wr.heap.size := Nat.lt_of_lt_of_le hb I.out.2.size
          have hcy := HCAT.out l[k]! (by rw [getElem!_pos l k hlt]; exact List.getElem_mem hlt)
          obtain ⟨y, hye⟩ : ∃ y, l[k]! = y := ⟨_, rfl⟩
          rw [hye] at hx' hcy
          obtain ⟨cy, hce⟩ : ∃ cy, catOf y = cy := ⟨_, rfl⟩
          rw [hce] at hcy
          have g0 : (cy == 1) = false := by simpa using hcy.2.1
          have g1 : (cy == 0) = false := by simpa using hcy.1
          have g2 : (cy == 8) = false := by simpa using hcy.2.2
          have hkz : (k : Int) < (l.length : Int) := by omega
          have HCY := Lib.hid hce
          clear hx hb hae hye hce hcy
          go_wp2
          go_region_held3 (fun w' => w'.cell? (ad.add k) = some (.int .i32 y) ∧ w'.cell? ⟨w1.heap.size, 0, none⟩ = some (.slice (some ⟨b0, 0, none⟩) 74 74) ∧ w'.cell? ⟨w1.heap.size, 1, none⟩ = some (.slice (some ⟨b1, 0, none⟩) 10 10) ∧ w'.cell? ⟨w1.heap.size, 2, none⟩ = some (.slice (some ⟨b2, 0, none⟩) 11 11) ∧ w'.cell? ⟨w1.heap.size, 3, none⟩ = some (.slice (some ⟨b3, 0, none⟩) 42 42)) (go_keep) (first
            | (go_at_call 21; (with_reducible refine (cat_at I.out.1.drew HCY.out).mono ?_); rintro e w7 ⟨rfl, K7, L7⟩; have hB7 := below_of_drew L7.out; have hx7 := (hB7.cell (by rw [add_block]; exact hbz)).trans hx'; have Z7 := Lib.hid (below_then I.out.2 hB7); have hz7 := Nat.lt_of_lt_of_le hbz hB7.size; obtain ⟨hS7, d0, d1, d2, d3⟩ := K7.out.held; clear L7 hB7)
            | (go_at_call 21; (with_reducible refine (cat_at K7.out HCY.out).mono ?_); rintro e w8 ⟨rfl, K8, L8⟩; have hx8 := (L8.out.cell (by rw [add_block]; exact hz7)).trans hx7; have Z8 := Lib.hid (below_then Z7.out L8.out); have hz8 := Nat.lt_of_lt_of_le hz7 L8.out.size; obtain ⟨hS8, p0, p1, p2, p3⟩ := K8.out.held; clear L8)
            | (go_at_call 21; (with_reducible refine (cat_at K8.out HCY.out).mono ?_); rintro e w9 ⟨rfl, K9, L9⟩; have hx9 := (L9.out.cell (by rw [add_block]; exact hz8)).trans hx8; have Z9 := Lib.hid (below_then Z8.out L9.out); obtain ⟨hS9, q0, q1, q2, q3⟩ := K9.out.held; clear L9))
          go_wp2
          go_roundg (l.length - k)
          case measure => omega
          case rel => exact ⟨k + 1, by omega, by go_num, by omega, ⟨K9.out, Z9.out⟩⟩
        · obtain rfl : k = l.length := by omega
          go_wp2_with fail
          refine (HF.out (.agg #[.slice (some ⟨b0, 0, none⟩) 74 74, .slice (some ⟨b1, 0, none⟩) 10 10, .slice (some ⟨b2, 0, none⟩) 11 11, .slice (some ⟨b3, 0, none⟩) 42 42]) _ I.out.1.table).mono ?_
          rintro e w7 ⟨rfl, hb⟩
          have K7 := Lib.hid (I.out.1.next hb)
          clear hb
          go_wp2
          go_ret
          exact ⟨by simp, K7.out.below⟩
    · have e0 : (E == 0) = false := by simpa using h0
      have e1 : (E != 0) = true := by simpa using h0
      have HE := Lib.hid hE
      clear hE h0 hs
      go_enter Tryz.func7, Tryz.ntmps7
      go_wp2_with fail
      refine (small8_any B _).mono ?_
      rintro e w0 ⟨rfl, hb0⟩
      have B0 := Lib.hid hb0
      clear hb0
      go_wp2_with fail
      refine (new_any _).mono ?_
      rintro e w1 ⟨tt, rfl, hT, hb1⟩
      have hT' := hT
      obtain ⟨b0, b1, b2, b3, rfl, -, -, -, -⟩ := hT'
      have K0 := Lib.hid (kept_new (b0 := b0) (b1 := b1) (b2 := b2) (b3 := b3) (below_then B0.out hb1) hT 28)
      obtain ⟨hS, c0, c1, c2, c3⟩ := K0.out.held
      clear hT hb1 B0
      go_wp2_with fail
      refine (B.wide_at (.agg #[.slice (some ⟨b0, 0, none⟩) 74 74, .slice (some ⟨b1, 0, none⟩) 10 10, .slice (some ⟨b2, 0, none⟩) 11 11, .slice (some ⟨b3, 0, none⟩) 42 42]) s _ K0.out.table WS.out HE.out).mono ?_
      rintro e w2 ⟨rfl, hb⟩
      have K1 := Lib.hid (K0.out.next hb)
      clear hb K0 hS c0 c1 c2 c3
      obtain ⟨hS, c0, c1, c2, c3⟩ := K1.out.held
      go_wp2
      go_ret
      exact ⟨rfl, K1.out.below⟩
  · have hnz : (150 : Int) < (s.size : Int) := by omega
    go_enter Tryz.func7, Tryz.ntmps7
    go_wp2_with fail
    refine (small8_any B _).mono ?_
    rintro e w0 ⟨rfl, hb0⟩
    have B0 := Lib.hid hb0
    clear hb0
    go_wp2
    go_ret
    exact ⟨rfl, B0.out⟩
end Go.Proofs.YtocaiabbihampaaGreat
