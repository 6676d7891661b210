/-
  Proved here: the document's own 'met', 'Need' and 'All' of layer 7. Conditions: the slice can be read, and holds at most 10,000 numbers.
-/
import Derived.Test.YtoekkiodhbejpaaCtxRef
import Derived.Deep.DeepCutAuto
namespace Go.Proofs.Ytoekkiodhbejpaa
open Go.RowKit
set_option maxHeartbeats 8000000 in
set_option maxRecDepth 100000 in
theorem met7_any (v : Value) (l : List Int) (p : Nat) (w : World) (hl : Runes v l w) (hn : l.length ≤ 10000) (hp : p < l.length) :
    Calls Try.prog 23 #[v, .int .i64 (p : Int)] w fun e w' => e = .returned (.bool (Ctx.met l p)) ∧ Below w.heap.size w w' := by
  have HL := Lib.hid hl
  obtain ⟨A, c, rfl, -, hcell⟩ := hl.form
  obtain ⟨ad, hAd, hb0, hx⟩ := hcell p hp
  obtain ⟨x, hxe⟩ : ∃ x, l[p]! = x := ⟨_, rfl⟩
  rw [hxe] at hx
  have HM := Lib.hid (Ctx.met_at hxe)
  have hpz : (p : Int) < (l.length : Int) := by omega
  subst hAd
  clear hl hcell hxe
  obtain ⟨vr, hvr⟩ : ∃ vr, vr = Ctx.virama l p := ⟨_, rfl⟩
  have HVR := Lib.hid hvr
  rw [← hvr] at HM
  clear hvr
  go_enter Try.func23, Try.ntmps23
  go_upto_region 2 with (fail)
  go_cut [6] (fun s6 wx => s6 = .bool vr ∧ Hid (Below w.heap.size w wx))
  case first =>
    by_cases h0 : p = 0
    · have hv : vr = false := by rw [HVR.out, h0]; rfl
      subst hv
      have d0 : ¬ (0 : Int) < (p : Int) := by omega
      clear h0
      go_wp2
      go_meet
      exact ⟨rfl, Below.refl _ _⟩
    · have d0 : (0 : Int) < (p : Int) := by omega
      have K1 := Lib.hid (beside7_any _ l ((p : Int) - 1) w HL.out (by omega))
      have hv : vr = (clsOf (Ctx.at0 l ((p : Int) - 1)) == 9) := by rw [HVR.out]; unfold Ctx.virama; rw [decide_eq_true (by omega), Bool.true_and]
      generalize Ctx.at0 l ((p : Int) - 1) = y at hv K1
      have HV := Lib.hid hv
      clear h0 hv
      go_wp2_with fail
      refine K1.out.mono ?_
      rintro e w1 ⟨rfl, rfl⟩
      go_wp2_with fail
      refine (refClass_any y _).mono ?_
      rintro e w2 ⟨rfl, hb2⟩
      have B2 := Lib.hid hb2
      clear hb2
      go_wp2
      go_meet
      exact ⟨by rw [HV.out], B2.out⟩
  case rest =>
    obtain ⟨rfl, B1⟩ := hcut
    have K1 := Lib.hid (beside7_any _ l ((p : Int) - 1) wc (HL.out.keep B1.out) (by omega))
    have K2 := Lib.hid (beside7_any _ l ((p : Int) + 1) wc (HL.out.keep B1.out) (by omega))
    have HM2 := HM.out
    generalize Ctx.at0 l ((p : Int) - 1) = y at K1 HM2
    generalize Ctx.at0 l ((p : Int) + 1) = z at K2 HM2
    clear HM HVR
    by_cases x1 : x = 8205
    · rw [if_pos x1] at HM2
      have R := Lib.hid HM2
      subst x1
      clear HM2 K1 K2
      go_wp2
      go_ret
      exact ⟨by rw [R.out]; rfl, B1.out⟩
    rw [if_neg x1] at HM2
    by_cases x2 : x = 8204
    · rw [if_pos x2] at HM2
      have KJ := Lib.hid (joined7_any _ l p wc (HL.out.keep B1.out) hn hp)
      generalize Ctx.joined l p = jj at KJ HM2
      have R := Lib.hid HM2
      subst x2
      clear HM2 K1 K2 x1
      cases vr with
      | true =>
        go_wp2
        go_ret
        exact ⟨by rw [R.out]; rfl, B1.out⟩
      | false =>
        go_wp2_with fail
        refine KJ.out.mono ?_
        rintro e w3 ⟨rfl, hb3⟩
        have B3 := Lib.hid (below_then B1.out hb3)
        clear hb3
        go_wp2
        go_ret
        exact ⟨by rw [R.out]; rfl, B3.out⟩
    rw [if_neg x2] at HM2
    by_cases x3 : x = 183
    · rw [if_pos x3] at HM2
      have R := Lib.hid HM2
      subst x3
      clear HM2 x1 x2
      go_wp2_with fail
      refine K1.out.mono ?_
      rintro e w3 ⟨rfl, rfl⟩
      cases h1 : (y == 108) with
      | false =>
        go_wp2
        go_ret
        exact ⟨by rw [R.out, h1]; rfl, B1.out⟩
      | true =>
        go_wp2_with fail
        refine K2.out.mono ?_
        rintro e w4 ⟨rfl, rfl⟩
        go_wp2
        go_ret
        exact ⟨by rw [R.out, h1, Bool.true_and]; rfl, B1.out⟩
    rw [if_neg x3] at HM2
    by_cases x4 : x = 885
    · rw [if_pos x4] at HM2
      have R := Lib.hid HM2
      subst x4
      clear HM2 x1 x2 x3
      go_wp2_with fail
      refine K2.out.mono ?_
      rintro e w3 ⟨rfl, rfl⟩
      go_wp2_with fail
      refine (refScript_any z _).mono ?_
      rintro e w4 ⟨rfl, hb4⟩
      have B4 := Lib.hid (below_then B1.out hb4)
      clear hb4
      go_wp2
      go_ret
      exact ⟨by rw [R.out]; rfl, B4.out⟩
    rw [if_neg x4] at HM2
    by_cases x5 : x = 1523 ∨ x = 1524
    · rw [if_pos x5] at HM2
      have R := Lib.hid HM2
      clear HM2 x1 x2 x3 x4
      rcases x5 with rfl | rfl
      all_goals
        go_wp2_with fail
        refine K1.out.mono ?_
        rintro e w3 ⟨rfl, rfl⟩
        go_wp2_with fail
        refine (refScript_any y _).mono ?_
        rintro e w4 ⟨rfl, hb4⟩
        have B4 := Lib.hid (below_then B1.out hb4)
        clear hb4
        go_wp2
        go_ret
        exact ⟨by rw [R.out]; rfl, B4.out⟩
    rw [if_neg x5] at HM2
    by_cases x6 : x = 12539
    · rw [if_pos x6] at HM2
      have KA := Lib.hid (asian7_any _ l wc (HL.out.keep B1.out) hn)
      generalize Ctx.asian l = aa at KA HM2
      have R := Lib.hid HM2
      subst x6
      clear HM2 x1 x2 x3 x4 x5
      go_wp2_with fail
      refine KA.out.mono ?_
      rintro e w4 ⟨rfl, hb4⟩
      have B4 := Lib.hid (below_then B1.out hb4)
      clear hb4
      go_wp2
      go_ret
      exact ⟨by rw [R.out]; rfl, B4.out⟩
    rw [if_neg x6] at HM2
    have y1 : (x == 8205) = false := beq_eq_false_iff_ne.2 x1
    have y2 : (x == 8204) = false := beq_eq_false_iff_ne.2 x2
    have y3 : (x == 183) = false := beq_eq_false_iff_ne.2 x3
    have y4 : (x == 885) = false := beq_eq_false_iff_ne.2 x4
    have y5 : (x == 1523) = false := beq_eq_false_iff_ne.2 (fun e => x5 (.inl e))
    have y6 : (x == 1524) = false := beq_eq_false_iff_ne.2 (fun e => x5 (.inr e))
    have y7 : (x == 12539) = false := beq_eq_false_iff_ne.2 x6
    clear x1 x2 x3 x4 x5 x6 K1 K2
    by_cases x7 : x < 1700
    · rw [if_pos x7] at HM2
      have KA := Lib.hid (among7_any _ l 1776 1785 wc (HL.out.keep B1.out) hn)
      generalize Ctx.among l 1776 1785 = aa at KA HM2
      have R := Lib.hid HM2
      clear HM2
      go_wp2_with fail
      refine KA.out.mono ?_
      rintro e w4 ⟨rfl, hb4⟩
      have B4 := Lib.hid (below_then B1.out hb4)
      clear hb4
      go_wp2
      go_ret
      exact ⟨by rw [R.out]; rfl, B4.out⟩
    · rw [if_neg x7] at HM2
      have KA := Lib.hid (among7_any _ l 1632 1641 wc (HL.out.keep B1.out) hn)
      generalize Ctx.among l 1632 1641 = aa at KA HM2
      have R := Lib.hid HM2
      clear HM2
      go_wp2_with fail
      refine KA.out.mono ?_
      rintro e w4 ⟨rfl, hb4⟩
      have B4 := Lib.hid (below_then B1.out hb4)
      clear hb4
      go_wp2
      go_ret
      exact ⟨by rw [R.out]; rfl, B4.out⟩
set_option maxHeartbeats 4000000 in
set_option maxRecDepth 100000 in
theorem need7_any (v : Value) (l : List Int) (i : Int) (w : World) (hl : Runes v l w) (hn : l.length ≤ 10000) :
    Calls Try.prog 11 #[v, .int .i64 i] w fun e w' => e = .returned (.int .i64 (Ctx.need l i)) ∧ Below w.heap.size w w' := by
  have HL := Lib.hid hl
  obtain ⟨A, c, rfl, -, hcell⟩ := hl.form
  have HC := Lib.hid hcell
  clear hl hcell
  by_cases h0 : i < 0
  · have R := Lib.hid (show Ctx.need l i = 0 by unfold Ctx.need; rw [if_neg (by omega)])
    go_enter Try.func11, Try.ntmps11
    go_wp2
    go_ret
    exact ⟨by rw [R.out]; rfl, Below.refl _ _⟩
  · by_cases h1 : i < (l.length : Int)
    · obtain ⟨k, rfl⟩ : ∃ k : Nat, i = k := ⟨i.toNat, by omega⟩
      have hk : k < l.length := by omega
      obtain ⟨ad, rfl, hb, hx⟩ := HC.out k hk
      obtain ⟨x, hxe⟩ : ∃ x, l[k]! = x := ⟨_, rfl⟩
      have hN := Ctx.need_in hk
      rw [hxe] at hx hN
      have KN := needs7_any x w
      cases hnd : Ctx.needs x with
      | false =>
        rw [hnd] at KN hN
        have R := Lib.hid hN
        have HKN := Lib.hid KN
        clear hN KN hnd hb hxe h0
        go_enter Try.func11, Try.ntmps11
        go_wp2_with fail
        refine HKN.out.mono ?_
        rintro e w1 ⟨rfl, rfl⟩
        go_wp2
        go_ret
        exact ⟨by rw [R.out]; rfl, Below.refl _ _⟩
      | true =>
        rw [hnd, if_pos rfl] at hN
        rw [hnd] at KN
        have KM := met7_any _ l k w HL.out hn hk
        have HKN := Lib.hid KN
        cases hm : Ctx.met l k with
        | false =>
          rw [hm] at KM hN
          have R := Lib.hid hN
          have HKM := Lib.hid KM
          clear hN KN hnd hb hxe h0 KM hm
          go_enter Try.func11, Try.ntmps11
          go_wp2_with fail
          refine HKN.out.mono ?_
          rintro e w1 ⟨rfl, rfl⟩
          go_wp2_with fail
          refine HKM.out.mono ?_
          rintro e w2 ⟨rfl, hb2⟩
          have B2 := Lib.hid hb2
          clear hb2
          go_wp2
          go_ret
          exact ⟨by rw [R.out]; rfl, B2.out⟩
        | true =>
          rw [hm] at KM hN
          have R := Lib.hid hN
          have HKM := Lib.hid KM
          clear hN KN hnd hb hxe h0 KM hm
          go_enter Try.func11, Try.ntmps11
          go_wp2_with fail
          refine HKN.out.mono ?_
          rintro e w1 ⟨rfl, rfl⟩
          go_wp2_with fail
          refine HKM.out.mono ?_
          rintro e w2 ⟨rfl, hb2⟩
          have B2 := Lib.hid hb2
          clear hb2
          go_wp2
          go_ret
          exact ⟨by rw [R.out]; rfl, B2.out⟩
    · have R := Lib.hid (show Ctx.need l i = 0 by unfold Ctx.need; rw [if_neg (by omega)])
      have h2 : (l.length : Int) ≤ i := by omega
      go_enter Try.func11, Try.ntmps11
      go_wp2
      go_ret
      exact ⟨by rw [R.out]; rfl, Below.refl _ _⟩
namespace Ctx
/-- None of the first k misses what it needs. -/
def allTo (l : List Int) (k : Nat) : Bool := (List.range k).all fun i => need l (i : Nat) != 2
theorem allTo_next (l : List Int) (k : Nat) : allTo l (k + 1) = (allTo l k && need l (k : Nat) != 2) := by
  unfold allTo
  rw [List.range_succ, List.all_append]
  simp
theorem allTo_no {l : List Int} {k : Nat} (hk : k < l.length) (h : need l (k : Nat) = 2) : all l = false := by
  unfold all
  rw [List.all_eq_false]
  exact ⟨k, List.mem_range.2 hk, by rw [h]; decide⟩
end Ctx
set_option maxHeartbeats 4000000 in
set_option maxRecDepth 100000 in
theorem all7_any (v : Value) (l : List Int) (w : World) (hl : Runes v l w) (hn : l.length ≤ 10000) :
    Calls Try.prog 13 #[v] w fun e w' => e = .returned (.bool (Ctx.all l)) ∧ Below w.heap.size w w' := by
  have HL := Lib.hid hl
  obtain ⟨A, c, rfl, -, -⟩ := hl.form
  clear hl
  go_enter Try.func13, Try.ntmps13
  go_wp2
  go_loopg [3] (l.length + 1) (fun gk i wr => ∃ k : Nat, k ≤ l.length ∧ i = .int .i64 k ∧ l.length - k < gk ∧ Hid (Ctx.allTo l k = true ∧ Below w.heap.size w wr))
  case atStart => exact ⟨0, Nat.zero_le _, rfl, by omega, ⟨rfl, Below.refl _ _⟩⟩
  case round =>
    obtain ⟨k, hk, rfl, hg, I⟩ := hrel
    by_cases hlt : k < l.length
    · have hkz : (k : Int) < (l.length : Int) := by omega
      have K := need7_any _ l (k : Int) wr (HL.out.keep I.out.2) hn
      have hst := Ctx.allTo_next l k
      obtain ⟨n, hne⟩ : ∃ n, Ctx.need l (k : Int) = n := ⟨_, rfl⟩
      rw [hne] at K hst
      have HK := Lib.hid K
      have BI := Lib.hid I.out.2
      by_cases h2 : n = 2
      · have R := Lib.hid (Ctx.allTo_no hlt (by rw [hne]; exact h2))
        subst h2
        clear K hst hne I
        go_wp2_with fail
        refine HK.out.mono ?_
        rintro e w1 ⟨rfl, hb1⟩
        have B1 := Lib.hid (BI.out.trans (hb1.mono BI.out.size))
        clear hb1
        go_wp2
        go_ret
        exact ⟨by rw [R.out]; rfl, B1.out⟩
      · have y2 : (n == 2) = false := beq_eq_false_iff_ne.2 h2
        have R := Lib.hid (show Ctx.allTo l (k + 1) = true by rw [hst, I.out.1]; simp [h2])
        clear K hst hne I h2
        go_wp2_with fail
        refine HK.out.mono ?_
        rintro e w1 ⟨rfl, hb1⟩
        have B1 := Lib.hid (BI.out.trans (hb1.mono BI.out.size))
        clear hb1
        go_wp2
        go_roundg (l.length - k)
        case measure => omega
        case rel => exact ⟨k + 1, by omega, by go_num, by omega, ⟨R.out, B1.out⟩⟩
    · obtain rfl : k = l.length := by omega
      go_wp2
      go_ret
      exact ⟨by rw [show Ctx.all l = true from I.out.1]; rfl, I.out.2⟩
end Go.Proofs.Ytoekkiodhbejpaa
