/-
  Proved here: the laws PunyApart and PunyBack: walked. Conditions: the slices can be read.
-/
import Derived.Test.YtkgikkdgfhonlaaPunyLawA
import Derived.Test.YtkgikkdgfhonlaaPunyBackB
namespace Go.Proofs.Ytkgikkdgfhonlaa
open Go.RowKit Utf
theorem toList_eq (s : ByteArray) : s.toList = s.data.toList := ByteArray.toList_eq s
/-- What Encode tells of a row that can be read. -/
theorem enc_both (v : Value) (l : List Int) (w : World) (hl : Runes v l w) (hn : l.length ≤ 300) : ∃ (S : ByteArray) (ok : Bool), (∀ W, Below w.heap.size w W → Calls Try.prog 16 #[v] W fun e w' => e = .returned (.tuple #[.string S, .bool ok]) ∧ Below W.heap.size W w') ∧ ok = rightsZ l ∧ (ok = true → S = ⟨(Puny.encB l).toArray⟩) := by
  cases hr : rightsZ l with
  | true => exact ⟨_, _, fun W h => encodeP_yes v l W (hl.keep h) hn hr, rfl, fun _ => rfl⟩
  | false => exact ⟨_, _, fun W h => encodeP_no v l W (hl.keep h) hn hr, rfl, fun h => by cases h⟩
set_option maxHeartbeats 4000000 in
set_option maxRecDepth 100000 in
theorem apart5_walk (va : Value) (a : List Int) (vb : Value) (b : List Int) (w : World) (ha : Runes va a w) (hb : Runes vb b w) : Calls Try.prog 7 #[va, vb] w fun e w' => e = .returned (.bool true) ∧ Below w.heap.size w w' := by
  have HA := Lib.hid ha
  have HB := Lib.hid hb
  obtain ⟨A, c, rfl, -, -⟩ := ha.form
  obtain ⟨B, d, rfl, -, -⟩ := hb.form
  clear ha hb
  by_cases hna : a.length ≤ 100
  · by_cases hnb : b.length ≤ 100
    · have ha1 : ¬ (100 : Int) < (a.length : Int) := by omega
      have hb1 : ¬ (100 : Int) < (b.length : Int) := by omega
      obtain ⟨S, ok, hE, hok, hS⟩ := enc_both _ a w HA.out (by omega)
      obtain ⟨T, is, hF, his, hT⟩ := enc_both _ b w HB.out (by omega)
      have HE := Lib.hid hE
      have HF := Lib.hid hF
      have hlen : a.length ≤ 100000 := by omega
      clear hE hF
      cases ok with
      | false =>
        clear hok his hS hT
        go_enter Try.func7, Try.ntmps7
        go_wp2_with fail
        refine (small5_any _).mono ?_
        rintro e w1 ⟨rfl, hb1⟩
        have B1 := Lib.hid hb1
        clear hb1
        go_wp2_with fail
        refine (HE.out _ B1.out).mono ?_
        rintro e w2 ⟨rfl, hb2⟩
        have B2 := Lib.hid (below_then B1.out hb2)
        clear hb2 B1
        go_wp2_with fail
        refine (HF.out _ B2.out).mono ?_
        rintro e w3 ⟨rfl, hb3⟩
        have B3 := Lib.hid (below_then B2.out hb3)
        clear hb3 B2
        go_wp2
        go_ret
        exact ⟨rfl, B3.out⟩
      | true =>
        cases is with
        | false =>
          clear hok his hS hT
          go_enter Try.func7, Try.ntmps7
          go_wp2_with fail
          refine (small5_any _).mono ?_
          rintro e w1 ⟨rfl, hb1⟩
          have B1 := Lib.hid hb1
          clear hb1
          go_wp2_with fail
          refine (HE.out _ B1.out).mono ?_
          rintro e w2 ⟨rfl, hb2⟩
          have B2 := Lib.hid (below_then B1.out hb2)
          clear hb2 B1
          go_wp2_with fail
          refine (HF.out _ B2.out).mono ?_
          rintro e w3 ⟨rfl, hb3⟩
          have B3 := Lib.hid (below_then B2.out hb3)
          clear hb3 B2
          go_wp2
          go_ret
          exact ⟨rfl, B3.out⟩
        | true =>
          have hSe := hS rfl
          have hTe := hT rfl
          have hEQ : (S.toList == T.toList) = decide (a = b) := by
            rw [hSe, hTe, toList_eq, toList_eq, Bool.eq_iff_iff, beq_iff_eq, decide_eq_true_eq]
            constructor
            · intro e
              exact Puny.enc_inj hok.symm his.symm (by omega) (by omega) (by simpa using e)
            · rintro rfl; rfl
          have KS := Lib.hid (fun W (h : Below w.heap.size w W) => refSame_any _ _ a b W (HA.out.keep h) (HB.out.keep h) hlen)
          unfold SamePost at KS
          generalize decide (a = b) = z at hEQ KS
          clear hok his hS hT hSe hTe
          go_enter Try.func7, Try.ntmps7
          go_wp2_with fail
          refine (small5_any _).mono ?_
          rintro e w1 ⟨rfl, hb1⟩
          have B1 := Lib.hid hb1
          clear hb1
          go_wp2_with fail
          refine (HE.out _ B1.out).mono ?_
          rintro e w2 ⟨rfl, hb2⟩
          have B2 := Lib.hid (below_then B1.out hb2)
          clear hb2 B1
          go_wp2_with fail
          refine (HF.out _ B2.out).mono ?_
          rintro e w3 ⟨rfl, hb3⟩
          have B3 := Lib.hid (below_then B2.out hb3)
          clear hb3 B2
          go_wp2_with fail
          refine (KS.out _ B3.out).mono ?_
          rintro e w4 ⟨rfl, hb4⟩
          have B4 := Lib.hid (below_then B3.out hb4)
          clear hb4 B3
          go_wp2
          go_ret
          exact ⟨by simp, B4.out⟩
    · have ha1 : ¬ (100 : Int) < (a.length : Int) := by omega
      have hb1 : (100 : Int) < (b.length : Int) := by omega
      go_enter Try.func7, Try.ntmps7
      go_wp2_with fail
      refine (small5_any _).mono ?_
      rintro e w1 ⟨rfl, hb1⟩
      have B1 := Lib.hid hb1
      clear hb1
      go_wp2
      go_ret
      exact ⟨rfl, B1.out⟩
  · have ha1 : (100 : Int) < (a.length : Int) := by omega
    go_enter Try.func7, Try.ntmps7
    go_wp2_with fail
    refine (small5_any _).mono ?_
    rintro e w1 ⟨rfl, hb1⟩
    have B1 := Lib.hid hb1
    clear hb1
    go_wp2
    go_ret
    exact ⟨rfl, B1.out⟩
end Go.Proofs.Ytkgikkdgfhonlaa
