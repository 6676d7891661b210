/-
  Proved here: the law LabelBack, given what the program's six functions tell. Conditions: none.
-/
import Derived.Test.YtocaiabbihampaaGreatLabSmall
import Derived.Test.YtocaiabbihampaaGreatLabFine
import Derived.Test.YtocaiabbihampaaGreatUtfA
namespace Go.Proofs.YtocaiabbihampaaGreat
open Go.RowKit Utf
set_option maxHeartbeats 8000000 in
set_option maxRecDepth 100000 in
theorem back8_walk (B : LabOk) (s : ByteArray) (w : World) : Calls Tryz.prog 3 #[.string s] w fun e w' => e = .returned (.bool true) ∧ Below w.heap.size w w' := by
  by_cases hs : s.size ≤ 150
  · have hsz : ¬ (150 : Int) < (s.size : Int) := by omega
    obtain ⟨⟨E, a, u⟩, hb⟩ : ∃ p, Lab.bothE s.data.toList = p := ⟨_, rfl⟩
    have LS := Lib.hid (lab_of hs)
    by_cases hE : E = 0
    · subst hE
      obtain ⟨U, hu, rU, fU, lU, bu, ba, ea, l0, l1⟩ := Lab.back_of hb
      have hdU := down_len false (U.map Fold.fo)
      rw [List.length_map] at hdU
      have LU : Hid (LabFits ⟨u.toArray⟩) := Lib.hid (by rw [hu]; exact lab_enc rU (by omega) (by omega) (by rw [fU]; omega))
      have LA : Hid (LabFits ⟨a.toArray⟩) := Lib.hid (lab_of (by rw [size_of]; omega))
      have EA := Lib.hid (fun W => eight_any ⟨a.toArray⟩ W (by rw [size_of]; omega))
      rw [show eightOf (⟨a.toArray⟩ : ByteArray).data.toList = -1 from ea] at EA
      have HB := Lib.hid hb
      have HU : Hid (Lab.bothE (⟨u.toArray⟩ : ByteArray).data.toList = (0, a, u)) := Lib.hid bu
      have HA : Hid (Lab.bothE (⟨a.toArray⟩ : ByteArray).data.toList = (0, a, u)) := Lib.hid ba
      have z0 : (0 : Int) < ((⟨a.toArray⟩ : ByteArray).size : Int) := by rw [size_of]; omega
      have z1 : ((⟨a.toArray⟩ : ByteArray).size : Int) ≤ 63 := by rw [size_of]; omega
      have LSZ := Lib.hid (size_of a)
      clear hu rU fU lU bu ba ea hdU hb hs
      go_enter Tryz.func3, Tryz.ntmps3
      go_wp2_with fail
      refine (small8_any B _).mono ?_
      rintro e w0 ⟨rfl, hb0⟩
      have B0 := Lib.hid hb0
      clear hb0
      go_wp2_with fail
      refine (new_any _).mono ?_
      rintro e w1 ⟨tt, rfl, hT, hb1⟩
      have hT' := hT
      obtain ⟨b0, b1, b2, b3, rfl, -, -, -, -⟩ := hT'
      have K0 := Lib.hid (kept_new (b0 := b0) (b1 := b1) (b2 := b2) (b3 := b3) (below_then B0.out hb1) hT 28)
      obtain ⟨hS, c0, c1, c2, c3⟩ := K0.out.held
      clear hT hb1 B0
      go_wp2_with fail
      refine (B.ascii_at (.agg #[.slice (some ⟨b0, 0, none⟩) 74 74, .slice (some ⟨b1, 0, none⟩) 10 10, .slice (some ⟨b2, 0, none⟩) 11 11, .slice (some ⟨b3, 0, none⟩) 42 42]) s _ K0.out.table LS.out HB.out).mono ?_
      rintro e w2 ⟨rfl, hb⟩
      have K1 := Lib.hid (K0.out.next hb)
      clear hb K0 hS c0 c1 c2 c3
      obtain ⟨hS, c0, c1, c2, c3⟩ := K1.out.held
      go_wp2_with fail
      refine (B.uni_at (.agg #[.slice (some ⟨b0, 0, none⟩) 74 74, .slice (some ⟨b1, 0, none⟩) 10 10, .slice (some ⟨b2, 0, none⟩) 11 11, .slice (some ⟨b3, 0, none⟩) 42 42]) s _ K1.out.table LS.out HB.out).mono ?_
      rintro e w3 ⟨rfl, hb⟩
      have K2 := Lib.hid (K1.out.next hb)
      clear hb K1 hS c0 c1 c2 c3
      obtain ⟨hS, c0, c1, c2, c3⟩ := K2.out.held
      go_wp2_with fail
      refine (B.ascii_at (.agg #[.slice (some ⟨b0, 0, none⟩) 74 74, .slice (some ⟨b1, 0, none⟩) 10 10, .slice (some ⟨b2, 0, none⟩) 11 11, .slice (some ⟨b3, 0, none⟩) 42 42]) ⟨u.toArray⟩ _ K2.out.table LU.out HU.out).mono ?_
      rintro e w4 ⟨rfl, hb⟩
      have K3 := Lib.hid (K2.out.next hb)
      clear hb K2 hS c0 c1 c2 c3
      obtain ⟨hS, c0, c1, c2, c3⟩ := K3.out.held
      go_wp2_with fail
      refine (B.uni_at (.agg #[.slice (some ⟨b0, 0, none⟩) 74 74, .slice (some ⟨b1, 0, none⟩) 10 10, .slice (some ⟨b2, 0, none⟩) 11 11, .slice (some ⟨b3, 0, none⟩) 42 42]) ⟨a.toArray⟩ _ K3.out.table LA.out HA.out).mono ?_
      rintro e w5 ⟨rfl, hb⟩
      have K4 := Lib.hid (K3.out.next hb)
      clear hb K3 hS c0 c1 c2 c3
      obtain ⟨hS, c0, c1, c2, c3⟩ := K4.out.held
      go_wp2_with fail
      refine (B.ascii_at (.agg #[.slice (some ⟨b0, 0, none⟩) 74 74, .slice (some ⟨b1, 0, none⟩) 10 10, .slice (some ⟨b2, 0, none⟩) 11 11, .slice (some ⟨b3, 0, none⟩) 42 42]) ⟨a.toArray⟩ _ K4.out.table LA.out HA.out).mono ?_
      rintro e w6 ⟨rfl, hb⟩
      have K5 := Lib.hid (K4.out.next hb)
      clear hb K4 hS c0 c1 c2 c3
      obtain ⟨hS, c0, c1, c2, c3⟩ := K5.out.held
      go_wp2_with fail
      refine (B.uni_at (.agg #[.slice (some ⟨b0, 0, none⟩) 74 74, .slice (some ⟨b1, 0, none⟩) 10 10, .slice (some ⟨b2, 0, none⟩) 11 11, .slice (some ⟨b3, 0, none⟩) 42 42]) ⟨u.toArray⟩ _ K5.out.table LU.out HU.out).mono ?_
      rintro e w7 ⟨rfl, hb⟩
      have K6 := Lib.hid (K5.out.next hb)
      clear hb K5 hS c0 c1 c2 c3
      obtain ⟨hS, c0, c1, c2, c3⟩ := K6.out.held
      go_wp2_with fail
      refine (EA.out _).mono ?_
      rintro e w8 ⟨rfl, rfl⟩
      go_wp2
      go_ret
      exact ⟨rfl, K6.out.below⟩
    · obtain ⟨rfl, rfl⟩ := Lab.none_of hb hE
      have HB := Lib.hid hb
      have e0 : (E == 0) = false := by simpa using hE
      clear hb hE hs
      go_enter Tryz.func3, Tryz.ntmps3
      go_wp2_with fail
      refine (small8_any B _).mono ?_
      rintro e w0 ⟨rfl, hb0⟩
      have B0 := Lib.hid hb0
      clear hb0
      go_wp2_with fail
      refine (new_any _).mono ?_
      rintro e w1 ⟨tt, rfl, hT, hb1⟩
      have hT' := hT
      obtain ⟨b0, b1, b2, b3, rfl, -, -, -, -⟩ := hT'
      have K0 := Lib.hid (kept_new (b0 := b0) (b1 := b1) (b2 := b2) (b3 := b3) (below_then B0.out hb1) hT 28)
      obtain ⟨hS, c0, c1, c2, c3⟩ := K0.out.held
      clear hT hb1 B0
      go_wp2_with fail
      refine (B.ascii_at (.agg #[.slice (some ⟨b0, 0, none⟩) 74 74, .slice (some ⟨b1, 0, none⟩) 10 10, .slice (some ⟨b2, 0, none⟩) 11 11, .slice (some ⟨b3, 0, none⟩) 42 42]) s _ K0.out.table LS.out HB.out).mono ?_
      rintro e w2 ⟨rfl, hb⟩
      have K1 := Lib.hid (K0.out.next hb)
      clear hb K0 hS c0 c1 c2 c3
      obtain ⟨hS, c0, c1, c2, c3⟩ := K1.out.held
      go_wp2_with fail
      refine (B.uni_at (.agg #[.slice (some ⟨b0, 0, none⟩) 74 74, .slice (some ⟨b1, 0, none⟩) 10 10, .slice (some ⟨b2, 0, none⟩) 11 11, .slice (some ⟨b3, 0, none⟩) 42 42]) s _ K1.out.table LS.out HB.out).mono ?_
      rintro e w3 ⟨rfl, hb⟩
      have K2 := Lib.hid (K1.out.next hb)
      clear hb K1 hS c0 c1 c2 c3
      obtain ⟨hS, c0, c1, c2, c3⟩ := K2.out.held
      go_wp2
      go_ret
      exact ⟨rfl, K2.out.below⟩
  · have hnz : (150 : Int) < (s.size : Int) := by omega
    go_enter Tryz.func3, Tryz.ntmps3
    go_wp2_with fail
    refine (small8_any B _).mono ?_
    rintro e w0 ⟨rfl, hb0⟩
    have B0 := Lib.hid hb0
    clear hb0
    go_wp2
    go_ret
    exact ⟨rfl, B0.out⟩
end Go.Proofs.YtocaiabbihampaaGreat
