/-
  Proved here: the law LabelWide, given what the program's six functions tell. Conditions: none.
-/
import Derived.Test.YtocaiabbihampaaGreatLabSmall
import Derived.Test.YtocaiabbihampaaGreatLabFine
namespace Go.Proofs.YtocaiabbihampaaGreat
open Go.RowKit Utf
theorem take_sign {a : List UInt8} (h : a.take 4 = Lab.sign) : ((⟨a.toArray⟩ : ByteArray).extract 0 4).toList = [120, 110, 45, 45] := by
  rw [ByteArray.toList_eq, ByteArray.data_extract]
  simpa [Lab.sign] using h
theorem take_not {a : List UInt8} (h : a.take 4 ≠ Lab.sign) : (((⟨a.toArray⟩ : ByteArray).extract 0 4).toList == [120, 110, 45, 45]) = false := by
  rw [beq_eq_false_iff_ne, ByteArray.toList_eq, ByteArray.data_extract]
  intro hc
  exact h (by simpa [Lab.sign] using hc)
set_option maxHeartbeats 8000000 in
set_option maxRecDepth 100000 in
theorem wide8_walk (B : LabOk) (s : ByteArray) (w : World) : Calls Tryz.prog 4 #[.string s] w fun e w' => e = .returned (.bool true) ∧ Below w.heap.size w w' := by
  by_cases hs : s.size ≤ 150
  · have hsz : ¬ (150 : Int) < (s.size : Int) := by omega
    obtain ⟨⟨E, a, u⟩, hb⟩ : ∃ p, Lab.bothE s.data.toList = p := ⟨_, rfl⟩
    have LS := Lib.hid (lab_of hs)
    have ES := Lib.hid (fun W => eight_any s W (by omega))
    by_cases hE : E = 0
    · subst hE
      obtain ⟨U, hu, rU, -, lU, -, -, ea, l0, l1⟩ := Lab.back_of hb
      have WU : Hid (WideFits ⟨u.toArray⟩) := Lib.hid (by rw [hu]; exact wide_enc' rU (by omega))
      have hul : (⟨u.toArray⟩ : ByteArray).size ≤ 100000 := by
        rw [size_of, hu]
        have := encZ_len U
        omega
      have EU := Lib.hid (fun W => eight_any ⟨u.toArray⟩ W hul)
      have hal : (⟨a.toArray⟩ : ByteArray).size ≤ 100000 := by rw [size_of]; omega
      have HAL := Lib.hid hal
      obtain ⟨eu, heu⟩ : ∃ n, eightOf u = n := ⟨_, rfl⟩
      obtain ⟨es, hes⟩ : ∃ n, eightOf s.data.toList = n := ⟨_, rfl⟩
      rw [show eightOf (⟨u.toArray⟩ : ByteArray).data.toList = eu from heu] at EU
      rw [hes] at ES
      have cu := Lab.eight_cases u
      have cs := Lab.eight_cases s.data.toList
      rw [heu] at cu
      rw [hes] at cs
      have HB := Lib.hid hb
      rcases Lab.wide_of' hb with ⟨f1, f2, f3, f4, f5⟩ | ⟨f1, f2, rfl, f4, f5⟩
      · have g1 : 0 ≤ eu := by
          rcases cu with ⟨h, -⟩ | ⟨-, h⟩
          · rw [f1] at h; cases h
          · exact h
        have HW : Hid (Lab.wideE (⟨u.toArray⟩ : ByteArray).data.toList = 0) := Lib.hid f4
        have g2 : (4 : Int) < (a.length : Int) := by omega
        have g3 : (a.length : Int) ≤ 63 := by omega
        have g4 := take_sign f3
        obtain ⟨kk, hkk⟩ : ∃ n, Lab.kindE s.data.toList = n := ⟨_, rfl⟩
        have hkc : (kk = 2 ∧ es = -1) ∨ (kk = 3 ∧ 0 ≤ es) := by
          rw [hkk] at f5
          rcases f5 with ⟨h, h2⟩ | ⟨h, h2⟩
          · rcases cs with ⟨-, h3⟩ | ⟨h3, -⟩
            · exact .inl ⟨h2, h3⟩
            · rw [h] at h3; cases h3
          · rcases cs with ⟨h3, -⟩ | ⟨-, h3⟩
            · rw [h] at h3; cases h3
            · exact .inr ⟨h2, h3⟩
        have HK := Lib.hid hkk
        have hws : IntKind.i64.wrap es = es ∨ True := .inr trivial
        clear f1 f2 f3 f4 f5 cu cs heu hes hkk hb hu rU lU ea l0 l1 hws hs
        rcases hkc with ⟨rfl, rfl⟩ | ⟨rfl, g5⟩
        · skip
          go_enter Tryz.func4, Tryz.ntmps4
          go_wp2_with fail
          refine (small8_any B _).mono ?_
          rintro e w0 ⟨rfl, hb0⟩
          have B0 := Lib.hid hb0
          clear hb0
          go_wp2_with fail
          refine (new_any _).mono ?_
          rintro e w1 ⟨tt, rfl, hT, hb1⟩
          have hT' := hT
          obtain ⟨b0, b1, b2, b3, rfl, -, -, -, -⟩ := hT'
          have K0 := Lib.hid (kept_new (b0 := b0) (b1 := b1) (b2 := b2) (b3 := b3) (below_then B0.out hb1) hT 28)
          obtain ⟨hS, c0, c1, c2, c3⟩ := K0.out.held
          clear hT hb1 B0
          go_wp2_with fail
          refine (B.ascii_at (.agg #[.slice (some ⟨b0, 0, none⟩) 74 74, .slice (some ⟨b1, 0, none⟩) 10 10, .slice (some ⟨b2, 0, none⟩) 11 11, .slice (some ⟨b3, 0, none⟩) 42 42]) s _ K0.out.table LS.out HB.out).mono ?_
          rintro e w2 ⟨rfl, hb⟩
          have K1 := Lib.hid (K0.out.next hb)
          clear hb K0 hS c0 c1 c2 c3
          obtain ⟨hS, c0, c1, c2, c3⟩ := K1.out.held
          go_wp2_with fail
          refine (B.uni_at (.agg #[.slice (some ⟨b0, 0, none⟩) 74 74, .slice (some ⟨b1, 0, none⟩) 10 10, .slice (some ⟨b2, 0, none⟩) 11 11, .slice (some ⟨b3, 0, none⟩) 42 42]) s _ K1.out.table LS.out HB.out).mono ?_
          rintro e w3 ⟨rfl, hb⟩
          have K2 := Lib.hid (K1.out.next hb)
          clear hb K1 hS c0 c1 c2 c3
          obtain ⟨hS, c0, c1, c2, c3⟩ := K2.out.held
          go_wp2_with fail
          refine (B.kind_at (.agg #[.slice (some ⟨b0, 0, none⟩) 74 74, .slice (some ⟨b1, 0, none⟩) 10 10, .slice (some ⟨b2, 0, none⟩) 11 11, .slice (some ⟨b3, 0, none⟩) 42 42]) s _ K2.out.table LS.out HK.out).mono ?_
          rintro e w4 ⟨rfl, hb⟩
          have K3 := Lib.hid (K2.out.next hb)
          clear hb K2 hS c0 c1 c2 c3
          obtain ⟨hS, c0, c1, c2, c3⟩ := K3.out.held
          go_wp2_with fail
          refine (EU.out _).mono ?_
          rintro e w8 ⟨rfl, rfl⟩
          go_wp2_with fail
          refine (ES.out _).mono ?_
          rintro e w9 ⟨rfl, rfl⟩
          go_wp2_with fail
          refine (B.wide_at (.agg #[.slice (some ⟨b0, 0, none⟩) 74 74, .slice (some ⟨b1, 0, none⟩) 10 10, .slice (some ⟨b2, 0, none⟩) 11 11, .slice (some ⟨b3, 0, none⟩) 42 42]) ⟨u.toArray⟩ _ K3.out.table WU.out HW.out).mono ?_
          rintro e w5 ⟨rfl, hb⟩
          have K4 := Lib.hid (K3.out.next hb)
          clear hb K3 hS c0 c1 c2 c3
          obtain ⟨hS, c0, c1, c2, c3⟩ := K4.out.held
          go_wp2
          go_ret
          exact ⟨rfl, K4.out.below⟩
        · have g6 : decide (es < 0) = false := by rw [decide_eq_false_iff_not]; omega
          go_enter Tryz.func4, Tryz.ntmps4
          go_wp2_with fail
          refine (small8_any B _).mono ?_
          rintro e w0 ⟨rfl, hb0⟩
          have B0 := Lib.hid hb0
          clear hb0
          go_wp2_with fail
          refine (new_any _).mono ?_
          rintro e w1 ⟨tt, rfl, hT, hb1⟩
          have hT' := hT
          obtain ⟨b0, b1, b2, b3, rfl, -, -, -, -⟩ := hT'
          have K0 := Lib.hid (kept_new (b0 := b0) (b1 := b1) (b2 := b2) (b3 := b3) (below_then B0.out hb1) hT 28)
          obtain ⟨hS, c0, c1, c2, c3⟩ := K0.out.held
          clear hT hb1 B0
          go_wp2_with fail
          refine (B.ascii_at (.agg #[.slice (some ⟨b0, 0, none⟩) 74 74, .slice (some ⟨b1, 0, none⟩) 10 10, .slice (some ⟨b2, 0, none⟩) 11 11, .slice (some ⟨b3, 0, none⟩) 42 42]) s _ K0.out.table LS.out HB.out).mono ?_
          rintro e w2 ⟨rfl, hb⟩
          have K1 := Lib.hid (K0.out.next hb)
          clear hb K0 hS c0 c1 c2 c3
          obtain ⟨hS, c0, c1, c2, c3⟩ := K1.out.held
          go_wp2_with fail
          refine (B.uni_at (.agg #[.slice (some ⟨b0, 0, none⟩) 74 74, .slice (some ⟨b1, 0, none⟩) 10 10, .slice (some ⟨b2, 0, none⟩) 11 11, .slice (some ⟨b3, 0, none⟩) 42 42]) s _ K1.out.table LS.out HB.out).mono ?_
          rintro e w3 ⟨rfl, hb⟩
          have K2 := Lib.hid (K1.out.next hb)
          clear hb K1 hS c0 c1 c2 c3
          obtain ⟨hS, c0, c1, c2, c3⟩ := K2.out.held
          go_wp2_with fail
          refine (B.kind_at (.agg #[.slice (some ⟨b0, 0, none⟩) 74 74, .slice (some ⟨b1, 0, none⟩) 10 10, .slice (some ⟨b2, 0, none⟩) 11 11, .slice (some ⟨b3, 0, none⟩) 42 42]) s _ K2.out.table LS.out HK.out).mono ?_
          rintro e w4 ⟨rfl, hb⟩
          have K3 := Lib.hid (K2.out.next hb)
          clear hb K2 hS c0 c1 c2 c3
          obtain ⟨hS, c0, c1, c2, c3⟩ := K3.out.held
          go_wp2_with fail
          refine (EU.out _).mono ?_
          rintro e w8 ⟨rfl, rfl⟩
          go_wp2_with fail
          refine (ES.out _).mono ?_
          rintro e w9 ⟨rfl, rfl⟩
          go_wp2_with fail
          refine (B.wide_at (.agg #[.slice (some ⟨b0, 0, none⟩) 74 74, .slice (some ⟨b1, 0, none⟩) 10 10, .slice (some ⟨b2, 0, none⟩) 11 11, .slice (some ⟨b3, 0, none⟩) 42 42]) ⟨u.toArray⟩ _ K3.out.table WU.out HW.out).mono ?_
          rintro e w5 ⟨rfl, hb⟩
          have K4 := Lib.hid (K3.out.next hb)
          clear hb K3 hS c0 c1 c2 c3
          obtain ⟨hS, c0, c1, c2, c3⟩ := K4.out.held
          go_wp2
          go_ret
          exact ⟨rfl, K4.out.below⟩
      · have g1 : eu = -1 := by
          rcases cu with ⟨-, h⟩ | ⟨h, -⟩
          · exact h
          · rw [f1] at h; cases h
        subst g1
        have HP : Hid (Lab.plainE (⟨a.toArray⟩ : ByteArray).data.toList = 0) := Lib.hid f4
        obtain ⟨kk, hkk⟩ : ∃ n, Lab.kindE s.data.toList = n := ⟨_, rfl⟩
        rw [hkk] at f5
        have HK := Lib.hid hkk
        have hsc : ¬ (4 : Int) < (a.length : Int) ∨ ((4 : Int) < (a.length : Int) ∧ (((⟨a.toArray⟩ : ByteArray).extract 0 4).toList == [120, 110, 45, 45]) = false) := by
          by_cases h4 : 4 < a.length
          · exact .inr ⟨by omega, take_not fun h => f2 ⟨h4, h⟩⟩
          · exact .inl (by omega)
        have g3 : (a.length : Int) ≤ 63 := by omega
        clear f1 f2 f4 cu cs heu hes hkk hb hu rU lU ea l0 l1 hs
        rcases hsc with g4 | ⟨g4, g5⟩ <;> rcases f5 with rfl | rfl
        all_goals
          go_enter Tryz.func4, Tryz.ntmps4
          go_wp2_with fail
          refine (small8_any B _).mono ?_
          rintro e w0 ⟨rfl, hb0⟩
          have B0 := Lib.hid hb0
          clear hb0
          go_wp2_with fail
          refine (new_any _).mono ?_
          rintro e w1 ⟨tt, rfl, hT, hb1⟩
          have hT' := hT
          obtain ⟨b0, b1, b2, b3, rfl, -, -, -, -⟩ := hT'
          have K0 := Lib.hid (kept_new (b0 := b0) (b1 := b1) (b2 := b2) (b3 := b3) (below_then B0.out hb1) hT 28)
          obtain ⟨hS, c0, c1, c2, c3⟩ := K0.out.held
          clear hT hb1 B0
          go_wp2_with fail
          refine (B.ascii_at (.agg #[.slice (some ⟨b0, 0, none⟩) 74 74, .slice (some ⟨b1, 0, none⟩) 10 10, .slice (some ⟨b2, 0, none⟩) 11 11, .slice (some ⟨b3, 0, none⟩) 42 42]) s _ K0.out.table LS.out HB.out).mono ?_
          rintro e w2 ⟨rfl, hb⟩
          have K1 := Lib.hid (K0.out.next hb)
          clear hb K0 hS c0 c1 c2 c3
          obtain ⟨hS, c0, c1, c2, c3⟩ := K1.out.held
          go_wp2_with fail
          refine (B.uni_at (.agg #[.slice (some ⟨b0, 0, none⟩) 74 74, .slice (some ⟨b1, 0, none⟩) 10 10, .slice (some ⟨b2, 0, none⟩) 11 11, .slice (some ⟨b3, 0, none⟩) 42 42]) s _ K1.out.table LS.out HB.out).mono ?_
          rintro e w3 ⟨rfl, hb⟩
          have K2 := Lib.hid (K1.out.next hb)
          clear hb K1 hS c0 c1 c2 c3
          obtain ⟨hS, c0, c1, c2, c3⟩ := K2.out.held
          go_wp2_with fail
          refine (B.kind_at (.agg #[.slice (some ⟨b0, 0, none⟩) 74 74, .slice (some ⟨b1, 0, none⟩) 10 10, .slice (some ⟨b2, 0, none⟩) 11 11, .slice (some ⟨b3, 0, none⟩) 42 42]) s _ K2.out.table LS.out HK.out).mono ?_
          rintro e w4 ⟨rfl, hb⟩
          have K3 := Lib.hid (K2.out.next hb)
          clear hb K2 hS c0 c1 c2 c3
          obtain ⟨hS, c0, c1, c2, c3⟩ := K3.out.held
          go_wp2_with fail
          refine (EU.out _).mono ?_
          rintro e w8 ⟨rfl, rfl⟩
          go_wp2_with fail
          refine (B.plain_at ⟨a.toArray⟩ _ HAL.out HP.out).mono ?_
          rintro e w5 ⟨rfl, hb⟩
          have K4 := Lib.hid (K3.out.next hb)
          clear hb K3 hS c0 c1 c2 c3
          obtain ⟨hS, c0, c1, c2, c3⟩ := K4.out.held
          go_wp2
          go_ret
          exact ⟨rfl, K4.out.below⟩
    · obtain ⟨rfl, rfl⟩ := Lab.none_of hb hE
      have HK := Lib.hid (Lab.kind_bad hb hE)
      have HB := Lib.hid hb
      have e0 : (E == 0) = false := by simpa using hE
      have e1 : (E != 0) = true := by simpa using hE
      clear hb hE hs
      go_enter Tryz.func4, Tryz.ntmps4
      go_wp2_with fail
      refine (small8_any B _).mono ?_
      rintro e w0 ⟨rfl, hb0⟩
      have B0 := Lib.hid hb0
      clear hb0
      go_wp2_with fail
      refine (new_any _).mono ?_
      rintro e w1 ⟨tt, rfl, hT, hb1⟩
      have hT' := hT
      obtain ⟨b0, b1, b2, b3, rfl, -, -, -, -⟩ := hT'
      have K0 := Lib.hid (kept_new (b0 := b0) (b1 := b1) (b2 := b2) (b3 := b3) (below_then B0.out hb1) hT 28)
      obtain ⟨hS, c0, c1, c2, c3⟩ := K0.out.held
      clear hT hb1 B0
      go_wp2_with fail
      refine (B.ascii_at (.agg #[.slice (some ⟨b0, 0, none⟩) 74 74, .slice (some ⟨b1, 0, none⟩) 10 10, .slice (some ⟨b2, 0, none⟩) 11 11, .slice (some ⟨b3, 0, none⟩) 42 42]) s _ K0.out.table LS.out HB.out).mono ?_
      rintro e w2 ⟨rfl, hb⟩
      have K1 := Lib.hid (K0.out.next hb)
      clear hb K0 hS c0 c1 c2 c3
      obtain ⟨hS, c0, c1, c2, c3⟩ := K1.out.held
      go_wp2_with fail
      refine (B.uni_at (.agg #[.slice (some ⟨b0, 0, none⟩) 74 74, .slice (some ⟨b1, 0, none⟩) 10 10, .slice (some ⟨b2, 0, none⟩) 11 11, .slice (some ⟨b3, 0, none⟩) 42 42]) s _ K1.out.table LS.out HB.out).mono ?_
      rintro e w3 ⟨rfl, hb⟩
      have K2 := Lib.hid (K1.out.next hb)
      clear hb K1 hS c0 c1 c2 c3
      obtain ⟨hS, c0, c1, c2, c3⟩ := K2.out.held
      go_wp2_with fail
      refine (B.kind_at (.agg #[.slice (some ⟨b0, 0, none⟩) 74 74, .slice (some ⟨b1, 0, none⟩) 10 10, .slice (some ⟨b2, 0, none⟩) 11 11, .slice (some ⟨b3, 0, none⟩) 42 42]) s _ K2.out.table LS.out HK.out).mono ?_
      rintro e w4 ⟨rfl, hb⟩
      have K3 := Lib.hid (K2.out.next hb)
      clear hb K2 hS c0 c1 c2 c3
      obtain ⟨hS, c0, c1, c2, c3⟩ := K3.out.held
      go_wp2
      go_ret
      exact ⟨rfl, K3.out.below⟩
  · have hnz : (150 : Int) < (s.size : Int) := by omega
    go_enter Tryz.func4, Tryz.ntmps4
    go_wp2_with fail
    refine (small8_any B _).mono ?_
    rintro e w0 ⟨rfl, hb0⟩
    have B0 := Lib.hid hb0
    clear hb0
    go_wp2
    go_ret
    exact ⟨rfl, B0.out⟩
end Go.Proofs.YtocaiabbihampaaGreat
