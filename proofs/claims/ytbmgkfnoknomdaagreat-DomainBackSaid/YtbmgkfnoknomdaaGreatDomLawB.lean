/-
  Proved here: the law DomainBack, given what the program's functions tell. Conditions: none.
-/
import Derived.Test.YtbmgkfnoknomdaaGreatDomSmall
import Derived.Test.YtbmgkfnoknomdaaGreatUtfA
import Derived.Test.YtbmgkfnoknomdaaGreatDomLawA
import Derived.Test.YtbmgkfnoknomdaaGreatLabFine
namespace Go.Proofs.YtbmgkfnoknomdaaGreat
open Go.RowKit Utf
theorem same_both {s b a u : List UInt8} (h1 : Dom.bothD s = (0, a, u)) (h2 : Dom.bothD b = (0, a, u)) : Dom.sameD s b = true := by
  unfold Dom.sameD
  rw [h1, h2]
  simp
set_option maxHeartbeats 8000000 in
set_option maxRecDepth 100000 in
theorem back9_walk (B : DomOk) (s : ByteArray) (w : World) : Calls Tryz.prog 4 #[.string s] w fun e w' => e = .returned (.bool true) ∧ Below w.heap.size w w' := by
  by_cases hs : s.size ≤ 200
  · have hsz : ¬ (200 : Int) < (s.size : Int) := by omega
    obtain ⟨⟨E, a, u⟩, hb⟩ : ∃ p, Dom.bothD s.data.toList = p := ⟨_, rfl⟩
    have LS := Lib.hid (dom_of (s := s) (by omega))
    obtain ⟨d, hd⟩ : ∃ d, Dom.downD s.data.toList = d := ⟨_, rfl⟩
    have HE1 : Hid ((Dom.bothD s.data.toList).1 = E) := Lib.hid (by rw [hb])
    have HD := Lib.hid hd
    by_cases hE : E = 0
    · subst hE
      obtain ⟨U, A, hu, rU, fU, lU, bu, ha, rA, fA, lA, ba, ea, l1⟩ := Dom.back hb
      have LU : Hid (LabFits ⟨u.toArray⟩) := Lib.hid (by rw [hu]; exact dom_enc rU fU lU)
      have LA : Hid (LabFits ⟨a.toArray⟩) := Lib.hid (by rw [ha]; exact dom_enc rA fA lA)
      have EA := Lib.hid (fun W => eight_any ⟨a.toArray⟩ W (by rw [size_of]; omega))
      rw [show eightOf (⟨a.toArray⟩ : ByteArray).data.toList = -1 from ea] at EA
      have ES := Lib.hid (fun W => eight_any s W (by omega))
      have HB := Lib.hid hb
      have HU : Hid (Dom.bothD (⟨u.toArray⟩ : ByteArray).data.toList = (0, a, u)) := Lib.hid bu
      have HA : Hid (Dom.bothD (⟨a.toArray⟩ : ByteArray).data.toList = (0, a, u)) := Lib.hid ba
      have HSU : Hid (Dom.sameD s.data.toList (⟨u.toArray⟩ : ByteArray).data.toList = true) := Lib.hid (same_both hb bu)
      have hl : (Dom.bothD s.data.toList).1 = 0 := by rw [hb]
      rcases Lab.eight_cases s.data.toList with ⟨h8, e8⟩ | ⟨h8, e8⟩
      · have hds : d = s.data.toList := by rw [← hd]; unfold Dom.downD; rw [if_pos ⟨hl, h8⟩]
        have LD : Hid (LabFits ⟨d.toArray⟩) := Lib.hid (by rw [hds]; exact dom_of (by rw [size_of, Array.length_toList]; exact Nat.le_trans hs (by decide)))
        have ED := Lib.hid (fun W => eight_any ⟨d.toArray⟩ W (by rw [size_of, hds, Array.length_toList]; exact Nat.le_trans hs (by decide)))
        rw [show eightOf (⟨d.toArray⟩ : ByteArray).data.toList = -1 by rw [hds]; exact e8] at ED
        have HSD : Hid (Dom.sameD s.data.toList (⟨d.toArray⟩ : ByteArray).data.toList = true) := Lib.hid (by rw [hds]; exact same_both hb hb)
        rw [e8] at ES
        have hq : (d == s.toList) = true := by rw [hds, ByteArray.toList_eq]; simp
        have z1 : ((⟨a.toArray⟩ : ByteArray).size : Int) ≤ 253 := by rw [size_of]; omega
        have z2 : (a.length : Int) ≤ 253 := by omega
        clear hds hu rU fU lU bu ha rA fA lA ba ea hb hs hl h8 e8 hd
        go_enter Tryz.func4, Tryz.ntmps4
        go_wp2_with fail
        refine (small9_any B _).mono ?_
        rintro e w0 ⟨rfl, hb0⟩
        have B0 := Lib.hid hb0
        clear hb0
        go_wp2_with fail
        refine (new_any _).mono ?_
        rintro e w1 ⟨tt, rfl, hT, hb1⟩
        have hT' := hT
        obtain ⟨b0, b1, b2, b3, rfl, -, -, -, -⟩ := hT'
        have K0 := Lib.hid (kept_new (b0 := b0) (b1 := b1) (b2 := b2) (b3 := b3) (below_then B0.out hb1) hT 28)
        obtain ⟨hS, c0, c1, c2, c3⟩ := K0.out.held
        clear hT hb1 B0
        go_wp2_with fail
        refine (B.ascii_at (.agg #[.slice (some ⟨b0, 0, none⟩) 74 74, .slice (some ⟨b1, 0, none⟩) 10 10, .slice (some ⟨b2, 0, none⟩) 11 11, .slice (some ⟨b3, 0, none⟩) 42 42]) s _ K0.out.table LS.out HB.out).mono ?_
        rintro e w2 ⟨rfl, hb⟩
        have K1 := Lib.hid (K0.out.next hb)
        clear hb K0 hS c0 c1 c2 c3
        obtain ⟨hS, c0, c1, c2, c3⟩ := K1.out.held
        go_wp2_with fail
        refine (B.uni_at (.agg #[.slice (some ⟨b0, 0, none⟩) 74 74, .slice (some ⟨b1, 0, none⟩) 10 10, .slice (some ⟨b2, 0, none⟩) 11 11, .slice (some ⟨b3, 0, none⟩) 42 42]) s _ K1.out.table LS.out HB.out).mono ?_
        rintro e w3 ⟨rfl, hb⟩
        have K2 := Lib.hid (K1.out.next hb)
        clear hb K1 hS c0 c1 c2 c3
        obtain ⟨hS, c0, c1, c2, c3⟩ := K2.out.held
        go_wp2_with fail
        refine (B.down_at (.agg #[.slice (some ⟨b0, 0, none⟩) 74 74, .slice (some ⟨b1, 0, none⟩) 10 10, .slice (some ⟨b2, 0, none⟩) 11 11, .slice (some ⟨b3, 0, none⟩) 42 42]) s _ K2.out.table LS.out HE1.out HD.out).mono ?_
        rintro e w4 ⟨rfl, hb⟩
        have K3 := Lib.hid (K2.out.next hb)
        clear hb K2 hS c0 c1 c2 c3
        obtain ⟨hS, c0, c1, c2, c3⟩ := K3.out.held
        go_wp2_with fail
        refine (B.ascii_at (.agg #[.slice (some ⟨b0, 0, none⟩) 74 74, .slice (some ⟨b1, 0, none⟩) 10 10, .slice (some ⟨b2, 0, none⟩) 11 11, .slice (some ⟨b3, 0, none⟩) 42 42]) ⟨u.toArray⟩ _ K3.out.table LU.out HU.out).mono ?_
        rintro e w5 ⟨rfl, hb⟩
        have K4 := Lib.hid (K3.out.next hb)
        clear hb K3 hS c0 c1 c2 c3
        obtain ⟨hS, c0, c1, c2, c3⟩ := K4.out.held
        go_wp2_with fail
        refine (B.uni_at (.agg #[.slice (some ⟨b0, 0, none⟩) 74 74, .slice (some ⟨b1, 0, none⟩) 10 10, .slice (some ⟨b2, 0, none⟩) 11 11, .slice (some ⟨b3, 0, none⟩) 42 42]) ⟨a.toArray⟩ _ K4.out.table LA.out HA.out).mono ?_
        rintro e w6 ⟨rfl, hb⟩
        have K5 := Lib.hid (K4.out.next hb)
        clear hb K4 hS c0 c1 c2 c3
        obtain ⟨hS, c0, c1, c2, c3⟩ := K5.out.held
        go_wp2_with fail
        refine (EA.out _).mono ?_
        rintro e w7 ⟨rfl, rfl⟩
        go_wp2_with fail
        refine (ED.out _).mono ?_
        rintro e w8 ⟨rfl, rfl⟩
        go_wp2_with fail
        refine (B.same_at (.agg #[.slice (some ⟨b0, 0, none⟩) 74 74, .slice (some ⟨b1, 0, none⟩) 10 10, .slice (some ⟨b2, 0, none⟩) 11 11, .slice (some ⟨b3, 0, none⟩) 42 42]) s ⟨d.toArray⟩ _ K5.out.table LS.out LD.out HSD.out).mono ?_
        rintro e w9 ⟨rfl, hb⟩
        have K6 := Lib.hid (K5.out.next hb)
        clear hb K5 hS c0 c1 c2 c3
        obtain ⟨hS, c0, c1, c2, c3⟩ := K6.out.held
        go_wp2_with fail
        refine (B.same_at (.agg #[.slice (some ⟨b0, 0, none⟩) 74 74, .slice (some ⟨b1, 0, none⟩) 10 10, .slice (some ⟨b2, 0, none⟩) 11 11, .slice (some ⟨b3, 0, none⟩) 42 42]) s ⟨u.toArray⟩ _ K6.out.table LS.out LU.out HSU.out).mono ?_
        rintro e w10 ⟨rfl, hb⟩
        have K7 := Lib.hid (K6.out.next hb)
        clear hb K6 hS c0 c1 c2 c3
        obtain ⟨hS, c0, c1, c2, c3⟩ := K7.out.held
        go_wp2_with fail
        refine (ES.out _).mono ?_
        rintro e w11 ⟨rfl, rfl⟩
        go_wp2
        go_ret
        exact ⟨rfl, K7.out.below⟩
      · have hda : d = a := by rw [← hd]; unfold Dom.downD; rw [if_neg (by rw [h8]; simp), hb]
        have LD : Hid (LabFits ⟨d.toArray⟩) := Lib.hid (by rw [hda]; exact LA.out)
        have ED := Lib.hid (fun W => eight_any ⟨d.toArray⟩ W (by rw [size_of, hda]; omega))
        rw [show eightOf (⟨d.toArray⟩ : ByteArray).data.toList = -1 by rw [hda]; exact ea] at ED
        have HSD : Hid (Dom.sameD s.data.toList (⟨d.toArray⟩ : ByteArray).data.toList = true) := Lib.hid (by rw [hda]; exact same_both hb ba)
        obtain ⟨N, hN⟩ : ∃ N, eightOf s.data.toList = N := ⟨_, rfl⟩
        rw [hN] at ES e8
        have z1 : ((⟨a.toArray⟩ : ByteArray).size : Int) ≤ 253 := by rw [size_of]; omega
        have z2 : (a.length : Int) ≤ 253 := by omega
        clear hda hu rU fU lU bu ha rA fA lA ba ea hb hs hl h8 hd hN
        go_enter Tryz.func4, Tryz.ntmps4
        go_wp2_with fail
        refine (small9_any B _).mono ?_
        rintro e w0 ⟨rfl, hb0⟩
        have B0 := Lib.hid hb0
        clear hb0
        go_wp2_with fail
        refine (new_any _).mono ?_
        rintro e w1 ⟨tt, rfl, hT, hb1⟩
        have hT' := hT
        obtain ⟨b0, b1, b2, b3, rfl, -, -, -, -⟩ := hT'
        have K0 := Lib.hid (kept_new (b0 := b0) (b1 := b1) (b2 := b2) (b3 := b3) (below_then B0.out hb1) hT 28)
        obtain ⟨hS, c0, c1, c2, c3⟩ := K0.out.held
        clear hT hb1 B0
        go_wp2_with fail
        refine (B.ascii_at (.agg #[.slice (some ⟨b0, 0, none⟩) 74 74, .slice (some ⟨b1, 0, none⟩) 10 10, .slice (some ⟨b2, 0, none⟩) 11 11, .slice (some ⟨b3, 0, none⟩) 42 42]) s _ K0.out.table LS.out HB.out).mono ?_
        rintro e w2 ⟨rfl, hb⟩
        have K1 := Lib.hid (K0.out.next hb)
        clear hb K0 hS c0 c1 c2 c3
        obtain ⟨hS, c0, c1, c2, c3⟩ := K1.out.held
        go_wp2_with fail
        refine (B.uni_at (.agg #[.slice (some ⟨b0, 0, none⟩) 74 74, .slice (some ⟨b1, 0, none⟩) 10 10, .slice (some ⟨b2, 0, none⟩) 11 11, .slice (some ⟨b3, 0, none⟩) 42 42]) s _ K1.out.table LS.out HB.out).mono ?_
        rintro e w3 ⟨rfl, hb⟩
        have K2 := Lib.hid (K1.out.next hb)
        clear hb K1 hS c0 c1 c2 c3
        obtain ⟨hS, c0, c1, c2, c3⟩ := K2.out.held
        go_wp2_with fail
        refine (B.down_at (.agg #[.slice (some ⟨b0, 0, none⟩) 74 74, .slice (some ⟨b1, 0, none⟩) 10 10, .slice (some ⟨b2, 0, none⟩) 11 11, .slice (some ⟨b3, 0, none⟩) 42 42]) s _ K2.out.table LS.out HE1.out HD.out).mono ?_
        rintro e w4 ⟨rfl, hb⟩
        have K3 := Lib.hid (K2.out.next hb)
        clear hb K2 hS c0 c1 c2 c3
        obtain ⟨hS, c0, c1, c2, c3⟩ := K3.out.held
        go_wp2_with fail
        refine (B.ascii_at (.agg #[.slice (some ⟨b0, 0, none⟩) 74 74, .slice (some ⟨b1, 0, none⟩) 10 10, .slice (some ⟨b2, 0, none⟩) 11 11, .slice (some ⟨b3, 0, none⟩) 42 42]) ⟨u.toArray⟩ _ K3.out.table LU.out HU.out).mono ?_
        rintro e w5 ⟨rfl, hb⟩
        have K4 := Lib.hid (K3.out.next hb)
        clear hb K3 hS c0 c1 c2 c3
        obtain ⟨hS, c0, c1, c2, c3⟩ := K4.out.held
        go_wp2_with fail
        refine (B.uni_at (.agg #[.slice (some ⟨b0, 0, none⟩) 74 74, .slice (some ⟨b1, 0, none⟩) 10 10, .slice (some ⟨b2, 0, none⟩) 11 11, .slice (some ⟨b3, 0, none⟩) 42 42]) ⟨a.toArray⟩ _ K4.out.table LA.out HA.out).mono ?_
        rintro e w6 ⟨rfl, hb⟩
        have K5 := Lib.hid (K4.out.next hb)
        clear hb K4 hS c0 c1 c2 c3
        obtain ⟨hS, c0, c1, c2, c3⟩ := K5.out.held
        go_wp2_with fail
        refine (EA.out _).mono ?_
        rintro e w7 ⟨rfl, rfl⟩
        go_wp2_with fail
        refine (ED.out _).mono ?_
        rintro e w8 ⟨rfl, rfl⟩
        go_wp2_with fail
        refine (B.same_at (.agg #[.slice (some ⟨b0, 0, none⟩) 74 74, .slice (some ⟨b1, 0, none⟩) 10 10, .slice (some ⟨b2, 0, none⟩) 11 11, .slice (some ⟨b3, 0, none⟩) 42 42]) s ⟨d.toArray⟩ _ K5.out.table LS.out LD.out HSD.out).mono ?_
        rintro e w9 ⟨rfl, hb⟩
        have K6 := Lib.hid (K5.out.next hb)
        clear hb K5 hS c0 c1 c2 c3
        obtain ⟨hS, c0, c1, c2, c3⟩ := K6.out.held
        go_wp2_with fail
        refine (B.same_at (.agg #[.slice (some ⟨b0, 0, none⟩) 74 74, .slice (some ⟨b1, 0, none⟩) 10 10, .slice (some ⟨b2, 0, none⟩) 11 11, .slice (some ⟨b3, 0, none⟩) 42 42]) s ⟨u.toArray⟩ _ K6.out.table LS.out LU.out HSU.out).mono ?_
        rintro e w10 ⟨rfl, hb⟩
        have K7 := Lib.hid (K6.out.next hb)
        clear hb K6 hS c0 c1 c2 c3
        obtain ⟨hS, c0, c1, c2, c3⟩ := K7.out.held
        go_wp2_with fail
        refine (ES.out _).mono ?_
        rintro e w11 ⟨rfl, rfl⟩
        go_wp2
        go_ret
        exact ⟨rfl, K7.out.below⟩
    · obtain ⟨rfl, rfl⟩ := Dom.none_of hb hE
      have hd0 : d = [] := by rw [← hd]; unfold Dom.downD; rw [hb, if_neg (fun h => hE h.1)]
      subst hd0
      have HB := Lib.hid hb
      have e0 : (E == 0) = false := by simpa using hE
      have HSS : Hid (Dom.sameD s.data.toList s.data.toList = false) := Lib.hid (by rw [Dom.sameD_self, hb]; exact e0)
      clear hb hE hs hd
      go_enter Tryz.func4, Tryz.ntmps4
      go_wp2_with fail
      refine (small9_any B _).mono ?_
      rintro e w0 ⟨rfl, hb0⟩
      have B0 := Lib.hid hb0
      clear hb0
      go_wp2_with fail
      refine (new_any _).mono ?_
      rintro e w1 ⟨tt, rfl, hT, hb1⟩
      have hT' := hT
      obtain ⟨b0, b1, b2, b3, rfl, -, -, -, -⟩ := hT'
      have K0 := Lib.hid (kept_new (b0 := b0) (b1 := b1) (b2 := b2) (b3 := b3) (below_then B0.out hb1) hT 28)
      obtain ⟨hS, c0, c1, c2, c3⟩ := K0.out.held
      clear hT hb1 B0
      go_wp2_with fail
      refine (B.ascii_at (.agg #[.slice (some ⟨b0, 0, none⟩) 74 74, .slice (some ⟨b1, 0, none⟩) 10 10, .slice (some ⟨b2, 0, none⟩) 11 11, .slice (some ⟨b3, 0, none⟩) 42 42]) s _ K0.out.table LS.out HB.out).mono ?_
      rintro e w2 ⟨rfl, hb⟩
      have K1 := Lib.hid (K0.out.next hb)
      clear hb K0 hS c0 c1 c2 c3
      obtain ⟨hS, c0, c1, c2, c3⟩ := K1.out.held
      go_wp2_with fail
      refine (B.uni_at (.agg #[.slice (some ⟨b0, 0, none⟩) 74 74, .slice (some ⟨b1, 0, none⟩) 10 10, .slice (some ⟨b2, 0, none⟩) 11 11, .slice (some ⟨b3, 0, none⟩) 42 42]) s _ K1.out.table LS.out HB.out).mono ?_
      rintro e w3 ⟨rfl, hb⟩
      have K2 := Lib.hid (K1.out.next hb)
      clear hb K1 hS c0 c1 c2 c3
      obtain ⟨hS, c0, c1, c2, c3⟩ := K2.out.held
      go_wp2_with fail
      refine (B.down_at (.agg #[.slice (some ⟨b0, 0, none⟩) 74 74, .slice (some ⟨b1, 0, none⟩) 10 10, .slice (some ⟨b2, 0, none⟩) 11 11, .slice (some ⟨b3, 0, none⟩) 42 42]) s _ K2.out.table LS.out HE1.out HD.out).mono ?_
      rintro e w4 ⟨rfl, hb⟩
      have K3 := Lib.hid (K2.out.next hb)
      clear hb K2 hS c0 c1 c2 c3
      obtain ⟨hS, c0, c1, c2, c3⟩ := K3.out.held
      go_wp2_with fail
      refine (B.same_at (.agg #[.slice (some ⟨b0, 0, none⟩) 74 74, .slice (some ⟨b1, 0, none⟩) 10 10, .slice (some ⟨b2, 0, none⟩) 11 11, .slice (some ⟨b3, 0, none⟩) 42 42]) s s _ K3.out.table LS.out LS.out HSS.out).mono ?_
      rintro e w5 ⟨rfl, hb⟩
      have K4 := Lib.hid (K3.out.next hb)
      clear hb K3 hS c0 c1 c2 c3
      obtain ⟨hS, c0, c1, c2, c3⟩ := K4.out.held
      go_wp2
      go_ret
      exact ⟨rfl, K4.out.below⟩
  · have hnz : (200 : Int) < (s.size : Int) := by omega
    go_enter Tryz.func4, Tryz.ntmps4
    go_wp2_with fail
    refine (small9_any B _).mono ?_
    rintro e w0 ⟨rfl, hb0⟩
    have B0 := Lib.hid hb0
    clear hb0
    go_wp2
    go_ret
    exact ⟨rfl, B0.out⟩
end Go.Proofs.YtbmgkfnoknomdaaGreat
