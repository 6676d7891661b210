/-
  Proved here: the law DomainParts, given what the program's functions tell. Conditions: none.
-/
import Derived.Test.YtbmgkfnoknomdaaGreatDomSmall
import Derived.Test.YtbmgkfnoknomdaaGreatUtfA
import Derived.Test.YtbmgkfnoknomdaaGreatPunyB
namespace Go.Proofs.YtbmgkfnoknomdaaGreat
open Go.RowKit Utf
set_option maxHeartbeats 8000000 in
set_option maxRecDepth 100000 in
theorem parts9_walk (B : DomOk) (s b : ByteArray) (w : World) : Calls Tryz.prog 5 #[.string s, .string b] w fun e w' => e = .returned (.bool true) ∧ Below w.heap.size w w' := by
  by_cases hs : s.size ≤ 100
  · have hs' : ¬ (100 : Int) < (s.size : Int) := by omega
    have LS := Lib.hid (dom_of (s := s) (by omega))
    by_cases hb : b.size ≤ 100
    · have hb' : ¬ (100 : Int) < (b.size : Int) := by omega
      have LB := Lib.hid (dom_of (s := b) (by omega))
      obtain ⟨r, hr⟩ : ∃ r : ByteArray, r = s ++ ⟨#[46]⟩ ++ b := ⟨_, rfl⟩
      have hcat : r.data.toList = s.data.toList ++ 46 :: b.data.toList := by rw [hr, cat_bytes, cat_bytes]; simp
      have LC : Hid (LabFits r) := Lib.hid (dom_of (by rw [hr, ByteArray.size_append, ByteArray.size_append]; show s.size + 1 + b.size ≤ 210; omega))
      have HR := Lib.hid hr
      clear hs hb hr
      obtain ⟨⟨E, x, u⟩, hx⟩ : ∃ p, Dom.bothD s.data.toList = p := ⟨_, rfl⟩
      obtain ⟨⟨F, y, v⟩, hy⟩ : ∃ p, Dom.bothD b.data.toList = p := ⟨_, rfl⟩
      obtain ⟨⟨G, z, q⟩, hz⟩ : ∃ p, Dom.bothD r.data.toList = p := ⟨_, rfl⟩
      have HX := Lib.hid hx
      have HY := Lib.hid hy
      have HZ := Lib.hid hz
      by_cases hE : E = 0
      · subst hE
        by_cases hF : F = 0
        · subst hF
          obtain ⟨L, M, hL, hM, hG, hZ⟩ := Dom.parts hx hy
          rw [← hcat, hz] at hG hZ
          have lL : L.length ≤ 32 := by have := (Dom.labels_parts (bs := s.data.toList) (fun m hm => (LS.out.2 m hm).2)).1; rw [hL] at this; exact this
          have lM : M.length ≤ 32 := by have := (Dom.labels_parts (bs := b.data.toList) (fun m hm => (LB.out.2 m hm).2)).1; rw [hM] at this; exact this
          obtain ⟨-, -, -, -, -, -, -, -, -, -, -, -, -, lx⟩ := Dom.back hx
          obtain ⟨-, -, -, -, -, -, -, -, -, -, -, -, -, ly⟩ := Dom.back hy
          have HL := Lib.hid hL
          have HM := Lib.hid hM
          clear hL hM hx hy hz hcat
          by_cases h32 : 32 < L.length + M.length
          · rw [if_pos h32] at hG
            simp only at hG
            subst hG
            have hc : (32 : Int) < (L.length : Int) + (M.length : Int) := by omega
            clear hZ
            go_enter Tryz.func5, Tryz.ntmps5
            go_wp2_with fail
            refine (small9_any B _).mono ?_
            rintro e w0 ⟨rfl, hb0⟩
            have B0 := Lib.hid hb0
            clear hb0
            go_wp2_with fail
            refine (new_any _).mono ?_
            rintro e w1 ⟨tt, rfl, hT, hb1⟩
            have hT' := hT
            obtain ⟨b0, b1, b2, b3, rfl, -, -, -, -⟩ := hT'
            have K0 := Lib.hid (kept_new (b0 := b0) (b1 := b1) (b2 := b2) (b3 := b3) (below_then B0.out hb1) hT 28)
            obtain ⟨hS, c0, c1, c2, c3⟩ := K0.out.held
            clear hT hb1 B0
            go_wp2_with fail
            refine (B.ascii_at (.agg #[.slice (some ⟨b0, 0, none⟩) 74 74, .slice (some ⟨b1, 0, none⟩) 10 10, .slice (some ⟨b2, 0, none⟩) 11 11, .slice (some ⟨b3, 0, none⟩) 42 42]) s _ K0.out.table LS.out HX.out).mono ?_
            rintro e w2 ⟨rfl, hb⟩
            have K1 := Lib.hid (K0.out.next hb)
            clear hb K0 hS c0 c1 c2 c3
            obtain ⟨hS, c0, c1, c2, c3⟩ := K1.out.held
            go_wp2_with fail
            refine (B.ascii_at (.agg #[.slice (some ⟨b0, 0, none⟩) 74 74, .slice (some ⟨b1, 0, none⟩) 10 10, .slice (some ⟨b2, 0, none⟩) 11 11, .slice (some ⟨b3, 0, none⟩) 42 42]) b _ K1.out.table LB.out HY.out).mono ?_
            rintro e w3 ⟨rfl, hb⟩
            have K2 := Lib.hid (K1.out.next hb)
            clear hb K1 hS c0 c1 c2 c3
            obtain ⟨hS, c0, c1, c2, c3⟩ := K2.out.held
            go_wp2_with fail
            rw [← HR.out]
            refine (B.ascii_at (.agg #[.slice (some ⟨b0, 0, none⟩) 74 74, .slice (some ⟨b1, 0, none⟩) 10 10, .slice (some ⟨b2, 0, none⟩) 11 11, .slice (some ⟨b3, 0, none⟩) 42 42]) r _ K2.out.table LC.out HZ.out).mono ?_
            rintro e w4 ⟨rfl, hb⟩
            have K3 := Lib.hid (K2.out.next hb)
            clear hb K2 hS c0 c1 c2 c3
            obtain ⟨hS, c0, c1, c2, c3⟩ := K3.out.held
            go_wp2_with fail
            refine (B.labels_at (.agg #[.slice (some ⟨b0, 0, none⟩) 74 74, .slice (some ⟨b1, 0, none⟩) 10 10, .slice (some ⟨b2, 0, none⟩) 11 11, .slice (some ⟨b3, 0, none⟩) 42 42]) s _ K3.out.table LS.out HL.out).mono ?_
            rintro e w5 ⟨v1, rfl, hv, hb⟩
            obtain ⟨A1, q1, rfl, -, -⟩ := hv.form
            rw [List.length_map]
            clear hv
            have K4 := Lib.hid (K3.out.next hb)
            clear hb K3 hS c0 c1 c2 c3
            obtain ⟨hS, c0, c1, c2, c3⟩ := K4.out.held
            go_wp2_with fail
            refine (B.labels_at (.agg #[.slice (some ⟨b0, 0, none⟩) 74 74, .slice (some ⟨b1, 0, none⟩) 10 10, .slice (some ⟨b2, 0, none⟩) 11 11, .slice (some ⟨b3, 0, none⟩) 42 42]) b _ K4.out.table LB.out HM.out).mono ?_
            rintro e w6 ⟨v2, rfl, hv, hb⟩
            obtain ⟨A2, q2, rfl, -, -⟩ := hv.form
            rw [List.length_map]
            clear hv
            have K5 := Lib.hid (K4.out.next hb)
            clear hb K4 hS c0 c1 c2 c3
            obtain ⟨hS, c0, c1, c2, c3⟩ := K5.out.held
            go_wp2
            go_ret
            exact ⟨rfl, K5.out.below⟩
          · have hc : ¬ (32 : Int) < (L.length : Int) + (M.length : Int) := by omega
            rw [if_neg h32] at hG
            by_cases h252 : 252 < x.length + y.length
            · rw [if_pos h252] at hG
              simp only at hG
              subst hG
              have hc2 : (252 : Int) < (x.length : Int) + (y.length : Int) := by omega
              clear hZ
              go_enter Tryz.func5, Tryz.ntmps5
              go_wp2_with fail
              refine (small9_any B _).mono ?_
              rintro e w0 ⟨rfl, hb0⟩
              have B0 := Lib.hid hb0
              clear hb0
              go_wp2_with fail
              refine (new_any _).mono ?_
              rintro e w1 ⟨tt, rfl, hT, hb1⟩
              have hT' := hT
              obtain ⟨b0, b1, b2, b3, rfl, -, -, -, -⟩ := hT'
              have K0 := Lib.hid (kept_new (b0 := b0) (b1 := b1) (b2 := b2) (b3 := b3) (below_then B0.out hb1) hT 28)
              obtain ⟨hS, c0, c1, c2, c3⟩ := K0.out.held
              clear hT hb1 B0
              go_wp2_with fail
              refine (B.ascii_at (.agg #[.slice (some ⟨b0, 0, none⟩) 74 74, .slice (some ⟨b1, 0, none⟩) 10 10, .slice (some ⟨b2, 0, none⟩) 11 11, .slice (some ⟨b3, 0, none⟩) 42 42]) s _ K0.out.table LS.out HX.out).mono ?_
              rintro e w2 ⟨rfl, hb⟩
              have K1 := Lib.hid (K0.out.next hb)
              clear hb K0 hS c0 c1 c2 c3
              obtain ⟨hS, c0, c1, c2, c3⟩ := K1.out.held
              go_wp2_with fail
              refine (B.ascii_at (.agg #[.slice (some ⟨b0, 0, none⟩) 74 74, .slice (some ⟨b1, 0, none⟩) 10 10, .slice (some ⟨b2, 0, none⟩) 11 11, .slice (some ⟨b3, 0, none⟩) 42 42]) b _ K1.out.table LB.out HY.out).mono ?_
              rintro e w3 ⟨rfl, hb⟩
              have K2 := Lib.hid (K1.out.next hb)
              clear hb K1 hS c0 c1 c2 c3
              obtain ⟨hS, c0, c1, c2, c3⟩ := K2.out.held
              go_wp2_with fail
              rw [← HR.out]
              refine (B.ascii_at (.agg #[.slice (some ⟨b0, 0, none⟩) 74 74, .slice (some ⟨b1, 0, none⟩) 10 10, .slice (some ⟨b2, 0, none⟩) 11 11, .slice (some ⟨b3, 0, none⟩) 42 42]) r _ K2.out.table LC.out HZ.out).mono ?_
              rintro e w4 ⟨rfl, hb⟩
              have K3 := Lib.hid (K2.out.next hb)
              clear hb K2 hS c0 c1 c2 c3
              obtain ⟨hS, c0, c1, c2, c3⟩ := K3.out.held
              go_wp2_with fail
              refine (B.labels_at (.agg #[.slice (some ⟨b0, 0, none⟩) 74 74, .slice (some ⟨b1, 0, none⟩) 10 10, .slice (some ⟨b2, 0, none⟩) 11 11, .slice (some ⟨b3, 0, none⟩) 42 42]) s _ K3.out.table LS.out HL.out).mono ?_
              rintro e w5 ⟨v1, rfl, hv, hb⟩
              obtain ⟨A1, q1, rfl, -, -⟩ := hv.form
              rw [List.length_map]
              clear hv
              have K4 := Lib.hid (K3.out.next hb)
              clear hb K3 hS c0 c1 c2 c3
              obtain ⟨hS, c0, c1, c2, c3⟩ := K4.out.held
              go_wp2_with fail
              refine (B.labels_at (.agg #[.slice (some ⟨b0, 0, none⟩) 74 74, .slice (some ⟨b1, 0, none⟩) 10 10, .slice (some ⟨b2, 0, none⟩) 11 11, .slice (some ⟨b3, 0, none⟩) 42 42]) b _ K4.out.table LB.out HM.out).mono ?_
              rintro e w6 ⟨v2, rfl, hv, hb⟩
              obtain ⟨A2, q2, rfl, -, -⟩ := hv.form
              rw [List.length_map]
              clear hv
              have K5 := Lib.hid (K4.out.next hb)
              clear hb K4 hS c0 c1 c2 c3
              obtain ⟨hS, c0, c1, c2, c3⟩ := K5.out.held
              go_wp2
              go_ret
              exact ⟨rfl, K5.out.below⟩
            · rw [if_neg h252] at hG
              have hz0 := hZ h32 h252
              simp only at hG hz0
              subst hG
              have hc2 : ¬ (252 : Int) < (x.length : Int) + (y.length : Int) := by omega
              have heq : (z == ((⟨x.toArray⟩ : ByteArray) ++ ⟨#[46]⟩ ++ ⟨y.toArray⟩).toList) = true := by rw [hz0, ByteArray.toList_eq, cat_bytes, cat_bytes]; simp
              clear hZ hz0
              go_enter Tryz.func5, Tryz.ntmps5
              go_wp2_with fail
              refine (small9_any B _).mono ?_
              rintro e w0 ⟨rfl, hb0⟩
              have B0 := Lib.hid hb0
              clear hb0
              go_wp2_with fail
              refine (new_any _).mono ?_
              rintro e w1 ⟨tt, rfl, hT, hb1⟩
              have hT' := hT
              obtain ⟨b0, b1, b2, b3, rfl, -, -, -, -⟩ := hT'
              have K0 := Lib.hid (kept_new (b0 := b0) (b1 := b1) (b2 := b2) (b3 := b3) (below_then B0.out hb1) hT 28)
              obtain ⟨hS, c0, c1, c2, c3⟩ := K0.out.held
              clear hT hb1 B0
              go_wp2_with fail
              refine (B.ascii_at (.agg #[.slice (some ⟨b0, 0, none⟩) 74 74, .slice (some ⟨b1, 0, none⟩) 10 10, .slice (some ⟨b2, 0, none⟩) 11 11, .slice (some ⟨b3, 0, none⟩) 42 42]) s _ K0.out.table LS.out HX.out).mono ?_
              rintro e w2 ⟨rfl, hb⟩
              have K1 := Lib.hid (K0.out.next hb)
              clear hb K0 hS c0 c1 c2 c3
              obtain ⟨hS, c0, c1, c2, c3⟩ := K1.out.held
              go_wp2_with fail
              refine (B.ascii_at (.agg #[.slice (some ⟨b0, 0, none⟩) 74 74, .slice (some ⟨b1, 0, none⟩) 10 10, .slice (some ⟨b2, 0, none⟩) 11 11, .slice (some ⟨b3, 0, none⟩) 42 42]) b _ K1.out.table LB.out HY.out).mono ?_
              rintro e w3 ⟨rfl, hb⟩
              have K2 := Lib.hid (K1.out.next hb)
              clear hb K1 hS c0 c1 c2 c3
              obtain ⟨hS, c0, c1, c2, c3⟩ := K2.out.held
              go_wp2_with fail
              rw [← HR.out]
              refine (B.ascii_at (.agg #[.slice (some ⟨b0, 0, none⟩) 74 74, .slice (some ⟨b1, 0, none⟩) 10 10, .slice (some ⟨b2, 0, none⟩) 11 11, .slice (some ⟨b3, 0, none⟩) 42 42]) r _ K2.out.table LC.out HZ.out).mono ?_
              rintro e w4 ⟨rfl, hb⟩
              have K3 := Lib.hid (K2.out.next hb)
              clear hb K2 hS c0 c1 c2 c3
              obtain ⟨hS, c0, c1, c2, c3⟩ := K3.out.held
              go_wp2_with fail
              refine (B.labels_at (.agg #[.slice (some ⟨b0, 0, none⟩) 74 74, .slice (some ⟨b1, 0, none⟩) 10 10, .slice (some ⟨b2, 0, none⟩) 11 11, .slice (some ⟨b3, 0, none⟩) 42 42]) s _ K3.out.table LS.out HL.out).mono ?_
              rintro e w5 ⟨v1, rfl, hv, hb⟩
              obtain ⟨A1, q1, rfl, -, -⟩ := hv.form
              rw [List.length_map]
              clear hv
              have K4 := Lib.hid (K3.out.next hb)
              clear hb K3 hS c0 c1 c2 c3
              obtain ⟨hS, c0, c1, c2, c3⟩ := K4.out.held
              go_wp2_with fail
              refine (B.labels_at (.agg #[.slice (some ⟨b0, 0, none⟩) 74 74, .slice (some ⟨b1, 0, none⟩) 10 10, .slice (some ⟨b2, 0, none⟩) 11 11, .slice (some ⟨b3, 0, none⟩) 42 42]) b _ K4.out.table LB.out HM.out).mono ?_
              rintro e w6 ⟨v2, rfl, hv, hb⟩
              obtain ⟨A2, q2, rfl, -, -⟩ := hv.form
              rw [List.length_map]
              clear hv
              have K5 := Lib.hid (K4.out.next hb)
              clear hb K4 hS c0 c1 c2 c3
              obtain ⟨hS, c0, c1, c2, c3⟩ := K5.out.held
              go_wp2
              go_ret
              exact ⟨rfl, K5.out.below⟩
        · have f0 : (F != 0) = true := by simpa using hF
          clear hx hy hz hcat hF
          go_enter Tryz.func5, Tryz.ntmps5
          go_wp2_with fail
          refine (small9_any B _).mono ?_
          rintro e w0 ⟨rfl, hb0⟩
          have B0 := Lib.hid hb0
          clear hb0
          go_wp2_with fail
          refine (new_any _).mono ?_
          rintro e w1 ⟨tt, rfl, hT, hb1⟩
          have hT' := hT
          obtain ⟨b0, b1, b2, b3, rfl, -, -, -, -⟩ := hT'
          have K0 := Lib.hid (kept_new (b0 := b0) (b1 := b1) (b2 := b2) (b3 := b3) (below_then B0.out hb1) hT 28)
          obtain ⟨hS, c0, c1, c2, c3⟩ := K0.out.held
          clear hT hb1 B0
          go_wp2_with fail
          refine (B.ascii_at (.agg #[.slice (some ⟨b0, 0, none⟩) 74 74, .slice (some ⟨b1, 0, none⟩) 10 10, .slice (some ⟨b2, 0, none⟩) 11 11, .slice (some ⟨b3, 0, none⟩) 42 42]) s _ K0.out.table LS.out HX.out).mono ?_
          rintro e w2 ⟨rfl, hb⟩
          have K1 := Lib.hid (K0.out.next hb)
          clear hb K0 hS c0 c1 c2 c3
          obtain ⟨hS, c0, c1, c2, c3⟩ := K1.out.held
          go_wp2_with fail
          refine (B.ascii_at (.agg #[.slice (some ⟨b0, 0, none⟩) 74 74, .slice (some ⟨b1, 0, none⟩) 10 10, .slice (some ⟨b2, 0, none⟩) 11 11, .slice (some ⟨b3, 0, none⟩) 42 42]) b _ K1.out.table LB.out HY.out).mono ?_
          rintro e w3 ⟨rfl, hb⟩
          have K2 := Lib.hid (K1.out.next hb)
          clear hb K1 hS c0 c1 c2 c3
          obtain ⟨hS, c0, c1, c2, c3⟩ := K2.out.held
          go_wp2_with fail
          rw [← HR.out]
          refine (B.ascii_at (.agg #[.slice (some ⟨b0, 0, none⟩) 74 74, .slice (some ⟨b1, 0, none⟩) 10 10, .slice (some ⟨b2, 0, none⟩) 11 11, .slice (some ⟨b3, 0, none⟩) 42 42]) r _ K2.out.table LC.out HZ.out).mono ?_
          rintro e w4 ⟨rfl, hb⟩
          have K3 := Lib.hid (K2.out.next hb)
          clear hb K2 hS c0 c1 c2 c3
          obtain ⟨hS, c0, c1, c2, c3⟩ := K3.out.held
          go_wp2
          go_ret
          exact ⟨rfl, K3.out.below⟩
      · have e0 : (E != 0) = true := by simpa using hE
        clear hx hy hz hcat hE
        go_enter Tryz.func5, Tryz.ntmps5
        go_wp2_with fail
        refine (small9_any B _).mono ?_
        rintro e w0 ⟨rfl, hb0⟩
        have B0 := Lib.hid hb0
        clear hb0
        go_wp2_with fail
        refine (new_any _).mono ?_
        rintro e w1 ⟨tt, rfl, hT, hb1⟩
        have hT' := hT
        obtain ⟨b0, b1, b2, b3, rfl, -, -, -, -⟩ := hT'
        have K0 := Lib.hid (kept_new (b0 := b0) (b1 := b1) (b2 := b2) (b3 := b3) (below_then B0.out hb1) hT 28)
        obtain ⟨hS, c0, c1, c2, c3⟩ := K0.out.held
        clear hT hb1 B0
        go_wp2_with fail
        refine (B.ascii_at (.agg #[.slice (some ⟨b0, 0, none⟩) 74 74, .slice (some ⟨b1, 0, none⟩) 10 10, .slice (some ⟨b2, 0, none⟩) 11 11, .slice (some ⟨b3, 0, none⟩) 42 42]) s _ K0.out.table LS.out HX.out).mono ?_
        rintro e w2 ⟨rfl, hb⟩
        have K1 := Lib.hid (K0.out.next hb)
        clear hb K0 hS c0 c1 c2 c3
        obtain ⟨hS, c0, c1, c2, c3⟩ := K1.out.held
        go_wp2_with fail
        refine (B.ascii_at (.agg #[.slice (some ⟨b0, 0, none⟩) 74 74, .slice (some ⟨b1, 0, none⟩) 10 10, .slice (some ⟨b2, 0, none⟩) 11 11, .slice (some ⟨b3, 0, none⟩) 42 42]) b _ K1.out.table LB.out HY.out).mono ?_
        rintro e w3 ⟨rfl, hb⟩
        have K2 := Lib.hid (K1.out.next hb)
        clear hb K1 hS c0 c1 c2 c3
        obtain ⟨hS, c0, c1, c2, c3⟩ := K2.out.held
        go_wp2_with fail
        rw [← HR.out]
        refine (B.ascii_at (.agg #[.slice (some ⟨b0, 0, none⟩) 74 74, .slice (some ⟨b1, 0, none⟩) 10 10, .slice (some ⟨b2, 0, none⟩) 11 11, .slice (some ⟨b3, 0, none⟩) 42 42]) r _ K2.out.table LC.out HZ.out).mono ?_
        rintro e w4 ⟨rfl, hb⟩
        have K3 := Lib.hid (K2.out.next hb)
        clear hb K2 hS c0 c1 c2 c3
        obtain ⟨hS, c0, c1, c2, c3⟩ := K3.out.held
        go_wp2
        go_ret
        exact ⟨rfl, K3.out.below⟩
    · have hb' : (100 : Int) < (b.size : Int) := by omega
      clear hb
      go_enter Tryz.func5, Tryz.ntmps5
      go_wp2_with fail
      refine (small9_any B _).mono ?_
      rintro e w0 ⟨rfl, hb0⟩
      have B0 := Lib.hid hb0
      clear hb0
      go_wp2
      go_ret
      exact ⟨rfl, B0.out⟩
  · have hs' : (100 : Int) < (s.size : Int) := by omega
    clear hs
    go_enter Tryz.func5, Tryz.ntmps5
    go_wp2_with fail
    refine (small9_any B _).mono ?_
    rintro e w0 ⟨rfl, hb0⟩
    have B0 := Lib.hid hb0
    clear hb0
    go_wp2
    go_ret
    exact ⟨rfl, B0.out⟩
end Go.Proofs.YtbmgkfnoknomdaaGreat
