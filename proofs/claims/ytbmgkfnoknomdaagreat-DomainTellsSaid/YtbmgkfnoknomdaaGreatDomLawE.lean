/-
  Proved here: the law DomainTells, given what the program's functions tell. Conditions: none.
-/
import Derived.Test.YtbmgkfnoknomdaaGreatDomSmall
import Derived.Test.YtbmgkfnoknomdaaGreatUtfA
import Derived.Test.YtbmgkfnoknomdaaGreatDomSameRow
namespace Go.Proofs.YtbmgkfnoknomdaaGreat
open Go.RowKit Utf
set_option maxHeartbeats 8000000 in
set_option maxRecDepth 100000 in
theorem tells9_walk (B : DomOk) (s b : ByteArray) (w : World) : Calls Tryz.prog 3 #[.string s, .string b] w fun e w' => e = .returned (.bool true) ∧ Below w.heap.size w w' := by
  by_cases hs : s.size ≤ 200
  · have hs' : ¬ (200 : Int) < (s.size : Int) := by omega
    have LS := Lib.hid (dom_of (s := s) (by omega))
    by_cases hb : b.size ≤ 200
    · have hb' : ¬ (200 : Int) < (b.size : Int) := by omega
      have LB := Lib.hid (dom_of (s := b) (by omega))
      obtain ⟨⟨E, L⟩, hL⟩ : ∃ p, Dom.labelsE s.data.toList = p := ⟨_, rfl⟩
      obtain ⟨⟨F, x, u⟩, hx⟩ : ∃ p, Dom.bothD s.data.toList = p := ⟨_, rfl⟩
      obtain ⟨⟨J, z, q⟩, hz⟩ : ∃ p, Dom.bothD b.data.toList = p := ⟨_, rfl⟩
      obtain ⟨d, hd⟩ : ∃ d, Dom.downD s.data.toList = d := ⟨_, rfl⟩
      obtain ⟨o, ho⟩ : ∃ o, Dom.sameD s.data.toList b.data.toList = o := ⟨_, rfl⟩
      have HL := Lib.hid hL
      have HX := Lib.hid hx
      have HD := Lib.hid hd
      have HO := Lib.hid ho
      have HX1 : Hid ((Dom.bothD s.data.toList).1 = F) := Lib.hid (by rw [hx])
      have lL : (L.map encZ).length ≤ 32 := by have := (Dom.labels_parts (bs := s.data.toList) (fun m hm => (LS.out.2 m hm).2)).1; rw [hL] at this; rw [List.length_map]; exact this
      have RL := Lib.hid (fun W => labels9_ref s W (by omega) (dom_few (by omega)))
      have RB := Lib.hid (fun W => both9_ref s W (by omega) (dom_few (by omega)))
      have RC := Lib.hid (fun W => both9_ref b W (by omega) (dom_few (by omega)))
      have RD := Lib.hid (fun W => down9_ref s W (by omega) (dom_few (by omega)))
      rw [hL] at RL
      rw [hx] at RB
      rw [hz] at RC
      rw [hx, hd] at RD
      have hso : o = ((F == 0) && (J == 0) && (x == z)) := by rw [← ho]; unfold Dom.sameD; rw [hx, hz]
      clear hs hb hL hx hz hd ho
      by_cases hF : F = 0
      · subst hF
        by_cases hJ : J = 0
        · subst hJ
          have hxz : (x == z) = o := by rw [hso]; simp
          clear hso
          go_enter Tryz.func3, Tryz.ntmps3
          go_wp2_with fail
          refine (small9_any B _).mono ?_
          rintro e w0 ⟨rfl, hb0⟩
          have B0 := Lib.hid hb0
          clear hb0
          go_wp2_with fail
          refine (new_any _).mono ?_
          rintro e w1 ⟨tt, rfl, hT, hb1⟩
          have hT' := hT
          obtain ⟨b0, b1, b2, b3, rfl, -, -, -, -⟩ := hT'
          have K0 := Lib.hid (kept_new (b0 := b0) (b1 := b1) (b2 := b2) (b3 := b3) (below_then B0.out hb1) hT 28)
          obtain ⟨hS, c0, c1, c2, c3⟩ := K0.out.held
          clear hT hb1 B0
          go_wp2_with fail
          refine (B.labels_at (.agg #[.slice (some ⟨b0, 0, none⟩) 74 74, .slice (some ⟨b1, 0, none⟩) 10 10, .slice (some ⟨b2, 0, none⟩) 11 11, .slice (some ⟨b3, 0, none⟩) 42 42]) s _ K0.out.table LS.out HL.out).mono ?_
          rintro e w2 ⟨v1, rfl, hv, hb⟩
          have V1 := Lib.hid hv
          clear hv
          have K1 := Lib.hid (K0.out.next hb)
          clear hb K0 hS c0 c1 c2 c3
          obtain ⟨hS, c0, c1, c2, c3⟩ := K1.out.held
          go_wp2_with fail
          refine (RL.out _).mono ?_
          rintro e w3 ⟨v2, rfl, hv, hb⟩
          have V2 := Lib.hid hv
          clear hv
          have V1 := Lib.hid (V1.out.keep hb)
          have K2 := Lib.hid (K1.out.next hb)
          clear hb K1 hS c0 c1 c2 c3
          obtain ⟨hS, c0, c1, c2, c3⟩ := K2.out.held
          go_wp2_with fail
          refine (B.ascii_at (.agg #[.slice (some ⟨b0, 0, none⟩) 74 74, .slice (some ⟨b1, 0, none⟩) 10 10, .slice (some ⟨b2, 0, none⟩) 11 11, .slice (some ⟨b3, 0, none⟩) 42 42]) s _ K2.out.table LS.out HX.out).mono ?_
          rintro e w4 ⟨rfl, hb⟩
          have V1 := Lib.hid (V1.out.keep hb)
          have V2 := Lib.hid (V2.out.keep hb)
          have K3 := Lib.hid (K2.out.next hb)
          clear hb K2 hS c0 c1 c2 c3
          obtain ⟨hS, c0, c1, c2, c3⟩ := K3.out.held
          go_wp2_with fail
          refine (B.uni_at (.agg #[.slice (some ⟨b0, 0, none⟩) 74 74, .slice (some ⟨b1, 0, none⟩) 10 10, .slice (some ⟨b2, 0, none⟩) 11 11, .slice (some ⟨b3, 0, none⟩) 42 42]) s _ K3.out.table LS.out HX.out).mono ?_
          rintro e w5 ⟨rfl, hb⟩
          have V1 := Lib.hid (V1.out.keep hb)
          have V2 := Lib.hid (V2.out.keep hb)
          have K4 := Lib.hid (K3.out.next hb)
          clear hb K3 hS c0 c1 c2 c3
          obtain ⟨hS, c0, c1, c2, c3⟩ := K4.out.held
          go_wp2_with fail
          refine (RB.out _).mono ?_
          rintro e w6 ⟨rfl, hb⟩
          have V1 := Lib.hid (V1.out.keep hb)
          have V2 := Lib.hid (V2.out.keep hb)
          have K5 := Lib.hid (K4.out.next hb)
          clear hb K4 hS c0 c1 c2 c3
          obtain ⟨hS, c0, c1, c2, c3⟩ := K5.out.held
          go_wp2_with fail
          refine (RC.out _).mono ?_
          rintro e w7 ⟨rfl, hb⟩
          have V1 := Lib.hid (V1.out.keep hb)
          have V2 := Lib.hid (V2.out.keep hb)
          have K6 := Lib.hid (K5.out.next hb)
          clear hb K5 hS c0 c1 c2 c3
          obtain ⟨hS, c0, c1, c2, c3⟩ := K6.out.held
          go_wp2_with fail
          refine (B.down_at (.agg #[.slice (some ⟨b0, 0, none⟩) 74 74, .slice (some ⟨b1, 0, none⟩) 10 10, .slice (some ⟨b2, 0, none⟩) 11 11, .slice (some ⟨b3, 0, none⟩) 42 42]) s _ K6.out.table LS.out HX1.out HD.out).mono ?_
          rintro e w8 ⟨rfl, hb⟩
          have V1 := Lib.hid (V1.out.keep hb)
          have V2 := Lib.hid (V2.out.keep hb)
          have K7 := Lib.hid (K6.out.next hb)
          clear hb K6 hS c0 c1 c2 c3
          obtain ⟨hS, c0, c1, c2, c3⟩ := K7.out.held
          go_wp2_with fail
          refine (RD.out _).mono ?_
          rintro e w9 ⟨rfl, hb⟩
          have V1 := Lib.hid (V1.out.keep hb)
          have V2 := Lib.hid (V2.out.keep hb)
          have K8 := Lib.hid (K7.out.next hb)
          clear hb K7 hS c0 c1 c2 c3
          obtain ⟨hS, c0, c1, c2, c3⟩ := K8.out.held
          go_wp2_with fail
          refine (rows_any _ _ _ _ _ V1.out V2.out (by omega)).mono ?_
          rintro e w10 ⟨rfl, hb⟩
          rw [decide_eq_true (rfl : L.map encZ = L.map encZ)]
          have K9 := Lib.hid (K8.out.next hb)
          clear hb K8 hS c0 c1 c2 c3
          obtain ⟨hS, c0, c1, c2, c3⟩ := K9.out.held
          go_wp2_with fail
          refine (B.same_at (.agg #[.slice (some ⟨b0, 0, none⟩) 74 74, .slice (some ⟨b1, 0, none⟩) 10 10, .slice (some ⟨b2, 0, none⟩) 11 11, .slice (some ⟨b3, 0, none⟩) 42 42]) s b _ K9.out.table LS.out LB.out HO.out).mono ?_
          rintro e w11 ⟨rfl, hb⟩
          have K10 := Lib.hid (K9.out.next hb)
          clear hb K9 hS c0 c1 c2 c3
          obtain ⟨hS, c0, c1, c2, c3⟩ := K10.out.held
          go_wp2
          go_ret
          exact ⟨rfl, K10.out.below⟩
        · have j0 : (J == 0) = false := by simpa using hJ
          have hof : o = false := by rw [hso, j0]; simp
          subst hof
          clear hso hJ
          go_enter Tryz.func3, Tryz.ntmps3
          go_wp2_with fail
          refine (small9_any B _).mono ?_
          rintro e w0 ⟨rfl, hb0⟩
          have B0 := Lib.hid hb0
          clear hb0
          go_wp2_with fail
          refine (new_any _).mono ?_
          rintro e w1 ⟨tt, rfl, hT, hb1⟩
          have hT' := hT
          obtain ⟨b0, b1, b2, b3, rfl, -, -, -, -⟩ := hT'
          have K0 := Lib.hid (kept_new (b0 := b0) (b1 := b1) (b2 := b2) (b3 := b3) (below_then B0.out hb1) hT 28)
          obtain ⟨hS, c0, c1, c2, c3⟩ := K0.out.held
          clear hT hb1 B0
          go_wp2_with fail
          refine (B.labels_at (.agg #[.slice (some ⟨b0, 0, none⟩) 74 74, .slice (some ⟨b1, 0, none⟩) 10 10, .slice (some ⟨b2, 0, none⟩) 11 11, .slice (some ⟨b3, 0, none⟩) 42 42]) s _ K0.out.table LS.out HL.out).mono ?_
          rintro e w2 ⟨v1, rfl, hv, hb⟩
          have V1 := Lib.hid hv
          clear hv
          have K1 := Lib.hid (K0.out.next hb)
          clear hb K0 hS c0 c1 c2 c3
          obtain ⟨hS, c0, c1, c2, c3⟩ := K1.out.held
          go_wp2_with fail
          refine (RL.out _).mono ?_
          rintro e w3 ⟨v2, rfl, hv, hb⟩
          have V2 := Lib.hid hv
          clear hv
          have V1 := Lib.hid (V1.out.keep hb)
          have K2 := Lib.hid (K1.out.next hb)
          clear hb K1 hS c0 c1 c2 c3
          obtain ⟨hS, c0, c1, c2, c3⟩ := K2.out.held
          go_wp2_with fail
          refine (B.ascii_at (.agg #[.slice (some ⟨b0, 0, none⟩) 74 74, .slice (some ⟨b1, 0, none⟩) 10 10, .slice (some ⟨b2, 0, none⟩) 11 11, .slice (some ⟨b3, 0, none⟩) 42 42]) s _ K2.out.table LS.out HX.out).mono ?_
          rintro e w4 ⟨rfl, hb⟩
          have V1 := Lib.hid (V1.out.keep hb)
          have V2 := Lib.hid (V2.out.keep hb)
          have K3 := Lib.hid (K2.out.next hb)
          clear hb K2 hS c0 c1 c2 c3
          obtain ⟨hS, c0, c1, c2, c3⟩ := K3.out.held
          go_wp2_with fail
          refine (B.uni_at (.agg #[.slice (some ⟨b0, 0, none⟩) 74 74, .slice (some ⟨b1, 0, none⟩) 10 10, .slice (some ⟨b2, 0, none⟩) 11 11, .slice (some ⟨b3, 0, none⟩) 42 42]) s _ K3.out.table LS.out HX.out).mono ?_
          rintro e w5 ⟨rfl, hb⟩
          have V1 := Lib.hid (V1.out.keep hb)
          have V2 := Lib.hid (V2.out.keep hb)
          have K4 := Lib.hid (K3.out.next hb)
          clear hb K3 hS c0 c1 c2 c3
          obtain ⟨hS, c0, c1, c2, c3⟩ := K4.out.held
          go_wp2_with fail
          refine (RB.out _).mono ?_
          rintro e w6 ⟨rfl, hb⟩
          have V1 := Lib.hid (V1.out.keep hb)
          have V2 := Lib.hid (V2.out.keep hb)
          have K5 := Lib.hid (K4.out.next hb)
          clear hb K4 hS c0 c1 c2 c3
          obtain ⟨hS, c0, c1, c2, c3⟩ := K5.out.held
          go_wp2_with fail
          refine (RC.out _).mono ?_
          rintro e w7 ⟨rfl, hb⟩
          have V1 := Lib.hid (V1.out.keep hb)
          have V2 := Lib.hid (V2.out.keep hb)
          have K6 := Lib.hid (K5.out.next hb)
          clear hb K5 hS c0 c1 c2 c3
          obtain ⟨hS, c0, c1, c2, c3⟩ := K6.out.held
          go_wp2_with fail
          refine (B.down_at (.agg #[.slice (some ⟨b0, 0, none⟩) 74 74, .slice (some ⟨b1, 0, none⟩) 10 10, .slice (some ⟨b2, 0, none⟩) 11 11, .slice (some ⟨b3, 0, none⟩) 42 42]) s _ K6.out.table LS.out HX1.out HD.out).mono ?_
          rintro e w8 ⟨rfl, hb⟩
          have V1 := Lib.hid (V1.out.keep hb)
          have V2 := Lib.hid (V2.out.keep hb)
          have K7 := Lib.hid (K6.out.next hb)
          clear hb K6 hS c0 c1 c2 c3
          obtain ⟨hS, c0, c1, c2, c3⟩ := K7.out.held
          go_wp2_with fail
          refine (RD.out _).mono ?_
          rintro e w9 ⟨rfl, hb⟩
          have V1 := Lib.hid (V1.out.keep hb)
          have V2 := Lib.hid (V2.out.keep hb)
          have K8 := Lib.hid (K7.out.next hb)
          clear hb K7 hS c0 c1 c2 c3
          obtain ⟨hS, c0, c1, c2, c3⟩ := K8.out.held
          go_wp2_with fail
          refine (rows_any _ _ _ _ _ V1.out V2.out (by omega)).mono ?_
          rintro e w10 ⟨rfl, hb⟩
          rw [decide_eq_true (rfl : L.map encZ = L.map encZ)]
          have K9 := Lib.hid (K8.out.next hb)
          clear hb K8 hS c0 c1 c2 c3
          obtain ⟨hS, c0, c1, c2, c3⟩ := K9.out.held
          go_wp2_with fail
          refine (B.same_at (.agg #[.slice (some ⟨b0, 0, none⟩) 74 74, .slice (some ⟨b1, 0, none⟩) 10 10, .slice (some ⟨b2, 0, none⟩) 11 11, .slice (some ⟨b3, 0, none⟩) 42 42]) s b _ K9.out.table LS.out LB.out HO.out).mono ?_
          rintro e w11 ⟨rfl, hb⟩
          have K10 := Lib.hid (K9.out.next hb)
          clear hb K9 hS c0 c1 c2 c3
          obtain ⟨hS, c0, c1, c2, c3⟩ := K10.out.held
          go_wp2
          go_ret
          exact ⟨rfl, K10.out.below⟩
      · have f0 : (F == 0) = false := by simpa using hF
        have hof : o = false := by rw [hso, f0]; simp
        subst hof
        clear hso hF
        go_enter Tryz.func3, Tryz.ntmps3
        go_wp2_with fail
        refine (small9_any B _).mono ?_
        rintro e w0 ⟨rfl, hb0⟩
        have B0 := Lib.hid hb0
        clear hb0
        go_wp2_with fail
        refine (new_any _).mono ?_
        rintro e w1 ⟨tt, rfl, hT, hb1⟩
        have hT' := hT
        obtain ⟨b0, b1, b2, b3, rfl, -, -, -, -⟩ := hT'
        have K0 := Lib.hid (kept_new (b0 := b0) (b1 := b1) (b2 := b2) (b3 := b3) (below_then B0.out hb1) hT 28)
        obtain ⟨hS, c0, c1, c2, c3⟩ := K0.out.held
        clear hT hb1 B0
        go_wp2_with fail
        refine (B.labels_at (.agg #[.slice (some ⟨b0, 0, none⟩) 74 74, .slice (some ⟨b1, 0, none⟩) 10 10, .slice (some ⟨b2, 0, none⟩) 11 11, .slice (some ⟨b3, 0, none⟩) 42 42]) s _ K0.out.table LS.out HL.out).mono ?_
        rintro e w2 ⟨v1, rfl, hv, hb⟩
        have V1 := Lib.hid hv
        clear hv
        have K1 := Lib.hid (K0.out.next hb)
        clear hb K0 hS c0 c1 c2 c3
        obtain ⟨hS, c0, c1, c2, c3⟩ := K1.out.held
        go_wp2_with fail
        refine (RL.out _).mono ?_
        rintro e w3 ⟨v2, rfl, hv, hb⟩
        have V2 := Lib.hid hv
        clear hv
        have V1 := Lib.hid (V1.out.keep hb)
        have K2 := Lib.hid (K1.out.next hb)
        clear hb K1 hS c0 c1 c2 c3
        obtain ⟨hS, c0, c1, c2, c3⟩ := K2.out.held
        go_wp2_with fail
        refine (B.ascii_at (.agg #[.slice (some ⟨b0, 0, none⟩) 74 74, .slice (some ⟨b1, 0, none⟩) 10 10, .slice (some ⟨b2, 0, none⟩) 11 11, .slice (some ⟨b3, 0, none⟩) 42 42]) s _ K2.out.table LS.out HX.out).mono ?_
        rintro e w4 ⟨rfl, hb⟩
        have V1 := Lib.hid (V1.out.keep hb)
        have V2 := Lib.hid (V2.out.keep hb)
        have K3 := Lib.hid (K2.out.next hb)
        clear hb K2 hS c0 c1 c2 c3
        obtain ⟨hS, c0, c1, c2, c3⟩ := K3.out.held
        go_wp2_with fail
        refine (B.uni_at (.agg #[.slice (some ⟨b0, 0, none⟩) 74 74, .slice (some ⟨b1, 0, none⟩) 10 10, .slice (some ⟨b2, 0, none⟩) 11 11, .slice (some ⟨b3, 0, none⟩) 42 42]) s _ K3.out.table LS.out HX.out).mono ?_
        rintro e w5 ⟨rfl, hb⟩
        have V1 := Lib.hid (V1.out.keep hb)
        have V2 := Lib.hid (V2.out.keep hb)
        have K4 := Lib.hid (K3.out.next hb)
        clear hb K3 hS c0 c1 c2 c3
        obtain ⟨hS, c0, c1, c2, c3⟩ := K4.out.held
        go_wp2_with fail
        refine (RB.out _).mono ?_
        rintro e w6 ⟨rfl, hb⟩
        have V1 := Lib.hid (V1.out.keep hb)
        have V2 := Lib.hid (V2.out.keep hb)
        have K5 := Lib.hid (K4.out.next hb)
        clear hb K4 hS c0 c1 c2 c3
        obtain ⟨hS, c0, c1, c2, c3⟩ := K5.out.held
        go_wp2_with fail
        refine (RC.out _).mono ?_
        rintro e w7 ⟨rfl, hb⟩
        have V1 := Lib.hid (V1.out.keep hb)
        have V2 := Lib.hid (V2.out.keep hb)
        have K6 := Lib.hid (K5.out.next hb)
        clear hb K5 hS c0 c1 c2 c3
        obtain ⟨hS, c0, c1, c2, c3⟩ := K6.out.held
        go_wp2_with fail
        refine (B.down_at (.agg #[.slice (some ⟨b0, 0, none⟩) 74 74, .slice (some ⟨b1, 0, none⟩) 10 10, .slice (some ⟨b2, 0, none⟩) 11 11, .slice (some ⟨b3, 0, none⟩) 42 42]) s _ K6.out.table LS.out HX1.out HD.out).mono ?_
        rintro e w8 ⟨rfl, hb⟩
        have V1 := Lib.hid (V1.out.keep hb)
        have V2 := Lib.hid (V2.out.keep hb)
        have K7 := Lib.hid (K6.out.next hb)
        clear hb K6 hS c0 c1 c2 c3
        obtain ⟨hS, c0, c1, c2, c3⟩ := K7.out.held
        go_wp2_with fail
        refine (RD.out _).mono ?_
        rintro e w9 ⟨rfl, hb⟩
        have V1 := Lib.hid (V1.out.keep hb)
        have V2 := Lib.hid (V2.out.keep hb)
        have K8 := Lib.hid (K7.out.next hb)
        clear hb K7 hS c0 c1 c2 c3
        obtain ⟨hS, c0, c1, c2, c3⟩ := K8.out.held
        go_wp2_with fail
        refine (rows_any _ _ _ _ _ V1.out V2.out (by omega)).mono ?_
        rintro e w10 ⟨rfl, hb⟩
        rw [decide_eq_true (rfl : L.map encZ = L.map encZ)]
        have K9 := Lib.hid (K8.out.next hb)
        clear hb K8 hS c0 c1 c2 c3
        obtain ⟨hS, c0, c1, c2, c3⟩ := K9.out.held
        go_wp2_with fail
        refine (B.same_at (.agg #[.slice (some ⟨b0, 0, none⟩) 74 74, .slice (some ⟨b1, 0, none⟩) 10 10, .slice (some ⟨b2, 0, none⟩) 11 11, .slice (some ⟨b3, 0, none⟩) 42 42]) s b _ K9.out.table LS.out LB.out HO.out).mono ?_
        rintro e w11 ⟨rfl, hb⟩
        have K10 := Lib.hid (K9.out.next hb)
        clear hb K9 hS c0 c1 c2 c3
        obtain ⟨hS, c0, c1, c2, c3⟩ := K10.out.held
        go_wp2
        go_ret
        exact ⟨rfl, K10.out.below⟩
    · have hb' : (200 : Int) < (b.size : Int) := by omega
      clear hb
      go_enter Tryz.func3, Tryz.ntmps3
      go_wp2_with fail
      refine (small9_any B _).mono ?_
      rintro e w0 ⟨rfl, hb0⟩
      have B0 := Lib.hid hb0
      clear hb0
      go_wp2
      go_ret
      exact ⟨rfl, B0.out⟩
  · have hs' : (200 : Int) < (s.size : Int) := by omega
    clear hs
    go_enter Tryz.func3, Tryz.ntmps3
    go_wp2_with fail
    refine (small9_any B _).mono ?_
    rintro e w0 ⟨rfl, hb0⟩
    have B0 := Lib.hid hb0
    clear hb0
    go_wp2
    go_ret
    exact ⟨rfl, B0.out⟩
end Go.Proofs.YtbmgkfnoknomdaaGreat
