/-
  Proved here: the law DomainTree, given what the program's functions tell. Conditions: none.
-/
import Derived.Test.YtbmgkfnoknomdaaGreatDomSmall
import Derived.Test.YtbmgkfnoknomdaaGreatUtfA
namespace Go.Proofs.YtbmgkfnoknomdaaGreat
open Go.RowKit Utf
namespace Dom
theorem sameD_comm (a b : List UInt8) : sameD b a = sameD a b := by
  unfold sameD
  cases h1 : (bothD a).1 == 0 <;> cases h2 : (bothD b).1 == 0 <;> simp
  exact Bool.beq_comm
theorem sameD_self (a : List UInt8) : sameD a a = ((bothD a).1 == 0) := by
  unfold sameD
  cases h1 : (bothD a).1 == 0 <;> simp
theorem sameD_trans {a b c : List UInt8} (h1 : sameD a b = true) (h2 : sameD b c = true) : sameD a c = true := by
  unfold sameD at *
  simp only [Bool.and_eq_true, beq_iff_eq] at *
  exact ⟨⟨h1.1.1, h2.1.2⟩, h1.2.trans h2.2⟩
end Dom
set_option maxHeartbeats 8000000 in
set_option maxRecDepth 100000 in
theorem tree9_walk (B : DomOk) (a b c : ByteArray) (w : World) : Calls Tryz.prog 7 #[.string a, .string b, .string c] w fun e w' => e = .returned (.bool true) ∧ Below w.heap.size w w' := by
  by_cases ha : a.size ≤ 80
  · have ha' : ¬ (80 : Int) < (a.size : Int) := by omega
    have LA := Lib.hid (dom_of (s := a) (by omega))
    clear ha
    by_cases hb : b.size ≤ 80
    · have hb' : ¬ (80 : Int) < (b.size : Int) := by omega
      have LB := Lib.hid (dom_of (s := b) (by omega))
      clear hb
      by_cases hc : c.size ≤ 80
      · have hc' : ¬ (80 : Int) < (c.size : Int) := by omega
        have LC := Lib.hid (dom_of (s := c) (by omega))
        clear hc
        obtain ⟨⟨E, x, u⟩, hx⟩ : ∃ p, Dom.bothD a.data.toList = p := ⟨_, rfl⟩
        have HX := Lib.hid hx
        obtain ⟨z, hz⟩ : ∃ z, (E == 0) = z := ⟨_, rfl⟩
        have HAA : Hid (Dom.sameD a.data.toList a.data.toList = z) := Lib.hid (by rw [Dom.sameD_self, hx]; exact hz)
        clear hx
        obtain ⟨p, hp⟩ : ∃ p, Dom.sameD a.data.toList b.data.toList = p := ⟨_, rfl⟩
        obtain ⟨q, hq⟩ : ∃ q, Dom.sameD b.data.toList c.data.toList = q := ⟨_, rfl⟩
        have HAB := Lib.hid hp
        have HBC := Lib.hid hq
        have HBA : Hid (Dom.sameD b.data.toList a.data.toList = p) := Lib.hid (by rw [Dom.sameD_comm]; exact hp)
        have HAC : Hid (p = true → q = true → Dom.sameD a.data.toList c.data.toList = true) := Lib.hid (fun h1 h2 => Dom.sameD_trans (hp.trans h1) (hq.trans h2))
        clear hp hq
        cases p
        · clear HAC
          go_enter Tryz.func7, Tryz.ntmps7
          go_wp2_with fail
          refine (small9_any B _).mono ?_
          rintro e w0 ⟨rfl, hb0⟩
          have B0 := Lib.hid hb0
          clear hb0
          go_wp2_with fail
          refine (new_any _).mono ?_
          rintro e w1 ⟨tt, rfl, hT, hb1⟩
          have hT' := hT
          obtain ⟨b0, b1, b2, b3, rfl, -, -, -, -⟩ := hT'
          have K0 := Lib.hid (kept_new (b0 := b0) (b1 := b1) (b2 := b2) (b3 := b3) (below_then B0.out hb1) hT 28)
          obtain ⟨hS, c0, c1, c2, c3⟩ := K0.out.held
          clear hT hb1 B0
          go_wp2_with fail
          refine (B.ascii_at (.agg #[.slice (some ⟨b0, 0, none⟩) 74 74, .slice (some ⟨b1, 0, none⟩) 10 10, .slice (some ⟨b2, 0, none⟩) 11 11, .slice (some ⟨b3, 0, none⟩) 42 42]) a _ K0.out.table LA.out HX.out).mono ?_
          rintro e w2 ⟨rfl, hb⟩
          have K1 := Lib.hid (K0.out.next hb)
          clear hb K0 hS c0 c1 c2 c3
          obtain ⟨hS, c0, c1, c2, c3⟩ := K1.out.held
          go_wp2_with fail
          refine (B.same_at (.agg #[.slice (some ⟨b0, 0, none⟩) 74 74, .slice (some ⟨b1, 0, none⟩) 10 10, .slice (some ⟨b2, 0, none⟩) 11 11, .slice (some ⟨b3, 0, none⟩) 42 42]) a b _ K1.out.table LA.out LB.out HAB.out).mono ?_
          rintro e w3 ⟨rfl, hb⟩
          have K2 := Lib.hid (K1.out.next hb)
          clear hb K1 hS c0 c1 c2 c3
          obtain ⟨hS, c0, c1, c2, c3⟩ := K2.out.held
          go_wp2_with fail
          refine (B.same_at (.agg #[.slice (some ⟨b0, 0, none⟩) 74 74, .slice (some ⟨b1, 0, none⟩) 10 10, .slice (some ⟨b2, 0, none⟩) 11 11, .slice (some ⟨b3, 0, none⟩) 42 42]) b c _ K2.out.table LB.out LC.out HBC.out).mono ?_
          rintro e w4 ⟨rfl, hb⟩
          have K3 := Lib.hid (K2.out.next hb)
          clear hb K2 hS c0 c1 c2 c3
          obtain ⟨hS, c0, c1, c2, c3⟩ := K3.out.held
          go_wp2_with fail
          refine (B.same_at (.agg #[.slice (some ⟨b0, 0, none⟩) 74 74, .slice (some ⟨b1, 0, none⟩) 10 10, .slice (some ⟨b2, 0, none⟩) 11 11, .slice (some ⟨b3, 0, none⟩) 42 42]) a a _ K3.out.table LA.out LA.out HAA.out).mono ?_
          rintro e w5 ⟨rfl, hb⟩
          have K4 := Lib.hid (K3.out.next hb)
          clear hb K3 hS c0 c1 c2 c3
          obtain ⟨hS, c0, c1, c2, c3⟩ := K4.out.held
          go_wp2_with fail
          refine (B.same_at (.agg #[.slice (some ⟨b0, 0, none⟩) 74 74, .slice (some ⟨b1, 0, none⟩) 10 10, .slice (some ⟨b2, 0, none⟩) 11 11, .slice (some ⟨b3, 0, none⟩) 42 42]) b a _ K4.out.table LB.out LA.out HBA.out).mono ?_
          rintro e w6 ⟨rfl, hb⟩
          have K5 := Lib.hid (K4.out.next hb)
          clear hb K4 hS c0 c1 c2 c3
          obtain ⟨hS, c0, c1, c2, c3⟩ := K5.out.held
          go_wp2
          go_ret
          exact ⟨rfl, K5.out.below⟩
        · cases q
          · clear HAC
            go_enter Tryz.func7, Tryz.ntmps7
            go_wp2_with fail
            refine (small9_any B _).mono ?_
            rintro e w0 ⟨rfl, hb0⟩
            have B0 := Lib.hid hb0
            clear hb0
            go_wp2_with fail
            refine (new_any _).mono ?_
            rintro e w1 ⟨tt, rfl, hT, hb1⟩
            have hT' := hT
            obtain ⟨b0, b1, b2, b3, rfl, -, -, -, -⟩ := hT'
            have K0 := Lib.hid (kept_new (b0 := b0) (b1 := b1) (b2 := b2) (b3 := b3) (below_then B0.out hb1) hT 28)
            obtain ⟨hS, c0, c1, c2, c3⟩ := K0.out.held
            clear hT hb1 B0
            go_wp2_with fail
            refine (B.ascii_at (.agg #[.slice (some ⟨b0, 0, none⟩) 74 74, .slice (some ⟨b1, 0, none⟩) 10 10, .slice (some ⟨b2, 0, none⟩) 11 11, .slice (some ⟨b3, 0, none⟩) 42 42]) a _ K0.out.table LA.out HX.out).mono ?_
            rintro e w2 ⟨rfl, hb⟩
            have K1 := Lib.hid (K0.out.next hb)
            clear hb K0 hS c0 c1 c2 c3
            obtain ⟨hS, c0, c1, c2, c3⟩ := K1.out.held
            go_wp2_with fail
            refine (B.same_at (.agg #[.slice (some ⟨b0, 0, none⟩) 74 74, .slice (some ⟨b1, 0, none⟩) 10 10, .slice (some ⟨b2, 0, none⟩) 11 11, .slice (some ⟨b3, 0, none⟩) 42 42]) a b _ K1.out.table LA.out LB.out HAB.out).mono ?_
            rintro e w3 ⟨rfl, hb⟩
            have K2 := Lib.hid (K1.out.next hb)
            clear hb K1 hS c0 c1 c2 c3
            obtain ⟨hS, c0, c1, c2, c3⟩ := K2.out.held
            go_wp2_with fail
            refine (B.same_at (.agg #[.slice (some ⟨b0, 0, none⟩) 74 74, .slice (some ⟨b1, 0, none⟩) 10 10, .slice (some ⟨b2, 0, none⟩) 11 11, .slice (some ⟨b3, 0, none⟩) 42 42]) b c _ K2.out.table LB.out LC.out HBC.out).mono ?_
            rintro e w4 ⟨rfl, hb⟩
            have K3 := Lib.hid (K2.out.next hb)
            clear hb K2 hS c0 c1 c2 c3
            obtain ⟨hS, c0, c1, c2, c3⟩ := K3.out.held
            go_wp2_with fail
            refine (B.same_at (.agg #[.slice (some ⟨b0, 0, none⟩) 74 74, .slice (some ⟨b1, 0, none⟩) 10 10, .slice (some ⟨b2, 0, none⟩) 11 11, .slice (some ⟨b3, 0, none⟩) 42 42]) a a _ K3.out.table LA.out LA.out HAA.out).mono ?_
            rintro e w5 ⟨rfl, hb⟩
            have K4 := Lib.hid (K3.out.next hb)
            clear hb K3 hS c0 c1 c2 c3
            obtain ⟨hS, c0, c1, c2, c3⟩ := K4.out.held
            go_wp2_with fail
            refine (B.same_at (.agg #[.slice (some ⟨b0, 0, none⟩) 74 74, .slice (some ⟨b1, 0, none⟩) 10 10, .slice (some ⟨b2, 0, none⟩) 11 11, .slice (some ⟨b3, 0, none⟩) 42 42]) b a _ K4.out.table LB.out LA.out HBA.out).mono ?_
            rintro e w6 ⟨rfl, hb⟩
            have K5 := Lib.hid (K4.out.next hb)
            clear hb K4 hS c0 c1 c2 c3
            obtain ⟨hS, c0, c1, c2, c3⟩ := K5.out.held
            go_wp2
            go_ret
            exact ⟨rfl, K5.out.below⟩
          · have HAE := Lib.hid (HAC.out rfl rfl)
            clear HAC
            go_enter Tryz.func7, Tryz.ntmps7
            go_wp2_with fail
            refine (small9_any B _).mono ?_
            rintro e w0 ⟨rfl, hb0⟩
            have B0 := Lib.hid hb0
            clear hb0
            go_wp2_with fail
            refine (new_any _).mono ?_
            rintro e w1 ⟨tt, rfl, hT, hb1⟩
            have hT' := hT
            obtain ⟨b0, b1, b2, b3, rfl, -, -, -, -⟩ := hT'
            have K0 := Lib.hid (kept_new (b0 := b0) (b1 := b1) (b2 := b2) (b3 := b3) (below_then B0.out hb1) hT 28)
            obtain ⟨hS, c0, c1, c2, c3⟩ := K0.out.held
            clear hT hb1 B0
            go_wp2_with fail
            refine (B.ascii_at (.agg #[.slice (some ⟨b0, 0, none⟩) 74 74, .slice (some ⟨b1, 0, none⟩) 10 10, .slice (some ⟨b2, 0, none⟩) 11 11, .slice (some ⟨b3, 0, none⟩) 42 42]) a _ K0.out.table LA.out HX.out).mono ?_
            rintro e w2 ⟨rfl, hb⟩
            have K1 := Lib.hid (K0.out.next hb)
            clear hb K0 hS c0 c1 c2 c3
            obtain ⟨hS, c0, c1, c2, c3⟩ := K1.out.held
            go_wp2_with fail
            refine (B.same_at (.agg #[.slice (some ⟨b0, 0, none⟩) 74 74, .slice (some ⟨b1, 0, none⟩) 10 10, .slice (some ⟨b2, 0, none⟩) 11 11, .slice (some ⟨b3, 0, none⟩) 42 42]) a b _ K1.out.table LA.out LB.out HAB.out).mono ?_
            rintro e w3 ⟨rfl, hb⟩
            have K2 := Lib.hid (K1.out.next hb)
            clear hb K1 hS c0 c1 c2 c3
            obtain ⟨hS, c0, c1, c2, c3⟩ := K2.out.held
            go_wp2_with fail
            refine (B.same_at (.agg #[.slice (some ⟨b0, 0, none⟩) 74 74, .slice (some ⟨b1, 0, none⟩) 10 10, .slice (some ⟨b2, 0, none⟩) 11 11, .slice (some ⟨b3, 0, none⟩) 42 42]) b c _ K2.out.table LB.out LC.out HBC.out).mono ?_
            rintro e w4 ⟨rfl, hb⟩
            have K3 := Lib.hid (K2.out.next hb)
            clear hb K2 hS c0 c1 c2 c3
            obtain ⟨hS, c0, c1, c2, c3⟩ := K3.out.held
            go_wp2_with fail
            refine (B.same_at (.agg #[.slice (some ⟨b0, 0, none⟩) 74 74, .slice (some ⟨b1, 0, none⟩) 10 10, .slice (some ⟨b2, 0, none⟩) 11 11, .slice (some ⟨b3, 0, none⟩) 42 42]) a a _ K3.out.table LA.out LA.out HAA.out).mono ?_
            rintro e w5 ⟨rfl, hb⟩
            have K4 := Lib.hid (K3.out.next hb)
            clear hb K3 hS c0 c1 c2 c3
            obtain ⟨hS, c0, c1, c2, c3⟩ := K4.out.held
            go_wp2_with fail
            refine (B.same_at (.agg #[.slice (some ⟨b0, 0, none⟩) 74 74, .slice (some ⟨b1, 0, none⟩) 10 10, .slice (some ⟨b2, 0, none⟩) 11 11, .slice (some ⟨b3, 0, none⟩) 42 42]) b a _ K4.out.table LB.out LA.out HBA.out).mono ?_
            rintro e w6 ⟨rfl, hb⟩
            have K5 := Lib.hid (K4.out.next hb)
            clear hb K4 hS c0 c1 c2 c3
            obtain ⟨hS, c0, c1, c2, c3⟩ := K5.out.held
            go_wp2_with fail
            refine (B.same_at (.agg #[.slice (some ⟨b0, 0, none⟩) 74 74, .slice (some ⟨b1, 0, none⟩) 10 10, .slice (some ⟨b2, 0, none⟩) 11 11, .slice (some ⟨b3, 0, none⟩) 42 42]) a c _ K5.out.table LA.out LC.out HAE.out).mono ?_
            rintro e w7 ⟨rfl, hb⟩
            have K6 := Lib.hid (K5.out.next hb)
            clear hb K5 hS c0 c1 c2 c3
            obtain ⟨hS, c0, c1, c2, c3⟩ := K6.out.held
            go_wp2
            go_ret
            exact ⟨rfl, K6.out.below⟩
      · have hc' : (80 : Int) < (c.size : Int) := by omega
        clear hc
        go_enter Tryz.func7, Tryz.ntmps7
        go_wp2_with fail
        refine (small9_any B _).mono ?_
        rintro e w0 ⟨rfl, hb0⟩
        have B0 := Lib.hid hb0
        clear hb0
        go_wp2
        go_ret
        exact ⟨rfl, B0.out⟩
    · have hb' : (80 : Int) < (b.size : Int) := by omega
      clear hb
      go_enter Tryz.func7, Tryz.ntmps7
      go_wp2_with fail
      refine (small9_any B _).mono ?_
      rintro e w0 ⟨rfl, hb0⟩
      have B0 := Lib.hid hb0
      clear hb0
      go_wp2
      go_ret
      exact ⟨rfl, B0.out⟩
  · have ha' : (80 : Int) < (a.size : Int) := by omega
    clear ha
    go_enter Tryz.func7, Tryz.ntmps7
    go_wp2_with fail
    refine (small9_any B _).mono ?_
    rintro e w0 ⟨rfl, hb0⟩
    have B0 := Lib.hid hb0
    clear hb0
    go_wp2
    go_ret
    exact ⟨rfl, B0.out⟩
end Go.Proofs.YtbmgkfnoknomdaaGreat
