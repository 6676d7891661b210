/-
  Proved here: the law SpotTells, given what the program's five functions tell. Conditions: none.
-/
import Derived.Test.YtegldopmneoenaaDoorSpotFits
import Derived.Test.YtegldopmneoenaaDoorSpotRef
namespace Go.Proofs.YtegldopmneoenaaDoor
open Go.RowKit
namespace Spot
theorem half_is : Flt.quart 2 = 4602678819172646912 := by decide +kernel
theorem quarter_is : Flt.quart 1 = 4598175219545276416 := by decide +kernel
theorem quarter_back : (Ieee.double.read 4598175219545276416).opposite = Ieee.double.read (Flt.quart (-1)) := by decide +kernel
theorem add_half {v : Int} (hv : v.natAbs < 2 ^ 45) : floatBits .add .f64 (Flt.quart v) 4602678819172646912 = some (Flt.quart (v + 2)) := by
  rw [← half_is]
  exact Flt.sum_quart (by omega) (by decide) (by omega)
theorem sub_quarter {v : Int} (hv : v.natAbs < 2 ^ 45) : floatBits .sub .f64 (Flt.quart v) 4598175219545276416 = some (Flt.quart (v - 1)) := by
  have h := Flt.sum_quart (u := v) (v := -1) (by omega) (by decide) (by omega)
  have e : floatBits .sub .f64 (Flt.quart v) 4598175219545276416 = ((Ieee.double.read (Flt.quart v)).sum (Ieee.double.read 4598175219545276416).opposite).map Ieee.double.write := rfl
  rw [e, quarter_back]
  exact h
end Spot
set_option maxHeartbeats 8000000 in
set_option maxRecDepth 100000 in
theorem tells11_walk (B : SpotOk) (s : ByteArray) (k l c : Int) (w : World) (hT : Tabs w) : Calls Tryd.prog 3 #[.string s, .int .i64 k, .int .i64 l, .int .i64 c] w fun e w' => e = .returned (.bool true) ∧ Below w.heap.size w w' := by
  have T := Lib.hid hT
  clear hT
  by_cases hs : s.size ≤ 300 ∧ -5 ≤ l ∧ l ≤ 2199023255552 ∧ -5 ≤ c ∧ c ≤ 2199023255552
  case neg =>
    have hcs : decide ((300 : Int) < (s.size : Int)) = true ∨ (decide ((300 : Int) < (s.size : Int)) = false ∧ (decide (l < -5) = true ∨ (decide (l < -5) = false ∧ (decide ((2199023255552 : Int) < l) = true ∨ (decide ((2199023255552 : Int) < l) = false ∧ (decide (c < -5) = true ∨ (decide (c < -5) = false ∧ (decide ((2199023255552 : Int) < c) = true)))))))) := by
      by_cases h0 : (300 : Int) < (s.size : Int)
      · exact .inl (decide_eq_true h0)
      refine .inr ⟨decide_eq_false h0, ?_⟩
      by_cases h1 : l < -5
      · exact .inl (decide_eq_true h1)
      refine .inr ⟨decide_eq_false h1, ?_⟩
      by_cases h2 : (2199023255552 : Int) < l
      · exact .inl (decide_eq_true h2)
      refine .inr ⟨decide_eq_false h2, ?_⟩
      by_cases h3 : c < -5
      · exact .inl (decide_eq_true h3)
      refine .inr ⟨decide_eq_false h3, ?_⟩
      exact decide_eq_true (by omega)
    clear hs
    rcases hcs with q0 | ⟨q0, q1 | ⟨q1, q2 | ⟨q2, q3 | ⟨q3, q4⟩⟩⟩⟩
    all_goals
      go_enter Tryd.func3, Tryd.ntmps3
      go_wp2_with fail
      refine (small11_any B _ T.out).mono ?_
      rintro e w0 ⟨rfl, hb0⟩
      have B0 := Lib.hid hb0
      clear hb0
      go_wp2
      go_ret
      exact ⟨rfl, B0.out⟩
  obtain ⟨h1, h2, h3, h4, h5⟩ := hs
  have q0 : decide ((300 : Int) < (s.size : Int)) = false := decide_eq_false (by omega)
  have q1 : decide (l < -5) = false := decide_eq_false (by omega)
  have q2 : decide ((2199023255552 : Int) < l) = false := decide_eq_false (by omega)
  have q3 : decide (c < -5) = false := decide_eq_false (by omega)
  have q4 : decide ((2199023255552 : Int) < c) = false := decide_eq_false (by omega)
  obtain ⟨x, hx⟩ : ∃ x, Flt.quart (4 * l) = x := ⟨_, rfl⟩
  obtain ⟨y, hy⟩ : ∃ x, Flt.quart (4 * c) = x := ⟨_, rfl⟩
  obtain ⟨x2, hx2⟩ : ∃ x, Flt.quart (4 * l + 2) = x := ⟨_, rfl⟩
  obtain ⟨y2, hy2⟩ : ∃ x, Flt.quart (4 * c - 1) = x := ⟨_, rfl⟩
  have f1 : floatOfInt FloatKind.f64 l = x := by rw [← hx]; exact Flt.quart_int (by omega)
  have f2 : floatOfInt FloatKind.f64 c = y := by rw [← hy]; exact Flt.quart_int (by omega)
  have f3 : floatBits .add .f64 x 4602678819172646912 = some x2 := by rw [← hx, ← hx2]; exact Spot.add_half (by omega)
  have f4 : floatBits .sub .f64 y 4598175219545276416 = some y2 := by rw [← hy, ← hy2]; exact Spot.sub_quarter (by omega)
  have r3 := fun W : World => run_float_arith (P := Tryd.prog) W .add 24 .f64 _ _ _ f3
  have r4 := fun W : World => run_float_arith (P := Tryd.prog) W .sub 24 .f64 _ _ _ f4
  have hs1 : s.data.toList.length ≤ 300 := by simpa using h1
  obtain ⟨p, hp⟩ : ∃ p, Spot.steps s.data.toList (Spot.part (4 * l + 2)) (Spot.part (4 * c - 1)) = p := ⟨_, rfl⟩
  have pf := Spot.steps_few s.data.toList (Spot.part (4 * l + 2)) (Spot.part (4 * c - 1))
  have pl1 := Spot.part_lt (v := 4 * l + 2)
  have pl2 := Spot.part_lt (v := 4 * c - 1)
  rw [hp] at pf
  obtain ⟨q, hq⟩ : ∃ q, Spot.spot s.data.toList (Spot.cut s.data.toList k) = q := ⟨_, rfl⟩
  have qf := Spot.spot_bd s.data.toList (Spot.cut s.data.toList k)
  rw [hq] at qf
  obtain ⟨n, hn⟩ : ∃ n, Spot.cnt s.data.toList = n := ⟨_, rfl⟩
  obtain ⟨tx, ht⟩ : ∃ t, Spot.text (Spot.part (4 * l + 2)) (Spot.part (4 * c - 1)) = t := ⟨_, rfl⟩
  obtain ⟨a1, ha1⟩ : ∃ x, Flt.quart (4 * (p.1 : Int)) = x := ⟨_, rfl⟩
  obtain ⟨a2, ha2⟩ : ∃ x, Flt.quart (4 * (p.2 : Int)) = x := ⟨_, rfl⟩
  obtain ⟨b1, hb1⟩ : ∃ x, Flt.quart (4 * (q.1 : Int)) = x := ⟨_, rfl⟩
  obtain ⟨b2, hb2⟩ : ∃ x, Flt.quart (4 * (q.2 : Int)) = x := ⟨_, rfl⟩
  have o1 := Spot.same_order _ (show (4 * (p.1 : Int)).natAbs < 2 ^ 53 by omega) ha1
  have o2 := Spot.same_order _ (show (4 * (p.2 : Int)).natAbs < 2 ^ 53 by omega) ha2
  have o3 := Spot.same_order _ (show (4 * (q.1 : Int)).natAbs < 2 ^ 53 by omega) hb1
  have o4 := Spot.same_order _ (show (4 * (q.2 : Int)).natAbs < 2 ^ 53 by omega) hb2
  have K1 := Lib.hid (fun W => B.step_at _ _ s W (by omega) (by omega) (by omega) hp hx2 hy2 ha1 ha2)
  have K2 := Lib.hid (fun W => B.of_at s k W (by omega) hq hb1 hb2)
  have K3 := Lib.hid (fun W hW => B.lines_at s W hW (by omega) hn)
  have K4 := Lib.hid (fun W hW => B.text_at _ _ W hW (by omega) (by omega) hx2 hy2 ht)
  have R1 : ∀ W, Calls Tryd.prog 12 #[.complex .f64 x2 y2, .string s] W fun e w' => e = .returned (.complex .f64 a1 a2) ∧ W = w' := fun W => by
    have h := step11_any (4 * l + 2) (4 * c - 1) s W (by omega) (by omega) (by omega)
    rw [hp, hx2, hy2] at h
    unfold Spot.cx at h
    rwa [ha1, ha2] at h
  have R2 : ∀ W, Calls Tryd.prog 14 #[.string s, .int .i64 k] W fun e w' => e = .returned (.complex .f64 b1 b2) ∧ W = w' := fun W => by
    have h := of11_any s k W (by omega)
    rw [hq] at h
    unfold Spot.cx at h
    rwa [hb1, hb2] at h
  have R3 : ∀ W, Calls Tryd.prog 16 #[.string s] W fun e w' => e = .returned (.int .i64 (n : Int)) ∧ W = w' := fun W => by
    have h := lines11_any s W (by omega)
    rwa [hn] at h
  have R4 : ∀ W, Calls Tryd.prog 18 #[.complex .f64 x2 y2] W fun e w' => e = .returned (.string ⟨tx.toArray⟩) ∧ W = w' := fun W => by
    have h := text11_any (4 * l + 2) (4 * c - 1) W (by omega) (by omega)
    rwa [ht, hx2, hy2] at h
  have KP := fun W => B.place s (4 * l) (4 * c) W (by omega) (by omega) (by omega)
  have RP := fun W => place11_any s (4 * l) (4 * c) W (by omega) (by omega) (by omega)
  rw [hx, hy] at KP RP
  generalize Spot.place s.data.toList (4 * l) (4 * c) = o at KP RP
  have R1 := Lib.hid R1
  have R2 := Lib.hid R2
  have R3 := Lib.hid R3
  have R4 := Lib.hid R4
  clear f3 f4 hx hy hx2 hy2 hs1 hp pf pl1 pl2 hq qf hn ht ha1 ha2 hb1 hb2 h1 h2 h3 h4 h5
  cases o with
  | none =>
    unfold Spot.placeV at KP RP
    have KP := Lib.hid KP
    have RP := Lib.hid RP
    go_enter Tryd.func3, Tryd.ntmps3
    go_wp2_with fail
    refine (small11_any B _ T.out).mono ?_
    rintro e w0 ⟨rfl, hb0⟩
    have B0 := Lib.hid hb0
    clear hb0
    go_wp2_with fail
    with_reducible refine (KP.out _).mono ?_
    rintro e w1 ⟨rfl, hb⟩
    have B1 := Lib.hid (below_then B0.out hb)
    clear hb
    go_wp2_with fail
    with_reducible refine (RP.out _).mono ?_
    rintro e w9 ⟨rfl, rfl⟩
    go_wp2_with fail
    with_reducible refine (K1.out _).mono ?_
    rintro e w2 ⟨rfl, hb⟩
    have B2 := Lib.hid (below_then B1.out hb)
    clear hb
    go_wp2_with fail
    with_reducible refine (R1.out _).mono ?_
    rintro e w9 ⟨rfl, rfl⟩
    go_wp2_with fail
    with_reducible refine (K2.out _).mono ?_
    rintro e w3 ⟨rfl, hb⟩
    have B3 := Lib.hid (below_then B2.out hb)
    clear hb
    go_wp2_with fail
    with_reducible refine (R2.out _).mono ?_
    rintro e w9 ⟨rfl, rfl⟩
    go_wp2_with fail
    with_reducible refine (K3.out _ (tabs_keep T.out B3.out)).mono ?_
    rintro e w4 ⟨rfl, hb⟩
    have B4 := Lib.hid (below_then B3.out hb)
    clear hb
    go_wp2_with fail
    with_reducible refine (R3.out _).mono ?_
    rintro e w9 ⟨rfl, rfl⟩
    go_wp2_with fail
    with_reducible refine (K4.out _ (tabs_keep T.out B4.out)).mono ?_
    rintro e w5 ⟨rfl, hb⟩
    have B5 := Lib.hid (below_then B4.out hb)
    clear hb
    go_wp2_with fail
    with_reducible refine (R4.out _).mono ?_
    rintro e w9 ⟨rfl, rfl⟩
    go_wp2
    go_ret
    exact ⟨rfl, B5.out⟩
  | some j =>
    unfold Spot.placeV at KP RP
    have KP := Lib.hid KP
    have RP := Lib.hid RP
    go_enter Tryd.func3, Tryd.ntmps3
    go_wp2_with fail
    refine (small11_any B _ T.out).mono ?_
    rintro e w0 ⟨rfl, hb0⟩
    have B0 := Lib.hid hb0
    clear hb0
    go_wp2_with fail
    with_reducible refine (KP.out _).mono ?_
    rintro e w1 ⟨rfl, hb⟩
    have B1 := Lib.hid (below_then B0.out hb)
    clear hb
    go_wp2_with fail
    with_reducible refine (RP.out _).mono ?_
    rintro e w9 ⟨rfl, rfl⟩
    go_wp2_with fail
    with_reducible refine (K1.out _).mono ?_
    rintro e w2 ⟨rfl, hb⟩
    have B2 := Lib.hid (below_then B1.out hb)
    clear hb
    go_wp2_with fail
    with_reducible refine (R1.out _).mono ?_
    rintro e w9 ⟨rfl, rfl⟩
    go_wp2_with fail
    with_reducible refine (K2.out _).mono ?_
    rintro e w3 ⟨rfl, hb⟩
    have B3 := Lib.hid (below_then B2.out hb)
    clear hb
    go_wp2_with fail
    with_reducible refine (R2.out _).mono ?_
    rintro e w9 ⟨rfl, rfl⟩
    go_wp2_with fail
    with_reducible refine (K3.out _ (tabs_keep T.out B3.out)).mono ?_
    rintro e w4 ⟨rfl, hb⟩
    have B4 := Lib.hid (below_then B3.out hb)
    clear hb
    go_wp2_with fail
    with_reducible refine (R3.out _).mono ?_
    rintro e w9 ⟨rfl, rfl⟩
    go_wp2_with fail
    with_reducible refine (K4.out _ (tabs_keep T.out B4.out)).mono ?_
    rintro e w5 ⟨rfl, hb⟩
    have B5 := Lib.hid (below_then B4.out hb)
    clear hb
    go_wp2_with fail
    with_reducible refine (R4.out _).mono ?_
    rintro e w9 ⟨rfl, rfl⟩
    go_wp2
    go_ret
    exact ⟨rfl, B5.out⟩
end Go.Proofs.YtegldopmneoenaaDoor
