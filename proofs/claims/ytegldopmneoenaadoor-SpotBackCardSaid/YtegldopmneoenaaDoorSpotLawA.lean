/-
  Proved here: the law SpotBack, given what the program's five functions tell. Conditions: none.
-/
import Derived.Test.YtegldopmneoenaaDoorSpotFits
namespace Go.Proofs.YtegldopmneoenaaDoor
open Go.RowKit
set_option maxHeartbeats 8000000 in
set_option maxRecDepth 100000 in
theorem back11_walk (B : SpotOk) (s : ByteArray) (i j : Int) (w : World) (hT : Tabs w) : Calls Tryd.prog 4 #[.string s, .int .i64 i, .int .i64 j] w fun e w' => e = .returned (.bool true) ∧ Below w.heap.size w w' := by
  have T := Lib.hid hT
  clear hT
  have hsl : s.data.toList.length = s.size := by simp
  by_cases hs : s.size ≤ 300 ∧ 0 ≤ i ∧ i ≤ (s.size : Int) ∧ i < j ∧ j ≤ (s.size : Int)
  case neg =>
    have hcs : decide ((300 : Int) < (s.size : Int)) = true ∨ (decide ((300 : Int) < (s.size : Int)) = false ∧ (decide (i < 0) = true ∨ (decide (i < 0) = false ∧ (decide ((s.size : Int) < i) = true ∨ (decide ((s.size : Int) < i) = false ∧ (decide (j ≤ i) = true ∨ (decide (j ≤ i) = false ∧ (decide ((s.size : Int) < j) = true)))))))) := by
      by_cases h0 : (300 : Int) < (s.size : Int)
      · exact .inl (decide_eq_true h0)
      refine .inr ⟨decide_eq_false h0, ?_⟩
      by_cases h1 : i < 0
      · exact .inl (decide_eq_true h1)
      refine .inr ⟨decide_eq_false h1, ?_⟩
      by_cases h2 : (s.size : Int) < i
      · exact .inl (decide_eq_true h2)
      refine .inr ⟨decide_eq_false h2, ?_⟩
      by_cases h3 : j ≤ i
      · exact .inl (decide_eq_true h3)
      refine .inr ⟨decide_eq_false h3, ?_⟩
      exact decide_eq_true (by omega)
    clear hs
    rcases hcs with q0 | ⟨q0, q1 | ⟨q1, q2 | ⟨q2, q3 | ⟨q3, q4⟩⟩⟩⟩
    all_goals
      go_enter Tryd.func4, Tryd.ntmps4
      go_wp2_with fail
      refine (small11_any B _ T.out).mono ?_
      rintro e w0 ⟨rfl, hb0⟩
      have B0 := Lib.hid hb0
      clear hb0
      go_wp2
      go_ret
      exact ⟨rfl, B0.out⟩
  obtain ⟨h1, h2, h3, h4, h5⟩ := hs
  have q0 : decide ((300 : Int) < (s.size : Int)) = false := decide_eq_false (by omega)
  have q1 : decide (i < 0) = false := decide_eq_false (by omega)
  have q2 : decide ((s.size : Int) < i) = false := decide_eq_false (by omega)
  have q3 : decide (j ≤ i) = false := decide_eq_false (by omega)
  have q4 : decide ((s.size : Int) < j) = false := decide_eq_false (by omega)
  obtain ⟨k, rfl⟩ : ∃ k : Nat, i = k := ⟨i.toNat, by omega⟩
  obtain ⟨l, rfl⟩ : ∃ l : Nat, j = l := ⟨j.toNat, by omega⟩
  have r1 : decide (s.size < k) = false := decide_eq_false (by omega)
  have r2 : decide (s.size < l) = false := decide_eq_false (by omega)
  have r3 : decide (l ≤ k) = false := decide_eq_false (by omega)
  have hk : k ≤ s.data.toList.length := by omega
  have hl : l ≤ s.data.toList.length := by omega
  have ck := Spot.cut_nat hk
  have cl := Spot.cut_nat hl
  have bk := Spot.spot_bd s.data.toList k
  have bl := Spot.spot_bd s.data.toList l
  have hrise := Spot.spot_rise (bs := s.data.toList) (k := k) (j := l) (by omega) hl
  have pk := Spot.place_spot hk
  have pl := Spot.place_spot hl
  have hof1 : Spot.spot s.data.toList (Spot.cut s.data.toList (k : Int)) = Spot.spot s.data.toList k := by rw [ck]
  have hof2 : Spot.spot s.data.toList (Spot.cut s.data.toList (l : Int)) = Spot.spot s.data.toList l := by rw [cl]
  generalize Spot.spot s.data.toList k = p at hof1 bk pk hrise
  generalize Spot.spot s.data.toList l = q at hof2 bl pl hrise
  obtain ⟨a1, ha1⟩ : ∃ x, Flt.quart (4 * (p.1 : Int)) = x := ⟨_, rfl⟩
  obtain ⟨a2, ha2⟩ : ∃ x, Flt.quart (4 * (p.2 : Int)) = x := ⟨_, rfl⟩
  obtain ⟨b1, hb1⟩ : ∃ x, Flt.quart (4 * (q.1 : Int)) = x := ⟨_, rfl⟩
  obtain ⟨b2, hb2⟩ : ∃ x, Flt.quart (4 * (q.2 : Int)) = x := ⟨_, rfl⟩
  have o1 : FloatKind.f64.format.order b1 a1 = some (compare (4 * (q.1 : Int)) (4 * (p.1 : Int))) := by rw [← hb1, ← ha1]; exact Flt.order_quart (by omega) (by omega)
  have o2 : FloatKind.f64.format.order b2 a2 = some (compare (4 * (q.2 : Int)) (4 * (p.2 : Int))) := by rw [← hb2, ← ha2]; exact Flt.order_quart (by omega) (by omega)
  have hord : FloatKind.f64.format.order b1 a1 = some .gt ∨ (FloatKind.f64.format.order b1 a1 = some .eq ∧ FloatKind.f64.format.order b2 a2 = some .gt) := by
    rw [o1, o2]
    rcases hrise with h | ⟨h, h'⟩
    · exact .inl (by rw [Int.compare_eq_gt.2 (by omega)])
    · exact .inr ⟨by rw [Int.compare_eq_eq.2 (by omega)], by rw [Int.compare_eq_gt.2 (by omega)]⟩
  have K1 := Lib.hid (fun W => B.of_at s (k : Int) W (by omega) hof1 ha1 ha2)
  have K2 := Lib.hid (fun W => B.of_at s (l : Int) W (by omega) hof2 hb1 hb2)
  have K3 := Lib.hid (fun W => B.place_at s _ _ W (by omega) (by omega) (by omega) ha1 ha2 pk)
  have K4 := Lib.hid (fun W => B.place_at s _ _ W (by omega) (by omega) (by omega) hb1 hb2 pl)
  clear o1 o2 ha1 ha2 hb1 hb2 pk pl bk bl hrise hof1 hof2 ck cl hk hl hsl h1 h2 h3 h4 h5
  rcases hord with g1 | ⟨g1, g2⟩
  all_goals
    go_enter Tryd.func4, Tryd.ntmps4
    go_wp2_with fail
    refine (small11_any B _ T.out).mono ?_
    rintro e w0 ⟨rfl, hb0⟩
    have B0 := Lib.hid hb0
    clear hb0
    go_wp2_with fail
    with_reducible refine (K1.out _).mono ?_
    rintro e w1 ⟨rfl, hb⟩
    have B1 := Lib.hid (below_then B0.out hb)
    clear hb
    go_wp2_with fail
    with_reducible refine (K2.out _).mono ?_
    rintro e w2 ⟨rfl, hb⟩
    have B2 := Lib.hid (below_then B1.out hb)
    clear hb
    go_wp2_with fail
    with_reducible refine (K3.out _).mono ?_
    rintro e w3 ⟨rfl, hb⟩
    have B3 := Lib.hid (below_then B2.out hb)
    clear hb
    go_wp2_with fail
    with_reducible refine (K4.out _).mono ?_
    rintro e w4 ⟨rfl, hb⟩
    have B4 := Lib.hid (below_then B3.out hb)
    clear hb
    go_wp2
    go_ret
    exact ⟨rfl, B4.out⟩
end Go.Proofs.YtegldopmneoenaaDoor
