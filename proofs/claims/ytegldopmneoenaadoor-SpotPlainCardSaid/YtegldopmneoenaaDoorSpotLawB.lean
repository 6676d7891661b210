/-
  Proved here: the law SpotPlain, given what the program's five functions tell. Conditions: none.
-/
import Derived.Test.YtegldopmneoenaaDoorSpotFits
namespace Go.Proofs.YtegldopmneoenaaDoor
open Go.RowKit
set_option maxHeartbeats 8000000 in
set_option maxRecDepth 100000 in
theorem plain11_walk (B : SpotOk) (s : ByteArray) (i : Int) (w : World) (hT : Tabs w) : Calls Tryd.prog 6 #[.string s, .int .i64 i] w fun e w' => e = .returned (.bool true) ∧ Below w.heap.size w w' := by
  have T := Lib.hid hT
  clear hT
  have hsl : s.data.toList.length = s.size := by simp
  by_cases h1 : s.size ≤ 300
  case neg =>
    have q0 : decide ((300 : Int) < (s.size : Int)) = true := decide_eq_true (by omega)
    have q0' : (300 : Int) < (s.size : Int) := by omega
    go_enter Tryd.func6, Tryd.ntmps6
    go_wp2_with fail
    refine (small11_any B _ T.out).mono ?_
    rintro e w0 ⟨rfl, hb0⟩
    have B0 := Lib.hid hb0
    clear hb0
    go_wp2
    go_ret
    exact ⟨rfl, B0.out⟩
  have q0 : decide ((300 : Int) < (s.size : Int)) = false := decide_eq_false (by omega)
  obtain ⟨n, hn⟩ : ∃ n, Spot.cnt s.data.toList = n := ⟨_, rfl⟩
  have KL := Lib.hid (fun W hW => B.lines_at s W hW (by omega) hn)
  by_cases h2 : n = 0 ∧ 0 ≤ i ∧ i ≤ (s.size : Int)
  case neg =>
    have hcs : decide ((0 : Int) < (n : Int)) = true ∨ (decide ((0 : Int) < (n : Int)) = false ∧ (decide (i < 0) = true ∨ (decide (i < 0) = false ∧ decide ((s.size : Int) < i) = true))) := by
      by_cases h0 : (0 : Int) < (n : Int)
      · exact .inl (decide_eq_true h0)
      refine .inr ⟨decide_eq_false h0, ?_⟩
      by_cases h3 : i < 0
      · exact .inl (decide_eq_true h3)
      refine .inr ⟨decide_eq_false h3, ?_⟩
      exact decide_eq_true (by omega)
    clear h2 hn hsl
    have hnn : decide (0 < n) = decide ((0 : Int) < (n : Int)) := by rw [Bool.eq_iff_iff, decide_eq_true_eq, decide_eq_true_eq]; omega
    rcases hcs with q1 | ⟨q1, q2 | ⟨q2, q3⟩⟩ <;> rw [q1] at hnn
    all_goals
      go_enter Tryd.func6, Tryd.ntmps6
      go_wp2_with fail
      refine (small11_any B _ T.out).mono ?_
      rintro e w0 ⟨rfl, hb0⟩
      have B0 := Lib.hid hb0
      clear hb0
      go_wp2_with fail
      with_reducible refine (KL.out _ (tabs_keep T.out B0.out)).mono ?_
      rintro e w1 ⟨rfl, hb⟩
      have B1 := Lib.hid (below_then B0.out hb)
      clear hb
      go_wp2
      go_ret
      exact ⟨rfl, B1.out⟩
  obtain ⟨rfl, h3, h4⟩ := h2
  have q2 : decide (i < 0) = false := decide_eq_false (by omega)
  have q3 : decide ((s.size : Int) < i) = false := decide_eq_false (by omega)
  obtain ⟨k, rfl⟩ : ∃ k : Nat, i = k := ⟨i.toNat, by omega⟩
  have r1 : decide (s.size < k) = false := decide_eq_false (by omega)
  have hk : k ≤ s.data.toList.length := by omega
  have ck := Spot.cut_nat hk
  have hflat : ∀ j, j ≤ s.data.toList.length → Spot.spot s.data.toList j = (0, j) := fun j hj => by
    unfold Spot.spot
    rw [Spot.steps_flat _ _ _ (by have := Spot.cnt_take s.data.toList j; omega), List.length_take, Nat.min_eq_left hj, Nat.zero_add]
  have pk := Spot.place_spot hk
  rw [hflat k hk] at pk
  have hof : Spot.spot s.data.toList (Spot.cut s.data.toList (k : Int)) = (0, k) := by rw [ck]; exact hflat k hk
  have pn : Spot.place s.data.toList 4 0 = none := Spot.place_none (fun j hj => by
    unfold Spot.isAt
    rw [hflat j hj]
    rfl)
  obtain ⟨x, hx⟩ : ∃ x, Flt.quart (4 * (k : Int)) = x := ⟨_, rfl⟩
  have q1 : floatOfInt FloatKind.f64 (k : Int) = x := by rw [← hx]; exact Flt.quart_int (by omega)
  have o1 := Spot.same_order _ (show (4 * (k : Int)).natAbs < 2 ^ 53 by omega) hx
  have o0 := Spot.same_order 0 (by decide) Spot.zero_is
  have K1 := Lib.hid (fun W => B.place_at s _ _ W (by omega) (by decide) (by omega) Spot.zero_is hx pk)
  have K2 := Lib.hid (fun W => B.place_not s 4 0 W (by omega) (by decide) (by decide) Spot.q4 Spot.zero_is pn)
  have K3 := Lib.hid (fun W => B.of_at s (k : Int) W (by omega) hof Spot.zero_is hx)
  clear hx pk pn hof hflat ck hk h3 h4 hn hsl
  go_enter Tryd.func6, Tryd.ntmps6
  go_wp2_with fail
  refine (small11_any B _ T.out).mono ?_
  rintro e w0 ⟨rfl, hb0⟩
  have B0 := Lib.hid hb0
  clear hb0
  go_wp2_with fail
  with_reducible refine (KL.out _ (tabs_keep T.out B0.out)).mono ?_
  rintro e w1 ⟨rfl, hb⟩
  have B1 := Lib.hid (below_then B0.out hb)
  clear hb
  go_wp2_with fail
  with_reducible refine (K1.out _).mono ?_
  rintro e w2 ⟨rfl, hb⟩
  have B2 := Lib.hid (below_then B1.out hb)
  clear hb
  go_wp2_with fail
  with_reducible refine (K2.out _).mono ?_
  rintro e w3 ⟨rfl, hb⟩
  have B3 := Lib.hid (below_then B2.out hb)
  clear hb
  go_wp2_with fail
  with_reducible refine (K3.out _).mono ?_
  rintro e w4 ⟨rfl, hb⟩
  have B4 := Lib.hid (below_then B3.out hb)
  clear hb
  go_wp2
  go_ret
  exact ⟨rfl, B4.out⟩
end Go.Proofs.YtegldopmneoenaaDoor
