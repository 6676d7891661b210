/-
  Proved here: the law SpotParts, given what the program's five functions tell. Conditions: none.
-/
import Derived.Test.YtegldopmneoenaaDoorSpotFits
namespace Go.Proofs.YtegldopmneoenaaDoor
open Go.RowKit
theorem wf_u16 {n : Int} (h : (Lit.int .u16 n).wf = true) : 0 ≤ n ∧ n ≤ 65535 := by
  simp only [Lit.wf, Bool.and_eq_true, decide_eq_true_eq] at h
  exact h
namespace Spot
theorem part_whole {n : Nat} (h : n ≤ 100000) : part (4 * (n : Int)) = n := by
  unfold part
  rw [if_neg (by omega)]
  split <;> omega
theorem last_is {a : ByteArray} (h : 0 < a.size) : a.data.toList.getLast? = some a[a.size - 1] := by
  rw [List.getLast?_eq_getElem?, List.getElem?_eq_getElem (by simp; omega)]
  simp
  rfl
theorem head_is {b : ByteArray} (h : 0 < b.size) : b.data.toList.head? = some b[0] := by
  rw [List.head?_eq_getElem?, List.getElem?_eq_getElem (by simpa using h)]
  rfl
end Spot
set_option maxHeartbeats 8000000 in
set_option maxRecDepth 100000 in
theorem parts11_walk (B : SpotOk) (a b : ByteArray) (l c : Int) (w : World) (hT : Tabs w) (hl : 0 ≤ l ∧ l ≤ 65535) (hc : 0 ≤ c ∧ c ≤ 65535) : Calls Tryd.prog 5 #[.string a, .string b, .int .u16 l, .int .u16 c] w fun e w' => e = .returned (.bool true) ∧ Below w.heap.size w w' := by
  have T := Lib.hid hT
  clear hT
  have hsa : a.data.toList.length = a.size := by simp
  have hsb : b.data.toList.length = b.size := by simp
  by_cases ha : a.size ≤ 300
  case neg =>
    have q0 : (300 : Int) < (a.size : Int) := by omega
    go_enter Tryd.func5, Tryd.ntmps5
    go_wp2_with fail
    refine (small11_any B _ T.out).mono ?_
    rintro e w0 ⟨rfl, hb0⟩
    have B0 := Lib.hid hb0
    clear hb0
    go_wp2
    go_ret
    exact ⟨rfl, B0.out⟩
  by_cases hb : b.size ≤ 300
  case neg =>
    have q0 : ¬ (300 : Int) < (a.size : Int) := by omega
    have q0' : decide ((300 : Int) < (a.size : Int)) = false := decide_eq_false q0
    have q1 : decide ((300 : Int) < (b.size : Int)) = true := decide_eq_true (by omega)
    go_enter Tryd.func5, Tryd.ntmps5
    go_wp2_with fail
    refine (small11_any B _ T.out).mono ?_
    rintro e w0 ⟨rfl, hb0⟩
    have B0 := Lib.hid hb0
    clear hb0
    go_wp2
    go_ret
    exact ⟨rfl, B0.out⟩
  have q0 : decide ((300 : Int) < (a.size : Int)) = false := decide_eq_false (by omega)
  have q1 : decide ((300 : Int) < (b.size : Int)) = false := decide_eq_false (by omega)
  by_cases hcut : 0 < a.size ∧ 0 < b.size ∧ a.data.toList.getLast? = some 13 ∧ b.data.toList.head? = some 10
  · obtain ⟨h1, h2, h3, h4⟩ := hcut
    rw [Spot.last_is h1] at h3
    rw [Spot.head_is h2] at h4
    injection h3 with h3
    injection h4 with h4
    have e3 : ((a[a.size - 1].toNat : Int) == 13) = true := by rw [h3]; rfl
    have e4 : ((b[0].toNat : Int) == 10) = true := by rw [h4]; rfl
    have z1 : (0 : Int) < (a.size : Int) := by omega
    have z2 : (0 : Int) < (b.size : Int) := by omega
    have z3 : decide (0 < a.size) = true := decide_eq_true h1
    have z4 : decide (0 < b.size) = true := decide_eq_true h2
    clear h3 h4
    go_enter Tryd.func5, Tryd.ntmps5
    go_wp2_with fail
    refine (small11_any B _ T.out).mono ?_
    rintro e w0 ⟨rfl, hb0⟩
    have B0 := Lib.hid hb0
    clear hb0
    go_wp2
    go_ret
    exact ⟨rfl, B0.out⟩
  have happ : ¬ (a.data.toList.getLast? = some 13 ∧ b.data.toList.head? = some 10) := fun h => by
    refine hcut ⟨?_, ?_, h.1, h.2⟩
    · rcases Nat.eq_zero_or_pos a.size with h0 | h0
      · rw [List.eq_nil_of_length_eq_zero (hsa.trans h0)] at h; exact absurd h.1 (by simp)
      · exact h0
    · rcases Nat.eq_zero_or_pos b.size with h0 | h0
      · rw [List.eq_nil_of_length_eq_zero (hsb.trans h0)] at h; exact absurd h.2 (by simp)
      · exact h0
  obtain ⟨n1, rfl⟩ : ∃ n : Nat, l = n := ⟨l.toNat, by omega⟩
  obtain ⟨n2, rfl⟩ : ∃ n : Nat, c = n := ⟨c.toNat, by omega⟩
  have hst := Spot.steps_app a.data.toList b.data.toList n1 n2 happ
  have hln := Spot.steps_line a.data.toList n1 n2
  have hfw := Spot.steps_few a.data.toList n1 n2
  have hcf := Spot.cnt_few a.data.toList
  obtain ⟨S, hS⟩ : ∃ S : ByteArray, S = a ++ b := ⟨_, rfl⟩
  have hSb : S.data.toList = a.data.toList ++ b.data.toList := by rw [hS, ByteArray.data_append, Array.toList_append]
  have hSs : S.size ≤ 600 := by rw [hS, ByteArray.size_append]; omega
  obtain ⟨p, hp⟩ : ∃ p, Spot.steps a.data.toList n1 n2 = p := ⟨_, rfl⟩
  obtain ⟨q, hq⟩ : ∃ q, Spot.steps b.data.toList p.1 p.2 = q := ⟨_, rfl⟩
  obtain ⟨n, hn⟩ : ∃ n, Spot.cnt a.data.toList = n := ⟨_, rfl⟩
  rw [hp, hq, ← hSb] at hst
  rw [hp, hn] at hln
  rw [hp] at hfw
  rw [hn] at hcf
  have hqf := Spot.steps_few b.data.toList p.1 p.2
  rw [hq] at hqf
  obtain ⟨x, hx⟩ : ∃ x, Flt.quart (4 * (n1 : Int)) = x := ⟨_, rfl⟩
  obtain ⟨y, hy⟩ : ∃ x, Flt.quart (4 * (n2 : Int)) = x := ⟨_, rfl⟩
  obtain ⟨x2, hx2⟩ : ∃ x, Flt.quart (4 * (p.1 : Int)) = x := ⟨_, rfl⟩
  obtain ⟨y2, hy2⟩ : ∃ x, Flt.quart (4 * (p.2 : Int)) = x := ⟨_, rfl⟩
  obtain ⟨x3, hx3⟩ : ∃ x, Flt.quart (4 * (q.1 : Int)) = x := ⟨_, rfl⟩
  obtain ⟨y3, hy3⟩ : ∃ x, Flt.quart (4 * (q.2 : Int)) = x := ⟨_, rfl⟩
  obtain ⟨z, hz⟩ : ∃ x, Flt.quart (4 * (n : Int)) = x := ⟨_, rfl⟩
  have f1 : floatOfInt FloatKind.f64 (n1 : Int) = x := by rw [← hx]; exact Flt.quart_int (by omega)
  have f2 : floatOfInt FloatKind.f64 (n2 : Int) = y := by rw [← hy]; exact Flt.quart_int (by omega)
  have f3 : floatOfInt FloatKind.f64 (n : Int) = z := by rw [← hz]; exact Flt.quart_int (by omega)
  have f4 : floatBits .add .f64 x z = some x2 := by
    rw [← hx, ← hz, ← hx2, hln]
    have := Flt.sum_quart (u := 4 * (n1 : Int)) (v := 4 * (n : Int)) (by omega) (by omega) (by omega)
    rw [show 4 * (n1 : Int) + 4 * (n : Int) = 4 * ((n1 + n : Nat) : Int) by omega] at this
    exact this
  have f5 := fun W : World => run_float_arith (P := Tryd.prog) W .add 24 .f64 x z x2 f4
  have o2 := Spot.same_order _ (show (4 * (p.1 : Int)).natAbs < 2 ^ 53 by omega) hx2
  have o3 := Spot.same_order _ (show (4 * (q.1 : Int)).natAbs < 2 ^ 53 by omega) hx3
  have o4 := Spot.same_order _ (show (4 * (q.2 : Int)).natAbs < 2 ^ 53 by omega) hy3
  have K1 := Lib.hid (fun W => B.step_at _ _ a W (by omega) (by omega) (by omega) (p := p) (by rw [Spot.part_whole (by omega), Spot.part_whole (by omega)]; exact hp) hx hy hx2 hy2)
  have K2 := Lib.hid (fun W => B.step_at _ _ b W (by omega) (by omega) (by omega) (p := q) (by rw [Spot.part_whole (by omega), Spot.part_whole (by omega)]; exact hq) hx2 hy2 hx3 hy3)
  have K3 := Lib.hid (fun W => B.step_at _ _ S W (by omega) (by omega) (by omega) (p := q) (by rw [Spot.part_whole (by omega), Spot.part_whole (by omega)]; exact hst) hx hy hx3 hy3)
  have K4 := Lib.hid (fun W hW => B.lines_at a W hW (by omega) hn)
  rw [hS] at K3
  have hconds : (decide (0 < a.size) = false) ∨ (0 < a.size ∧ decide (0 < a.size) = true ∧ (∃ h : 0 < a.size, ((a[a.size - 1].toNat : Int) == 13) = false)) ∨ (0 < a.size ∧ decide (0 < a.size) = true ∧ (∃ h : 0 < a.size, ((a[a.size - 1].toNat : Int) == 13) = true) ∧ decide (0 < b.size) = false) ∨
      (0 < a.size ∧ decide (0 < a.size) = true ∧ (∃ h : 0 < a.size, ((a[a.size - 1].toNat : Int) == 13) = true) ∧ 0 < b.size ∧ decide (0 < b.size) = true ∧ (∃ h : 0 < b.size, ((b[0].toNat : Int) == 10) = false)) := by
    by_cases h1 : 0 < a.size
    · refine .inr ?_
      cases e3 : ((a[a.size - 1].toNat : Int) == 13) with
      | false => exact .inl ⟨h1, decide_eq_true h1, h1, e3⟩
      | true =>
        refine .inr ?_
        by_cases h2 : 0 < b.size
        · refine .inr ⟨h1, decide_eq_true h1, ⟨h1, e3⟩, h2, decide_eq_true h2, h2, ?_⟩
          rw [beq_eq_false_iff_ne]
          intro e4
          refine happ ⟨?_, ?_⟩
          · rw [Spot.last_is h1]
            rw [beq_iff_eq] at e3
            exact congrArg some (UInt8.toNat_inj.1 (by rw [show (13 : UInt8).toNat = 13 from rfl]; omega))
          · rw [Spot.head_is h2]
            exact congrArg some (UInt8.toNat_inj.1 (by rw [show (10 : UInt8).toNat = 10 from rfl]; omega))
        · exact .inl ⟨h1, decide_eq_true h1, ⟨h1, e3⟩, decide_eq_false h2⟩
    · exact .inl (decide_eq_false h1)
  have g1 : ¬ 9223372036854775807 < a.size + b.size := by omega
  have g2 : ¬ (9223372036854775807 : Int) < (a.size : Int) + (b.size : Int) := by omega
  have hsaz : (a.size : Int) ≤ 300 := by omega
  have hsbz : (b.size : Int) ≤ 300 := by omega
  clear hx hy hx2 hy2 hx3 hy3 hz hn hp hq hst hln hfw hcf hqf hSb hSs hS happ hcut f4 hl hc
  rcases hconds with z3 | ⟨z1, z3, z1', e3⟩ | ⟨z1, z3, ⟨z1', e3⟩, z4⟩ | ⟨z1, z3, ⟨z1', e3⟩, z2, z4, z2', e4⟩
  all_goals
    (try have z1z : (0 : Int) < (a.size : Int) := by omega)
    (try have z2z : (0 : Int) < (b.size : Int) := by omega)
    go_enter Tryd.func5, Tryd.ntmps5
    go_wp2_with fail
    refine (small11_any B _ T.out).mono ?_
    rintro e w0 ⟨rfl, hb0⟩
    have B0 := Lib.hid hb0
    clear hb0
    go_wp2_with fail
    with_reducible refine (K1.out _).mono ?_
    rintro e w1 ⟨rfl, hb⟩
    have B1 := Lib.hid (below_then B0.out hb)
    clear hb
    go_wp2_with fail
    with_reducible refine (K2.out _).mono ?_
    rintro e w2 ⟨rfl, hb⟩
    have B2 := Lib.hid (below_then B1.out hb)
    clear hb
    go_wp2_with fail
    with_reducible refine (K3.out _).mono ?_
    rintro e w3 ⟨rfl, hb⟩
    have B3 := Lib.hid (below_then B2.out hb)
    clear hb
    go_wp2_with fail
    with_reducible refine (K1.out _).mono ?_
    rintro e w4 ⟨rfl, hb⟩
    have B4 := Lib.hid (below_then B3.out hb)
    clear hb
    go_wp2_with fail
    with_reducible refine (K4.out _ (tabs_keep T.out B4.out)).mono ?_
    rintro e w5 ⟨rfl, hb⟩
    have B5 := Lib.hid (below_then B4.out hb)
    clear hb
    go_wp2
    go_ret
    exact ⟨rfl, B5.out⟩
end Go.Proofs.YtegldopmneoenaaDoor
