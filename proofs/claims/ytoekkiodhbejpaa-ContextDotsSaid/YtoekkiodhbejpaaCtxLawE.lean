/-
  Proved here: the law ContextDots, given what the program's Need, All and Needs tell. Conditions: the slice can be read.
-/
import Derived.Test.YtoekkiodhbejpaaCtxSmall
import Derived.Deep.RegionHeld3
namespace Go.Proofs.Ytoekkiodhbejpaa
open Go.RowKit
set_option maxHeartbeats 8000000 in
set_option maxRecDepth 100000 in
theorem dots7_walk (B : CtxOk) (S7 : Small7) (v : Value) (l : List Int) (w : World) (hl : Runes v l w) : Calls Try.prog 7 #[v] w fun e w' => e = .returned (.bool true) ∧ Below w.heap.size w w' := by
  have HL := Lib.hid hl
  obtain ⟨A, c, rfl, -, hcell⟩ := hl.form
  have HC := Lib.hid hcell
  clear hl hcell
  by_cases hn : l.length ≤ 100
  · have hnz : ¬ (100 : Int) < (l.length : Int) := by omega
    by_cases h0 : l.length = 0
    · have h0z : ¬ (0 : Int) < (l.length : Int) := by omega
      obtain ⟨d1, d2⟩ := Ctx.dots (l := l) (fun k hk => by omega)
      have D1 := Lib.hid d1
      have D2 := Lib.hid d2
      clear d1 d2 h0
      go_enter Try.func7, Try.ntmps7
      go_wp2_with fail
      refine (S7 _).mono ?_
      rintro e w0 ⟨rfl, hb0⟩
      have B0 := Lib.hid hb0
      clear hb0
      go_wp2_with fail
      refine (new_any _).mono ?_
      rintro e w1 ⟨tt, rfl, hT, hb1⟩
      have hT' := hT
      obtain ⟨b0, b1, b2, b3, rfl, -, -, -, -⟩ := hT'
      have K0 := Lib.hid (kept_new (b0 := b0) (b1 := b1) (b2 := b2) (b3 := b3) (below_then B0.out hb1) hT 29)
      clear hT hb1 B0
      obtain ⟨W0, hW0⟩ : ∃ W0, W0 = w1.alloc (.cells #[.slice (some ⟨b0, 0, none⟩) 74 74, .slice (some ⟨b1, 0, none⟩) 10 10, .slice (some ⟨b2, 0, none⟩) 11 11, .slice (some ⟨b3, 0, none⟩) 42 42] 29) := ⟨_, rfl⟩
      have hN0 : W0.heap.size = w1.heap.size + 1 := by rw [hW0]; simp
      rw [← hW0] at K0
      have HW0 := Lib.hid hW0
      have hown := own_empty W0 W0.heap.size (Nat.le_refl _)
      rw [hN0] at hown
      have OW := Lib.hid hown
      have HN0 := Lib.hid hN0
      clear hW0 hN0 hown
      go_wp2_with (first
        | (at_builtin; (rw [← HW0.out]); refine append_row (W0.alloc (.cells #[] 21)) 22 21 (.int .i32 0) 4 Try.underlying22 info_i32 rfl (by omega) (w1.heap.size + 1) _ _ _ OW.out (by simp; have := HN0.out; omega) (by omega) _ _ (HL.out.keep (K0.out.next (below_one W0 _)).below) (one_runes _) (by rw [List.length_map]; omega) rfl _ _ rfl rfl rfl ?_; intro v3 w3 ho3 hb3; have O3 : Hid (OwnR (w1.heap.size + 1) v3 l w3) := Lib.hid (OwnR.more (l := []) ho3 rfl (by rw [List.length_map])); have BB3 := Lib.hid ((below_one W0 _).trans (hb3.mono (Nat.le_of_eq HN0.out))); have Z3 : Hid (w1.heap.size + 1 ≤ w3.heap.size) := Lib.hid (by have := hb3.size; simp at this; have := HN0.out; omega); clear ho3 hb3)
        | (at_builtin; refine append_cells w3 22 21 (.int .i32 0) 4 Try.underlying22 info_i32 rfl (by omega) (w1.heap.size + 1) _ _ _ O3.out Z3.out (by omega) 3 (by omega) _ rfl rfl rfl _ _ rfl rfl rfl ?_; intro v4 w4 ho4 hb4; have HO := Lib.hid ho4; have BB4 := Lib.hid (BB3.out.trans (hb4.mono (Nat.le_of_eq HN0.out))); clear ho4 hb4))
      have io : OwnR (w1.heap.size + 1) v4 (l ++ [108, 183, 108]) w4 := OwnR.more HO.out rfl rfl
      have IK := Lib.hid (K0.out.next BB4.out)
      obtain ⟨hS, c0, c1, c2, c3⟩ := IK.out.held
      have hML : (l ++ [108, 183, 108]).length ≤ 1000 := by rw [List.length_append]; show l.length + 3 ≤ 1000; omega
      obtain ⟨M, hM⟩ : ∃ M, M = l ++ [108, 183, 108] := ⟨_, rfl⟩
      have e1 := D1.out
      have e2 := D2.out
      rw [← hM] at io hML e1 e2
      obtain ⟨A6, c6, hv6, -⟩ := io.shape
      obtain ⟨nM, hnM⟩ : ∃ nM, nM = M.length := ⟨_, rfl⟩
      rw [← hnM] at hv6
      subst hv6
      have RM0 := Lib.hid io.runes
      have RL0 := Lib.hid (HL.out.keep IK.out.below)
      have HML := Lib.hid hML
      obtain ⟨al, hal⟩ : ∃ al, Ctx.all l = al := ⟨_, rfl⟩
      have X1 := Lib.hid (e1.trans hal)
      have X2 := Lib.hid hal
      have X3 := Lib.hid e2
      have hlw : IntKind.i64.wrap ((l.length : Int) + 1) = (l.length : Int) + 1 := by rw [IntKind.wrap_i64]; omega
      clear io hM hnM hML hal e1 e2 D1 D2 HO O3 BB3 BB4 OW Z3 K0 HW0 HN0
      go_wp2
      go_region_held3 (fun w' => w'.cell? ⟨w1.heap.size, 0, none⟩ = some (.slice (some ⟨b0, 0, none⟩) 74 74) ∧ w'.cell? ⟨w1.heap.size, 1, none⟩ = some (.slice (some ⟨b1, 0, none⟩) 10 10) ∧ w'.cell? ⟨w1.heap.size, 2, none⟩ = some (.slice (some ⟨b2, 0, none⟩) 11 11) ∧ w'.cell? ⟨w1.heap.size, 3, none⟩ = some (.slice (some ⟨b3, 0, none⟩) 42 42)) (go_keep) (first
        | (go_at_call 12; (with_reducible refine (B.all_at (.agg #[.slice (some ⟨b0, 0, none⟩) 74 74, .slice (some ⟨b1, 0, none⟩) 10 10, .slice (some ⟨b2, 0, none⟩) 11 11, .slice (some ⟨b3, 0, none⟩) 42 42]) _ M _ IK.out.drew.table (RM0.out.keep (Below.refl _ w4).drew) (by first | omega | exact HML.out) X1.out).mono ?_); rintro e w10 ⟨rfl, hb10⟩; have hB10 := below_of_drew hb10; have M1 := Lib.hid (IK.out.next hB10); have RM1 := Lib.hid (RM0.out.keep hB10); have RL1 := Lib.hid (RL0.out.keep hB10); obtain ⟨hS1, d10, d11, d12, d13⟩ := M1.out.held; clear hb10)
        | (go_at_call 12; (with_reducible refine (B.all_at (.agg #[.slice (some ⟨b0, 0, none⟩) 74 74, .slice (some ⟨b1, 0, none⟩) 10 10, .slice (some ⟨b2, 0, none⟩) 11 11, .slice (some ⟨b3, 0, none⟩) 42 42]) _ l _ M1.out.table RL1.out (by first | omega | exact HML.out) X2.out).mono ?_); rintro e w11 ⟨rfl, hb11⟩; have M2 := Lib.hid (M1.out.next hb11); have RM2 := Lib.hid (RM1.out.keep hb11); have RL2 := Lib.hid (RL1.out.keep hb11); obtain ⟨hS2, d20, d21, d22, d23⟩ := M2.out.held; clear hb11)
        | (go_at_call 10; (with_reducible refine (B.need_at (.agg #[.slice (some ⟨b0, 0, none⟩) 74 74, .slice (some ⟨b1, 0, none⟩) 10 10, .slice (some ⟨b2, 0, none⟩) 11 11, .slice (some ⟨b3, 0, none⟩) 42 42]) _ M ((l.length : Int) + 1) _ M2.out.table RM2.out (by first | omega | exact HML.out) X3.out).mono ?_); rintro e w12 ⟨rfl, hb12⟩; have M3 := Lib.hid (M2.out.next hb12); have RM3 := Lib.hid (RM2.out.keep hb12); have RL3 := Lib.hid (RL2.out.keep hb12); obtain ⟨hS3, d30, d31, d32, d33⟩ := M3.out.held; clear hb12))
      all_goals
        go_wp2
        go_ret
        exact ⟨rfl, M3.out.below⟩
    · have h0z : (0 : Int) < (l.length : Int) := by omega
      obtain ⟨ad, rfl, hb, hx⟩ := HC.out (l.length - 1) (by omega)
      obtain ⟨x, hxe⟩ : ∃ x, l[l.length - 1]! = x := ⟨_, rfl⟩
      rw [hxe] at hx
      have hlw1 : IntKind.i64.wrap ((l.length : Int) - 1) = (l.length : Int) - 1 := by rw [IntKind.wrap_i64]; omega
      have hl1 : ((l.length : Int) - 1).toNat = l.length - 1 := by omega
      have HX := Lib.hid (And.intro hb hx)
      by_cases h3 : x = 183
      · have y3 : (x == 183) = true := beq_iff_eq.2 h3
        clear hxe h3 hx hb
        go_enter Try.func7, Try.ntmps7
        go_wp2_with fail
        refine (S7 _).mono ?_
        rintro e w0 ⟨rfl, hb0⟩
        have B0 := Lib.hid hb0
        have hx0 := (hb0.cell (by rw [add_block]; exact HX.out.1)).trans HX.out.2
        clear hb0
        go_wp2
        go_ret
        exact ⟨rfl, B0.out⟩
      · have y3 : (x == 183) = false := beq_eq_false_iff_ne.2 h3
        obtain ⟨d1, d2⟩ := Ctx.dots (l := l) (fun k hk => by rw [show k = l.length - 1 by omega, hxe]; exact h3)
        have D1 := Lib.hid d1
        have D2 := Lib.hid d2
        clear d1 d2 hxe h3 hx hb
        go_enter Try.func7, Try.ntmps7
        go_wp2_with fail
        refine (S7 _).mono ?_
        rintro e w0 ⟨rfl, hb0⟩
        have B0 := Lib.hid hb0
        have hx0 := (hb0.cell (by rw [add_block]; exact HX.out.1)).trans HX.out.2
        clear hb0
        go_wp2_with fail
        refine (new_any _).mono ?_
        rintro e w1 ⟨tt, rfl, hT, hb1⟩
        have hT' := hT
        obtain ⟨b0, b1, b2, b3, rfl, -, -, -, -⟩ := hT'
        have K0 := Lib.hid (kept_new (b0 := b0) (b1 := b1) (b2 := b2) (b3 := b3) (below_then B0.out hb1) hT 29)
        clear hT hb1 B0
        obtain ⟨W0, hW0⟩ : ∃ W0, W0 = w1.alloc (.cells #[.slice (some ⟨b0, 0, none⟩) 74 74, .slice (some ⟨b1, 0, none⟩) 10 10, .slice (some ⟨b2, 0, none⟩) 11 11, .slice (some ⟨b3, 0, none⟩) 42 42] 29) := ⟨_, rfl⟩
        have hN0 : W0.heap.size = w1.heap.size + 1 := by rw [hW0]; simp
        rw [← hW0] at K0
        have HW0 := Lib.hid hW0
        have hown := own_empty W0 W0.heap.size (Nat.le_refl _)
        rw [hN0] at hown
        have OW := Lib.hid hown
        have HN0 := Lib.hid hN0
        clear hW0 hN0 hown
        go_wp2_with (first
          | (at_builtin; (rw [← HW0.out]); refine append_row (W0.alloc (.cells #[] 21)) 22 21 (.int .i32 0) 4 Try.underlying22 info_i32 rfl (by omega) (w1.heap.size + 1) _ _ _ OW.out (by simp; have := HN0.out; omega) (by omega) _ _ (HL.out.keep (K0.out.next (below_one W0 _)).below) (one_runes _) (by rw [List.length_map]; omega) rfl _ _ rfl rfl rfl ?_; intro v3 w3 ho3 hb3; have O3 : Hid (OwnR (w1.heap.size + 1) v3 l w3) := Lib.hid (OwnR.more (l := []) ho3 rfl (by rw [List.length_map])); have BB3 := Lib.hid ((below_one W0 _).trans (hb3.mono (Nat.le_of_eq HN0.out))); have Z3 : Hid (w1.heap.size + 1 ≤ w3.heap.size) := Lib.hid (by have := hb3.size; simp at this; have := HN0.out; omega); clear ho3 hb3)
          | (at_builtin; refine append_cells w3 22 21 (.int .i32 0) 4 Try.underlying22 info_i32 rfl (by omega) (w1.heap.size + 1) _ _ _ O3.out Z3.out (by omega) 3 (by omega) _ rfl rfl rfl _ _ rfl rfl rfl ?_; intro v4 w4 ho4 hb4; have HO := Lib.hid ho4; have BB4 := Lib.hid (BB3.out.trans (hb4.mono (Nat.le_of_eq HN0.out))); clear ho4 hb4))
        have io : OwnR (w1.heap.size + 1) v4 (l ++ [108, 183, 108]) w4 := OwnR.more HO.out rfl rfl
        have IK := Lib.hid (K0.out.next BB4.out)
        obtain ⟨hS, c0, c1, c2, c3⟩ := IK.out.held
        have hML : (l ++ [108, 183, 108]).length ≤ 1000 := by rw [List.length_append]; show l.length + 3 ≤ 1000; omega
        obtain ⟨M, hM⟩ : ∃ M, M = l ++ [108, 183, 108] := ⟨_, rfl⟩
        have e1 := D1.out
        have e2 := D2.out
        rw [← hM] at io hML e1 e2
        obtain ⟨A6, c6, hv6, -⟩ := io.shape
        obtain ⟨nM, hnM⟩ : ∃ nM, nM = M.length := ⟨_, rfl⟩
        rw [← hnM] at hv6
        subst hv6
        have RM0 := Lib.hid io.runes
        have RL0 := Lib.hid (HL.out.keep IK.out.below)
        have HML := Lib.hid hML
        obtain ⟨al, hal⟩ : ∃ al, Ctx.all l = al := ⟨_, rfl⟩
        have X1 := Lib.hid (e1.trans hal)
        have X2 := Lib.hid hal
        have X3 := Lib.hid e2
        have hlw : IntKind.i64.wrap ((l.length : Int) + 1) = (l.length : Int) + 1 := by rw [IntKind.wrap_i64]; omega
        clear io hM hnM hML hal e1 e2 D1 D2 HO O3 BB3 BB4 OW Z3 K0 HW0 HN0
        go_wp2
        go_region_held3 (fun w' => w'.cell? ⟨w1.heap.size, 0, none⟩ = some (.slice (some ⟨b0, 0, none⟩) 74 74) ∧ w'.cell? ⟨w1.heap.size, 1, none⟩ = some (.slice (some ⟨b1, 0, none⟩) 10 10) ∧ w'.cell? ⟨w1.heap.size, 2, none⟩ = some (.slice (some ⟨b2, 0, none⟩) 11 11) ∧ w'.cell? ⟨w1.heap.size, 3, none⟩ = some (.slice (some ⟨b3, 0, none⟩) 42 42)) (go_keep) (first
          | (go_at_call 12; (with_reducible refine (B.all_at (.agg #[.slice (some ⟨b0, 0, none⟩) 74 74, .slice (some ⟨b1, 0, none⟩) 10 10, .slice (some ⟨b2, 0, none⟩) 11 11, .slice (some ⟨b3, 0, none⟩) 42 42]) _ M _ IK.out.drew.table (RM0.out.keep (Below.refl _ w4).drew) (by first | omega | exact HML.out) X1.out).mono ?_); rintro e w10 ⟨rfl, hb10⟩; have hB10 := below_of_drew hb10; have M1 := Lib.hid (IK.out.next hB10); have RM1 := Lib.hid (RM0.out.keep hB10); have RL1 := Lib.hid (RL0.out.keep hB10); obtain ⟨hS1, d10, d11, d12, d13⟩ := M1.out.held; clear hb10)
          | (go_at_call 12; (with_reducible refine (B.all_at (.agg #[.slice (some ⟨b0, 0, none⟩) 74 74, .slice (some ⟨b1, 0, none⟩) 10 10, .slice (some ⟨b2, 0, none⟩) 11 11, .slice (some ⟨b3, 0, none⟩) 42 42]) _ l _ M1.out.table RL1.out (by first | omega | exact HML.out) X2.out).mono ?_); rintro e w11 ⟨rfl, hb11⟩; have M2 := Lib.hid (M1.out.next hb11); have RM2 := Lib.hid (RM1.out.keep hb11); have RL2 := Lib.hid (RL1.out.keep hb11); obtain ⟨hS2, d20, d21, d22, d23⟩ := M2.out.held; clear hb11)
          | (go_at_call 10; (with_reducible refine (B.need_at (.agg #[.slice (some ⟨b0, 0, none⟩) 74 74, .slice (some ⟨b1, 0, none⟩) 10 10, .slice (some ⟨b2, 0, none⟩) 11 11, .slice (some ⟨b3, 0, none⟩) 42 42]) _ M ((l.length : Int) + 1) _ M2.out.table RM2.out (by first | omega | exact HML.out) X3.out).mono ?_); rintro e w12 ⟨rfl, hb12⟩; have M3 := Lib.hid (M2.out.next hb12); have RM3 := Lib.hid (RM2.out.keep hb12); have RL3 := Lib.hid (RL2.out.keep hb12); obtain ⟨hS3, d30, d31, d32, d33⟩ := M3.out.held; clear hb12))
        all_goals
          go_wp2
          go_ret
          exact ⟨rfl, M3.out.below⟩
  · have hnz : (100 : Int) < (l.length : Int) := by omega
    go_enter Try.func7, Try.ntmps7
    go_wp2_with fail
    refine (S7 _).mono ?_
    rintro e w0 ⟨rfl, hb0⟩
    have B0 := Lib.hid hb0
    clear hb0
    go_wp2
    go_ret
    exact ⟨rfl, B0.out⟩
end Go.Proofs.Ytoekkiodhbejpaa
