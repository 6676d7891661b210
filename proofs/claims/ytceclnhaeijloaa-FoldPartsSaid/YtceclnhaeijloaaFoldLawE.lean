/-
  Proved here: the law FoldParts: letters are folded one by one, and so are rows of them. Conditions: none.
-/
import Derived.Test.YtceclnhaeijloaaFoldSmall
import Derived.Test.YtceclnhaeijloaaFoldLawB
namespace Go.Proofs.Ytceclnhaeijloaa
open Go.RowKit Utf
section
variable {P : Program}
/-- 'append(v, src...)' in a region that draws its order: v a row of the call's own, src any slice that can be read. -/
theorem step_append_row (W : World) (t E : TypeId) (z : Value) (bytes : Nat) (ht : P.underlying t = some (.slice E)) (hi : (P.info? E).map (fun i => (i.zero, i.size, i.bytes)) = some (some z, 1, bytes)) (hz1 : z.cells.size = 1) (hby : bytes ≤ 8)
    (base : Nat) (v : Value) (n : Nat) (xs : List Value) (hown : W.ownsRow base E 1 v n xs) (hbase : base ≤ W.heap.size) (hlen : n ≤ 1000000) (src : Value) (cells : List Value) (hsrc : Row src cells W) (h1 : ∀ u ∈ cells, u.oneCell' = true) (hmm : cells.length ≤ 1000000)
    {ops : Array Oper} {o : Oper} {a : Act} {K : Act → World → Prop} {Q : Exit → Act → World → Prop} {F : Prop} (s x : Operand) (hw : o.guard = none)
    (ho : o.op = .call { callee := .builtin .append, args := #[s, x], argTypes := #[t, t] })
    (hs : a.eval s = v) (hx : a.eval x = src)
    (h : ∀ v' w', w'.ownsRow base E 1 v' (n + cells.length) (xs ++ cells) → Below base W w' → K (a.put o.dst v') w') : if Region.wanted o (yielded ops a.tmps) = true then Oper.wp P o a W K Q else F := by
  obtain ⟨i0, hi0, hz0, hs0, hb0⟩ := info_parts hi
  obtain ⟨A, c, rfl, hc, h0, ha⟩ := hsrc
  rw [if_pos (by simp [Region.wanted, hw])]
  cases A with
  | none =>
    have hl0 : cells.length = 0 := by have := h0 rfl; omega
    have hc0 : c = 0 := h0 rfl
    obtain rfl : cells = [] := List.eq_nil_of_length_eq_zero hl0
    subst hc0
    have hrun := run_append_owned_none (P := P) (w := W) base t o.type E i0 1 ht hi0 v n xs hown
    have hk := h v W (by simpa using hown) (Below.refl _ _)
    unfold Oper.wp
    simp only [List.length_nil] at hx
    simp [execOp, ho, resolve, invoke, builtin, hs, hx, hrun, Result.andThen]
    exact hk
  | some ad =>
    refine wp_append_own W s x t ho base E i0 z 1 bytes ht hi0 hz0 hs0 hb0 hz1 (by decide) v n xs hs hown ad cells.length c cells hx (by omega) ?_ h1 (by simp only [maxLen]; omega) ?_ hbase ?_
    · intro j u hj
      have hj' : j < cells.length := (List.getElem?_eq_some_iff.1 hj).1
      obtain ⟨ad', e, -, hcell⟩ := ha (by omega)
      obtain rfl : ad = ad' := by injection e
      exact hcell j u hj
    · have : (n + cells.length) * bytes ≤ (n + cells.length) * 8 := Nat.mul_le_mul_left _ hby
      omega
    · intro v' w' ho' hg _
      exact h v' w' ho' ((Below.refl _ W).grown hg hbase fun k hk => (hown.lt k hk).1)
end
set_option maxRecDepth 100000 in
set_option maxHeartbeats 8000000 in
theorem parts4_walk (va : Value) (a : List Int) (vb : Value) (b : List Int) (w : World) (ha : Runes va a w) (hb : Runes vb b w) : Calls Try.prog 7 #[va, vb] w fun e w' => e = .returned (.bool true) ∧ Below w.heap.size w w' := by
  have HA := Lib.hid ha
  have HB := Lib.hid hb
  obtain ⟨Aa, ca, rfl, -, -⟩ := ha.form
  obtain ⟨Ab, cb, rfl, -, -⟩ := hb.form
  clear ha hb
  by_cases hn : a.length ≤ 100 ∧ b.length ≤ 100
  · obtain ⟨hna, hnb⟩ := hn
    have hza : (a.length : Int) ≤ 100 := by omega
    have hzb : (b.length : Int) ≤ 100 := by omega
    have X1 := Lib.hid (fun t x l W (hT : Table W t) (h : Runes x l W) (hl : l.length ≤ 300) => width_any t x l W hT h (by omega))
    have X2 := Lib.hid (fun t x l W (hT : Table W t) (h : Runes x l W) (hl : l.length ≤ 300) => lowers_any t x l W hT h (by omega))
    have S1 := Lib.hid (fun f x y W (hx : Runes x ((a ++ b).map f) W) (hy : Runes y (a.map f ++ b.map f) W) => refSame_any x y _ _ W hx hy (by simp; omega))
    go_enter Try.func7, Try.ntmps7
    go_wp2_with fail
    refine (small4_any _).mono ?_
    rintro e w1 ⟨rfl, hb1⟩
    have B1 := Lib.hid hb1
    clear hb1
    go_wp2_with fail
    refine (new_any _).mono ?_
    rintro e w2 ⟨tt, rfl, hT, hb2⟩
    have hT' := hT
    obtain ⟨b0, b1, b2, b3, rfl, -, -, -, -⟩ := hT'
    have K0 := Lib.hid (kept_new (b0 := b0) (b1 := b1) (b2 := b2) (b3 := b3) (below_then B1.out hb2) hT 29)
    clear hT hb2 B1
    obtain ⟨W0, hW0⟩ : ∃ W0, W0 = w2.alloc (.cells #[.slice (some ⟨b0, 0, none⟩) 74 74, .slice (some ⟨b1, 0, none⟩) 10 10, .slice (some ⟨b2, 0, none⟩) 11 11, .slice (some ⟨b3, 0, none⟩) 42 42] 29) := ⟨_, rfl⟩
    have hN0 : W0.heap.size = w2.heap.size + 1 := by rw [hW0]; simp
    rw [← hW0] at K0
    have HW0 := Lib.hid hW0
    have hown := own_empty W0 W0.heap.size (Nat.le_refl _)
    rw [hN0] at hown
    have OW := Lib.hid hown
    have HN0 := Lib.hid hN0
    clear hW0 hN0 hown
    go_wp2_with (first
      | (at_builtin; (rw [← HW0.out]); refine append_row (W0.alloc (.cells #[] 21)) 22 21 (.int .i32 0) 4 Try.underlying22 info_i32 rfl (by omega) (w2.heap.size + 1) _ _ _ OW.out (by simp; have := HN0.out; omega) (by omega) _ _ (HA.out.keep (K0.out.next (below_one W0 _)).below) (one_runes _) (by rw [List.length_map]; omega) rfl _ _ rfl rfl rfl ?_; intro v3 w3 ho3 hb3; have O3 : Hid (OwnR (w2.heap.size + 1) v3 a w3) := Lib.hid (OwnR.more (l := []) ho3 rfl (by rw [List.length_map])); have BB3 := Lib.hid ((below_one W0 _).trans (hb3.mono (Nat.le_of_eq HN0.out))); have K1 := Lib.hid (K0.out.next BB3.out); have Z3 : Hid (w2.heap.size + 1 ≤ w3.heap.size) := Lib.hid (by have := hb3.size; simp at this; have := HN0.out; omega); clear ho3 hb3)
      | (at_builtin; refine append_row w3 22 21 (.int .i32 0) 4 Try.underlying22 info_i32 rfl (by omega) (w2.heap.size + 1) _ _ _ O3.out Z3.out (by omega) _ _ (HB.out.keep K1.out.below) (one_runes _) (by rw [List.length_map]; omega) rfl _ _ rfl rfl rfl ?_; intro v4 w4 ho4 hb4; have O4 : Hid (OwnR (w2.heap.size + 1) v4 (a ++ b) w4) := Lib.hid (OwnR.more ho4 rfl (by rw [List.length_map])); have K2 := Lib.hid (K0.out.next (BB3.out.trans (hb4.mono (Nat.le_of_eq HN0.out)))); obtain ⟨hS, c0, c1, c2, c3⟩ := K2.out.held; obtain ⟨A4, d4, e4, -⟩ := O4.out.shape; obtain ⟨n4, hn4⟩ : ∃ n4, n4 = (a ++ b).length := ⟨_, rfl⟩; rw [← hn4] at e4; have N4 := Lib.hid hn4; clear hn4; subst e4; clear ho4 hb4))
    clear K0 HW0 OW HN0 K1 BB3 O3 Z3
    go_wp2
    go_region_held3 (fun w' => w'.cell? ⟨w2.heap.size, 0, none⟩ = some (.slice (some ⟨b0, 0, none⟩) 74 74) ∧ w'.cell? ⟨w2.heap.size, 1, none⟩ = some (.slice (some ⟨b1, 0, none⟩) 10 10) ∧ w'.cell? ⟨w2.heap.size, 2, none⟩ = some (.slice (some ⟨b2, 0, none⟩) 11 11) ∧ w'.cell? ⟨w2.heap.size, 3, none⟩ = some (.slice (some ⟨b3, 0, none⟩) 42 42)) (go_keep) (first
      | (go_at_call 12; (with_reducible refine (X1.out (.agg #[.slice (some ⟨b0, 0, none⟩) 74 74, .slice (some ⟨b1, 0, none⟩) 10 10, .slice (some ⟨b2, 0, none⟩) 11 11, .slice (some ⟨b3, 0, none⟩) 42 42]) _ _ _ K2.out.drew.table (HA.out.keep K2.out.drew.below) (by omega)).mono ?_); rintro e w5 ⟨v5, rfl, ho5, hb5⟩; have hB5 := below_of_drew hb5; have M5 := Lib.hid (K2.out.next hB5); have O5 := Lib.hid ho5; have BB5 := Lib.hid hB5; obtain ⟨hS5, q0, q1, q2, q3⟩ := M5.out.held; clear hb5 ho5 hB5 c0 c1 c2 c3)
      | (go_at_call 12; (with_reducible refine (X1.out (.agg #[.slice (some ⟨b0, 0, none⟩) 74 74, .slice (some ⟨b1, 0, none⟩) 10 10, .slice (some ⟨b2, 0, none⟩) 11 11, .slice (some ⟨b3, 0, none⟩) 42 42]) _ _ _ M5.out.table (HB.out.keep M5.out.below) (by omega)).mono ?_); rintro e w6 ⟨v6, rfl, ho6, hb6⟩; have M6 := Lib.hid (M5.out.next hb6); have O6 := Lib.hid (O5.out.keep hb6); have P6 := Lib.hid ho6.runes; have BB6 := Lib.hid (below_then BB5.out hb6); obtain ⟨hS6, r0, r1, r2, r3⟩ := M6.out.held; clear hb6 ho6 O5 BB5)
      | (refine step_append_row w6 22 21 (.int .i32 0) 4 Try.underlying22 info_i32 rfl (by omega) w4.drew.heap.size _ _ _ O6.out BB6.out.size (by rw [List.length_map]; omega) _ _ P6.out (one_runes _) (by rw [List.length_map, List.length_map]; omega) _ _ (by rfl) (by rfl) (by rfl) (by rfl) ?_; intro v7 w7 ho7 hb7; have O7 : Hid (OwnR w4.heap.size v7 (a.map Fold.narrow ++ b.map Fold.narrow) w7) := Lib.hid (OwnR.more ho7 rfl (by rw [List.length_map])); have BB7 := Lib.hid (BB6.out.trans hb7); have M7 := Lib.hid (K2.out.next BB7.out); obtain ⟨hS7, s0, s1, s2, s3⟩ := M7.out.held; clear ho7 hb7 O6 P6 BB6 M5 M6 hS5 hS6 q0 q1 q2 q3 r0 r1 r2 r3))
    go_wp2
    go_region_held3 (fun w' => w'.cell? ⟨w2.heap.size, 0, none⟩ = some (.slice (some ⟨b0, 0, none⟩) 74 74) ∧ w'.cell? ⟨w2.heap.size, 1, none⟩ = some (.slice (some ⟨b1, 0, none⟩) 10 10) ∧ w'.cell? ⟨w2.heap.size, 2, none⟩ = some (.slice (some ⟨b2, 0, none⟩) 11 11) ∧ w'.cell? ⟨w2.heap.size, 3, none⟩ = some (.slice (some ⟨b3, 0, none⟩) 42 42)) (go_keep) (first
      | (go_at_call 13; (with_reducible refine (X2.out (.agg #[.slice (some ⟨b0, 0, none⟩) 74 74, .slice (some ⟨b1, 0, none⟩) 10 10, .slice (some ⟨b2, 0, none⟩) 11 11, .slice (some ⟨b3, 0, none⟩) 42 42]) _ _ _ M7.out.drew.table (HA.out.keep M7.out.drew.below) (by omega)).mono ?_); rintro e w8 ⟨v8, rfl, ho5, hb5⟩; have hB5 := below_of_drew hb5; have M5 := Lib.hid (M7.out.next hB5); have O5 := Lib.hid ho5; have BB5 := Lib.hid hB5; obtain ⟨hS5, q0, q1, q2, q3⟩ := M5.out.held; clear hb5 ho5 hB5 s0 s1 s2 s3)
      | (go_at_call 13; (with_reducible refine (X2.out (.agg #[.slice (some ⟨b0, 0, none⟩) 74 74, .slice (some ⟨b1, 0, none⟩) 10 10, .slice (some ⟨b2, 0, none⟩) 11 11, .slice (some ⟨b3, 0, none⟩) 42 42]) _ _ _ M5.out.table (HB.out.keep M5.out.below) (by omega)).mono ?_); rintro e w9 ⟨v9, rfl, ho6, hb6⟩; have M6 := Lib.hid (M5.out.next hb6); have O6 := Lib.hid (O5.out.keep hb6); have P6 := Lib.hid ho6.runes; have BB6 := Lib.hid (below_then BB5.out hb6); obtain ⟨hS6, r0, r1, r2, r3⟩ := M6.out.held; clear hb6 ho6 O5 BB5)
      | (refine step_append_row w9 22 21 (.int .i32 0) 4 Try.underlying22 info_i32 rfl (by omega) w7.drew.heap.size _ _ _ O6.out BB6.out.size (by rw [List.length_map]; omega) _ _ P6.out (one_runes _) (by rw [List.length_map, List.length_map]; omega) _ _ (by rfl) (by rfl) (by rfl) (by rfl) ?_; intro v10 w10 ho7 hb7; have O10 : Hid (OwnR w7.heap.size v10 (a.map lowOf ++ b.map lowOf) w10) := Lib.hid (OwnR.more ho7 rfl (by rw [List.length_map])); have BB10 := Lib.hid (BB6.out.trans hb7); have M10 := Lib.hid (M7.out.next BB10.out); obtain ⟨hS10, t0, t1, t2, t3⟩ := M10.out.held; clear ho7 hb7 O6 P6 BB6 M5 M6 hS5 hS6 q0 q1 q2 q3 r0 r1 r2 r3))
    have Q4 := Lib.hid (O4.out.runes.keep (below_then BB7.out BB10.out))
    have Q7 := Lib.hid (O7.out.runes.keep BB10.out)
    have Q10 := Lib.hid O10.out.runes
    obtain ⟨A7, d7, e7, -⟩ := O7.out.shape
    rw [show (a.map Fold.narrow ++ b.map Fold.narrow).length = n4 by rw [N4.out]; simp] at e7
    subst e7
    clear O4 O7 O10 BB7 BB10
    go_wp2_with fail
    refine (X1.out _ _ _ _ M10.out.table Q4.out (by simp; omega)).mono ?_
    rintro e w11 ⟨v11, rfl, ho11, hb11⟩
    have M11 := Lib.hid (M10.out.next hb11)
    have Q4' := Lib.hid (Q4.out.keep hb11)
    have Q7' := Lib.hid (Q7.out.keep hb11)
    have Q10' := Lib.hid (Q10.out.keep hb11)
    have Q11 := Lib.hid ho11.runes
    clear ho11 hb11 M10 Q4 Q7 Q10
    go_wp2_with fail
    refine (S1.out _ _ _ _ Q11.out Q7'.out).mono ?_
    unfold SamePost
    rw [decide_eq_true (List.map_append)]
    rintro e w12 ⟨rfl, hb12⟩
    have M12 := Lib.hid (M11.out.next hb12)
    obtain ⟨hS12, z0, z1, z2, z3⟩ := M12.out.held
    have Q4a := Lib.hid (Q4'.out.keep hb12)
    have Q10a := Lib.hid (Q10'.out.keep hb12)
    clear hb12 M11 Q4' Q7' Q10' Q11
    go_wp2_with fail
    refine (X2.out _ _ _ _ M12.out.table Q4a.out (by simp; omega)).mono ?_
    rintro e w13 ⟨v13, rfl, ho13, hb13⟩
    have M13 := Lib.hid (M12.out.next hb13)
    have Q10b := Lib.hid (Q10a.out.keep hb13)
    have Q13 := Lib.hid ho13.runes
    clear ho13 hb13 M12 Q4a Q10a
    go_wp2_with fail
    refine (S1.out _ _ _ _ Q13.out Q10b.out).mono ?_
    unfold SamePost
    rw [decide_eq_true (List.map_append)]
    rintro e w14 ⟨rfl, hb14⟩
    have M14 := Lib.hid (M13.out.next hb14)
    clear hb14 M13 Q10b Q13
    go_wp2
    go_ret
    exact ⟨rfl, M14.out.below⟩
  · have hor : (100 : Int) < a.length ∨ (a.length : Int) ≤ 100 ∧ (100 : Int) < b.length := by omega
    clear hn
    rcases hor with hz | ⟨hy, hz⟩
    all_goals
      go_enter Try.func7, Try.ntmps7
      go_wp2_with fail
      refine (small4_any _).mono ?_
      rintro e w1 ⟨rfl, hb1⟩
      have B1 := Lib.hid hb1
      clear hb1
      go_wp2
      go_ret
      exact ⟨rfl, B1.out⟩
end Go.Proofs.Ytceclnhaeijloaa
