/-
  Proved here: the statement UtfParts, as a call: it answers true at every slice of numbers and every string. Conditions: the slice can be read.
-/
import Derived.Test.YtadppccnngfjiaaUtfLawC
namespace Go.Proofs.Ytadppccnngfjiaa
open Go.RowKit Utf
theorem rd_parts {l : List Int} (h : rightsZ l = true) (s : List UInt8) {m : List Nat} {z : Int} (hz : rdOf s = (m, z)) :
    rdOf (encZ l ++ s) = (l.map Int.toNat ++ m, if z < 0 then -1 else z + (encZ l).length) := by
  obtain ⟨h1, h2, h3⟩ := ints_back h
  obtain ⟨q1, q2⟩ := readAll_sound s.length s
  have q3 := congrArg List.length q2
  rw [List.length_append] at q3
  unfold rdOf at hz ⊢
  simp only [Prod.mk.injEq] at hz
  obtain ⟨rfl, rfl⟩ := hz
  have hp := readAll_parts (l.map Int.toNat) s (encZ l ++ s).length s.length h2 (by rw [h3]; exact Nat.le_refl _) (Nat.le_refl _)
  rw [h3] at hp
  rw [hp]
  simp only [List.length_append]
  by_cases h0 : (readAll s.length s).2.length = 0
  · rw [if_pos h0, if_pos h0, if_pos (by decide)]
  · rw [if_neg h0, if_neg h0, if_neg (by omega)]
    congr 1
    omega
section
variable {P : Program}
/-- 'append(v, src...)' behind a guard that lets it by: v a row of the call's own, src any slice that can be read. -/
theorem append_row_by (W : World) (t E : TypeId) (z : Value) (bytes : Nat) (ht : P.underlying t = some (.slice E)) (hi : (P.info? E).map (fun i => (i.zero, i.size, i.bytes)) = some (some z, 1, bytes)) (hz1 : z.cells.size = 1) (hby : bytes ≤ 8)
    (base : Nat) (v : Value) (n : Nat) (xs : List Value) (hown : W.ownsRow base E 1 v n xs) (hbase : base ≤ W.heap.size) (hlen : n ≤ 1000000) (src : Value) (cells : List Value) (hsrc : Row src cells W) (h1 : ∀ u ∈ cells, u.oneCell' = true) (hmm : cells.length ≤ 1000000)
    {ops : Array Oper} {rest : List Oper} {o : Oper} {a : Act} {Q : Exit → Act → World → Prop} (s x : Operand) (hw : Region.wanted o (yielded ops a.tmps) = true)
    (ho : o.op = .call { callee := .builtin .append, args := #[s, x], argTypes := #[t, t] })
    (hs : a.eval s = v) (hx : a.eval x = src)
    (h : ∀ v' w', w'.ownsRow base E 1 v' (n + cells.length) (xs ++ cells) → Below base W w' → wpList P ops Q rest (a.put o.dst v') w') : wpList P ops Q (o :: rest) a W := by
  obtain ⟨i0, hi0, hz0, hs0, hb0⟩ := info_parts hi
  obtain ⟨A, c, rfl, hc, h0, ha⟩ := hsrc
  refine wpList_step fun K hK => ?_
  rw [if_pos hw]
  cases A with
  | none =>
    have hl0 : cells.length = 0 := by have := h0 rfl; omega
    have hc0 : c = 0 := h0 rfl
    obtain rfl : cells = [] := List.eq_nil_of_length_eq_zero hl0
    subst hc0
    have hrun := run_append_owned_none (P := P) (w := W) base t o.type E i0 1 ht hi0 v n xs hown
    have hk := hK _ _ (h v W (by simpa using hown) (Below.refl _ _))
    unfold Oper.wp
    simp only [List.length_nil] at hx
    simp [execOp, ho, resolve, invoke, builtin, hs, hx, hrun, Result.andThen]
    exact hk
  | some ad =>
    refine wp_append_own W s x t ho base E i0 z 1 bytes ht hi0 hz0 hs0 hb0 hz1 (by decide) v n xs hs hown ad cells.length c cells hx (by omega) ?_ h1 (by simp only [maxLen]; omega) ?_ hbase ?_
    · intro j u hj
      have hj' : j < cells.length := (List.getElem?_eq_some_iff.1 hj).1
      obtain ⟨ad', e, -, hcell⟩ := ha (by omega)
      obtain rfl : ad = ad' := by injection e
      exact hcell j u hj
    · have : (n + cells.length) * bytes ≤ (n + cells.length) * 8 := Nat.mul_le_mul_left _ hby
      omega
    · intro v' w' ho' hg _
      exact hK _ _ (h v' w' ho' ((Below.refl _ W).grown hg hbase fun k hk => (hown.lt k hk).1))
end
theorem own_empty (w : World) (base : Nat) (hb : base ≤ w.heap.size) : (w.alloc (.cells #[] 21)).ownsRow base 21 1 (.slice (some ⟨w.heap.size, 0, none⟩) 0 0) 0 [] := by
  refine ⟨rfl, .inr ⟨w.heap.size, 0, #[], rfl, hb, ?_, Nat.le_refl _, by simp [maxLen], rfl, rfl⟩⟩
  exact heap_alloc_new w _
set_option maxHeartbeats 4000000 in
set_option maxRecDepth 100000 in
theorem parts_walk (v : Value) (l : List Int) (s : ByteArray) (w : World) (hl : Runes v l w) : Calls Try.prog 6 #[v, .string s] w fun e w' => e = .returned (.bool true) ∧ Below w.heap.size w w' := by
  obtain ⟨A, c, rfl, -, -⟩ := hl.form
  have HL := Lib.hid hl
  clear hl
  by_cases hn : l.length ≤ 1000
  · have hnz : (l.length : Int) ≤ 1000 := by omega
    by_cases hs : s.size ≤ 3000
    · have hsz : (s.size : Int) ≤ 3000 := by omega
      cases hok : rightsZ l with
      | true =>
        obtain ⟨i1, i2, i3⟩ := ints_back hok
        obtain ⟨⟨m, z⟩, hrd⟩ : ∃ p, rdOf s.data.toList = p := ⟨_, rfl⟩
        have hps := rd_parts hok s.data.toList hrd
        obtain ⟨hm1, hm2, hmz⟩ := rd_cases hrd
        have hml : m.length ≤ 5000 := by simp at hm2; omega
        obtain ⟨x, hx⟩ : ∃ x, encZ l = x := ⟨_, rfl⟩
        have h1 := fun W (h : Runes (.slice A l.length c) l W) => string_at _ l W h (by omega) hok (show strB l = x by unfold strB; rw [hok, if_pos rfl, hx])
        have hxl : x.length ≤ 4000 := by rw [← hx]; have := encZ_len l; omega
        rw [hx] at hps
        have hdl : (⟨x.toArray⟩ ++ s : ByteArray).data.toList = x ++ s.data.toList := by simp
        rw [← hdl] at hps
        have hsl : (⟨x.toArray⟩ ++ s : ByteArray).size ≤ 100000 := by
          rw [ByteArray.size_append, show (⟨x.toArray⟩ : ByteArray).size = x.length by simp [ByteArray.size]]
          omega
        have h2 := fun W => runes_at (⟨x.toArray⟩ ++ s) W hsl hps
        have h3 := fun W => runes_at s W (by omega) hrd
        have hil : ints (l.map Int.toNat ++ m) = l ++ ints m := by rw [← i1]; simp [ints]
        unfold RunesAt at h2
        rw [hil, List.length_append, List.length_map] at h2
        have H1 := Lib.hid h1
        have H2 := Lib.hid h2
        have H3 := Lib.hid h3
        have HS := Lib.hid (fun a b W (ha : Runes a (l ++ ints m) W) (hb : Runes b (l ++ ints m) W) => refSame_any a b _ _ W ha hb (by simp [ints]; omega))
        clear h1 h2 h3 hok i1 i2 i3 hrd hps hm1 hm2 hx hdl hsl hil
        rcases hmz with ⟨rfl, -⟩ | ⟨k, rfl, hk, -⟩
        · rw [if_pos (by decide)] at H2
          go_enter Try.func6, Try.ntmps6
          go_wp2_with fail
          refine (small_any _).mono ?_
          rintro e w1 ⟨rfl, hb1⟩
          have B1 := Lib.hid hb1
          clear hb1
          go_wp2_with fail
          refine (H1.out _ (HL.out.keep B1.out)).mono ?_
          rintro e w2 ⟨rfl, hb2⟩
          have B2 := Lib.hid (below_then B1.out hb2)
          clear hb2 B1
          go_wp2_with fail
          refine (H2.out _).mono ?_
          rintro e w3 ⟨A3, c3, rfl, hr3, hb3⟩
          have B3 := Lib.hid (below_then B2.out hb3)
          have R3 := Lib.hid hr3
          clear hb3 B2 hr3
          go_wp2_with fail
          refine (H3.out _).mono ?_
          rintro e w4 ⟨A4, c4, rfl, hr4, hb4⟩
          have B4 := Lib.hid (below_then B3.out hb4)
          have R4 := Lib.hid hr4
          have R34 := Lib.hid (R3.out.keep hb4)
          clear hb4 B3 R3 hr4
          go_wp2_with (first
            | (at_builtin; refine append_row_by (w4.alloc (.cells #[] 21)) 23 21 (.int .i32 0) 4 Try.underlying23 info_i32 rfl (by omega) w4.heap.size _ _ _ (own_empty w4 _ (Nat.le_refl _)) (by simp) (by omega) _ _ ((HL.out.keep B4.out).keep (below_one _ _)) (one_runes _) (by rw [List.length_map]; omega) (.tmp 56) (.tmp 57) rfl rfl rfl rfl ?_; intro v5 w5 ho5 hb5; have O5 := Lib.hid ho5; have B5 := Lib.hid ((below_one w4 _).trans hb5); clear ho5 hb5)
            | (at_builtin; refine append_row_by w5 23 21 (.int .i32 0) 4 Try.underlying23 info_i32 rfl (by omega) w4.heap.size _ _ _ O5.out B5.out.size (by rw [List.length_map]; omega) _ _ (R4.out.keep B5.out) (one_runes _) (by rw [List.length_map]; simp only [ints, List.length_map]; omega) (.tmp 58) (.tmp 59) rfl rfl rfl rfl ?_; intro v6 w6 ho6 hb6; have O6 := Lib.hid ho6; have B6 := Lib.hid (B5.out.trans hb6); clear ho6 hb6))
          have R6 : Hid (Runes v6 (l ++ ints m) w6) := by
            have h := Row.of_own O6.out
            rw [List.nil_append, ← List.map_append] at h
            exact h
          refine (HS.out _ _ _ (R34.out.keep B6.out) R6.out).mono ?_
          unfold SamePost
          rw [decide_eq_true rfl]
          rintro e w7 ⟨rfl, hb7⟩
          have B7 := Lib.hid (below_then (below_then B4.out B6.out) hb7)
          clear hb7
          go_wp2
          go_ret
          exact ⟨rfl, B7.out⟩
        · rw [if_neg (by omega)] at H2
          have hkz : (k : Int) ≤ 3000 := by simp at hk; omega
          clear hk
          go_enter Try.func6, Try.ntmps6
          go_wp2_with fail
          refine (small_any _).mono ?_
          rintro e w1 ⟨rfl, hb1⟩
          have B1 := Lib.hid hb1
          clear hb1
          go_wp2_with fail
          refine (H1.out _ (HL.out.keep B1.out)).mono ?_
          rintro e w2 ⟨rfl, hb2⟩
          have B2 := Lib.hid (below_then B1.out hb2)
          clear hb2 B1
          go_wp2_with fail
          refine (H2.out _).mono ?_
          rintro e w3 ⟨A3, c3, rfl, hr3, hb3⟩
          have B3 := Lib.hid (below_then B2.out hb3)
          have R3 := Lib.hid hr3
          clear hb3 B2 hr3
          go_wp2_with fail
          refine (H3.out _).mono ?_
          rintro e w4 ⟨A4, c4, rfl, hr4, hb4⟩
          have B4 := Lib.hid (below_then B3.out hb4)
          have R4 := Lib.hid hr4
          have R34 := Lib.hid (R3.out.keep hb4)
          clear hb4 B3 R3 hr4
          go_wp2_with (first
            | (at_builtin; refine append_row_by (w4.alloc (.cells #[] 21)) 23 21 (.int .i32 0) 4 Try.underlying23 info_i32 rfl (by omega) w4.heap.size _ _ _ (own_empty w4 _ (Nat.le_refl _)) (by simp) (by omega) _ _ ((HL.out.keep B4.out).keep (below_one _ _)) (one_runes _) (by rw [List.length_map]; omega) (.tmp 56) (.tmp 57) rfl rfl rfl rfl ?_; intro v5 w5 ho5 hb5; have O5 := Lib.hid ho5; have B5 := Lib.hid ((below_one w4 _).trans hb5); clear ho5 hb5)
            | (at_builtin; refine append_row_by w5 23 21 (.int .i32 0) 4 Try.underlying23 info_i32 rfl (by omega) w4.heap.size _ _ _ O5.out B5.out.size (by rw [List.length_map]; omega) _ _ (R4.out.keep B5.out) (one_runes _) (by rw [List.length_map]; simp only [ints, List.length_map]; omega) (.tmp 58) (.tmp 59) rfl rfl rfl rfl ?_; intro v6 w6 ho6 hb6; have O6 := Lib.hid ho6; have B6 := Lib.hid (B5.out.trans hb6); clear ho6 hb6))
          have R6 : Hid (Runes v6 (l ++ ints m) w6) := by
            have h := Row.of_own O6.out
            rw [List.nil_append, ← List.map_append] at h
            exact h
          refine (HS.out _ _ _ (R34.out.keep B6.out) R6.out).mono ?_
          unfold SamePost
          rw [decide_eq_true rfl]
          rintro e w7 ⟨rfl, hb7⟩
          have B7 := Lib.hid (below_then (below_then B4.out B6.out) hb7)
          clear hb7
          go_wp2
          go_ret
          exact ⟨rfl, B7.out⟩
      | false =>
        have h1 := fun W (h : Runes (.slice A l.length c) l W) => string_at _ l W h (by omega) hok (show strB l = [] by unfold strB; rw [hok, if_neg (by decide)])
        have H1 := Lib.hid h1
        clear h1 hok
        go_enter Try.func6, Try.ntmps6
        go_wp2_with fail
        refine (small_any _).mono ?_
        rintro e w1 ⟨rfl, hb1⟩
        have B1 := Lib.hid hb1
        clear hb1
        go_wp2_with fail
        refine (H1.out _ (HL.out.keep B1.out)).mono ?_
        rintro e w2 ⟨rfl, hb2⟩
        have B2 := Lib.hid (below_then B1.out hb2)
        clear hb2 B1
        go_wp2
        go_ret
        exact ⟨rfl, B2.out⟩
    · have hsz : (3000 : Int) < (s.size : Int) := by omega
      go_enter Try.func6, Try.ntmps6
      go_wp2_with fail
      refine (small_any _).mono ?_
      rintro e w1 ⟨rfl, hb1⟩
      have B1 := Lib.hid hb1
      clear hb1
      go_wp2
      go_ret
      exact ⟨rfl, B1.out⟩
  · have hnz : (1000 : Int) < (l.length : Int) := by omega
    go_enter Try.func6, Try.ntmps6
    go_wp2_with fail
    refine (small_any _).mono ?_
    rintro e w1 ⟨rfl, hb1⟩
    have B1 := Lib.hid hb1
    clear hb1
    go_wp2
    go_ret
    exact ⟨rfl, B1.out⟩
end Go.Proofs.Ytadppccnngfjiaa
