/-
  Proved here: syllables and what they are made of are the same (NormHangul), at any three numbers: the law's call returns true, and nothing that lay has turned. Conditions: none.
  Proved here: what is split, ordered and joined is the document's own answer's, and is new memory (NormSteps), at any characters: the law's call returns true, and nothing that lay has turned. Conditions: the slice can be read.
  Proved here: a string's normal forms are the document's own (NormForms), at any string: the law's call returns true, and nothing that lay has turned. Conditions: none.
  Proved here: each form, done again, changes nothing, and the forms of forms are those of the string (NormSame), at any string: the law's call returns true, and nothing that lay has turned. Conditions: none.
  Proved here: marks of unlike classes that stand together may stand in any order (NormOrder), at any characters and any place: the law's call returns true, and nothing that lay has turned. Conditions: the slice can be read.
  Proved here: what is ASCII is in all forms (NormPlain), at any string: the law's call returns true, and nothing that lay has turned. Conditions: none.
-/
import Derived.Test.YtpmcmbkilcpleaaNorm
import Derived.Test.YtpmcmbkilcpleaaPlainA
namespace Go.Proofs.Ytpmcmbkilcpleaa
open Go.RowKit Utf
namespace Norm
theorem next_one {s x z : Int} (hs : clsOf s = 0) (h : make2 s x = some z) : next [s] x = [z] := by
  have := next_at (Q := []) (M := []) s x (fun y hy => by cases hy) (by omega)
  rw [List.nil_append] at this
  rw [this, h]
  rfl
theorem join_two {a b z : Int} (ha : clsOf a = 0) (h : make2 a b = some z) : join [a, b] = [z] := by
  have e : join [a, b] = next (next [] a) b := rfl
  rw [e, next_none a (M := []) (fun y hy => by cases hy), List.nil_append, next_one ha h]
theorem join_three {a b c y z : Int} (ha : clsOf a = 0) (h : make2 a b = some y) (hy : clsOf y = 0) (h2 : make2 y c = some z) : join [a, b, c] = [z] := by
  have e : join [a, b, c] = next (next (next [] a) b) c := by
    unfold next join joinR
    simp only [List.foldl_cons, List.foldl_nil, List.reverse_reverse, List.reverse_nil]
  rw [e, next_none a (M := []) (fun y hy => by cases hy), List.nil_append, next_one ha h, next_one hy h2]
/-- A syllable of two, and of three. -/
theorem hangul_two {i j : Int} (hi : 0 ≤ i ∧ i ≤ 18) (hj : 0 ≤ j ∧ j ≤ 20) : join [4352 + i, 4449 + j] = [44032 + (i * 21 + j) * 28] ∧ split false [44032 + (i * 21 + j) * 28] = [4352 + i, 4449 + j] := by
  have hm : make2 (4352 + i) (4449 + j) = some (44032 + (i * 21 + j) * 28) := by rw [mk_lv (by omega)]; congr 1; omega
  refine ⟨join_two (jamo_ok ((jamo_iff _).2 (by omega))).2.2 hm, ?_⟩
  have hsy : syl (44032 + (i * 21 + j) * 28) = true := (syl_iff _).2 (by omega)
  show pieces false _ ++ [] = _
  rw [List.append_nil, pieces_eq, if_pos hsy]
  unfold sylParts
  rw [if_pos (by omega), show 4352 + (44032 + (i * 21 + j) * 28 - 44032) / 588 = 4352 + i by omega, show 4449 + (44032 + (i * 21 + j) * 28 - 44032) % 588 / 28 = 4449 + j by omega]
  rfl
theorem hangul_three {i j k : Int} (hi : 0 ≤ i ∧ i ≤ 18) (hj : 0 ≤ j ∧ j ≤ 20) (hk : 0 < k ∧ k ≤ 27) : join [4352 + i, 4449 + j, 4519 + k] = [44032 + (i * 21 + j) * 28 + k] ∧ split false [44032 + (i * 21 + j) * 28 + k] = [4352 + i, 4449 + j, 4519 + k] := by
  have hm : make2 (4352 + i) (4449 + j) = some (44032 + (i * 21 + j) * 28) := by rw [mk_lv (by omega)]; congr 1; omega
  have hsy : syl (44032 + (i * 21 + j) * 28) = true := (syl_iff _).2 (by omega)
  have hm2 : make2 (44032 + (i * 21 + j) * 28) (4519 + k) = some (44032 + (i * 21 + j) * 28 + k) := by rw [mk_lvt (by omega)]; congr 1; omega
  refine ⟨join_three (jamo_ok ((jamo_iff _).2 (by omega))).2.2 hm (syl_cls hsy) hm2, ?_⟩
  have hs2 : syl (44032 + (i * 21 + j) * 28 + k) = true := (syl_iff _).2 (by omega)
  show pieces false _ ++ [] = _
  rw [List.append_nil, pieces_eq, if_pos hs2]
  unfold sylParts
  rw [if_neg (by omega), show 4352 + (44032 + (i * 21 + j) * 28 + k - 44032) / 588 = 4352 + i by omega, show 4449 + (44032 + (i * 21 + j) * 28 + k - 44032) % 588 / 28 = 4449 + j by omega, show 4519 + (44032 + (i * 21 + j) * 28 + k - 44032) % 28 = 4519 + k by omega]
  rfl
end Norm
theorem runes_lit_at (w : World) (N : Nat) (hN : N = w.heap.size) (l : List Int) : Runes (.slice (some ⟨N, 0, none⟩) l.length l.length) l (w.alloc (.cells (l.map runeV).toArray 21)) := by
  subst hN
  exact runes_lit w l
set_option maxRecDepth 100000 in
set_option maxHeartbeats 8000000 in
theorem hangul_walk (i j k : Int) (w : World) : Calls Try.prog 7 #[.int .i64 i, .int .i64 j, .int .i64 k] w fun e w' => e = .returned (.bool true) ∧ Below w.heap.size w w' := by
  by_cases h : 0 ≤ i ∧ i ≤ 18 ∧ 0 ≤ j ∧ j ≤ 20 ∧ 0 ≤ k ∧ k ≤ 27
  · obtain ⟨i1, i2, j1, j2, k1, k2⟩ := h
    by_cases hk : 0 < k
    · obtain ⟨hj1, hs1⟩ := Norm.hangul_three ⟨i1, i2⟩ ⟨j1, j2⟩ ⟨hk, k2⟩
      have HJ := Lib.hid (fun t v W (hT : Table W t) (h : Runes v [4352 + i, 4449 + j, 4519 + k] W) => joinAll_any t v _ W hT h (by simp))
      have HS := Lib.hid (fun t v W (hT : Table W t) (h : Runes v [44032 + (i * 21 + j) * 28 + k] W) => splitAll_any t v _ false W hT h (by simp))
      have HE := Lib.hid (fun x y W (hx : Runes x [4352 + i, 4449 + j, 4519 + k] W) (hy : Runes y [4352 + i, 4449 + j, 4519 + k] W) => refSame_any x y [4352 + i, 4449 + j, 4519 + k] [4352 + i, 4449 + j, 4519 + k] W hx hy (by simp))
      rw [hj1] at HJ
      rw [hs1] at HS
      clear hj1 hs1
      go_enter Try.func7, Try.ntmps7
      go_wp2_with fail
      refine (small3_any _).mono ?_
      rintro e w1 ⟨rfl, hb1⟩
      have B1 := Lib.hid hb1
      clear hb1
      go_wp2_with fail
      refine (new_any _).mono ?_
      rintro e w2 ⟨tt, rfl, hT, hb2⟩
      have hT' := hT
      obtain ⟨b0, b1, b2, b3, rfl, -, -, -, -⟩ := hT'
      have K0 := Lib.hid (kept_new (b0 := b0) (b1 := b1) (b2 := b2) (b3 := b3) (below_then B1.out hb2) hT 30)
      clear hT hb2 B1
      obtain ⟨W0, hW0⟩ : ∃ W0, W0 = w2.alloc (.cells #[.slice (some ⟨b0, 0, none⟩) 74 74, .slice (some ⟨b1, 0, none⟩) 10 10, .slice (some ⟨b2, 0, none⟩) 11 11, .slice (some ⟨b3, 0, none⟩) 42 42] 30) := ⟨_, rfl⟩
      have hN0 : W0.heap.size = w2.heap.size + 1 := by rw [hW0]; simp
      rw [← hW0] at K0
      have OW := Lib.hid (ownR_lit_at W0 W0.heap.size (w2.heap.size + 1) hN0.symm (Nat.le_refl _) [4352 + i, 4449 + j] (by simp))
      have HW0 := Lib.hid hW0
      have HN0 := Lib.hid hN0
      clear hW0 hN0
      go_wp2_with (at_builtin; (rw [← HW0.out]); refine append_cells_at (W0.alloc _) 22 21 (.int .i32 0) 4 Try.underlying22 info_i32 rfl (by omega) W0.heap.size _ _ _ OW.out (by simp) (by simp) 1 (by omega) _ rfl rfl _ (by simp; have := HN0.out; omega) rfl _ _ rfl rfl rfl ?_; intro v3 w3 ho3 hb3; have R3 : Hid (Runes v3 [4352 + i, 4449 + j, 4519 + k] w3) := Lib.hid (OwnR.runes (OwnR.more ho3 rfl rfl)); have K1 := Lib.hid (K0.out.next ((below_one W0 _).trans hb3)); obtain ⟨hS, c0, c1, c2, c3⟩ := K1.out.held; clear ho3 hb3 K0)
      refine (HJ.out _ _ _ K1.out.table R3.out).mono ?_
      rintro e w4 ⟨v4, rfl, ho4, hb4⟩
      have K2 := Lib.hid (K1.out.next hb4)
      have R4 := Lib.hid (R3.out.keep hb4)
      obtain ⟨A4, d4, rfl, hA4⟩ := ho4.shape
      obtain ⟨g4, rfl, -, hg4⟩ := hA4 (by simp)
      have x4 := ho4.cell 0 (by simp)
      simp only [List.getElem!_cons_zero] at x4
      have X4 := Lib.hid x4
      clear ho4 hb4 K1 hA4 x4
      obtain ⟨hS, c0, c1, c2, c3⟩ := K2.out.held
      have R5 := Lib.hid (runes_lit w4 [44032 + (i * 21 + j) * 28 + k])
      have K3 := Lib.hid (K2.out.alloc (.cells ([44032 + (i * 21 + j) * 28 + k].map runeV).toArray 21))
      go_wp2_with fail
      refine (HS.out _ _ _ K3.out.table R5.out).mono ?_
      rintro e w6 ⟨v6, rfl, ho6, hb6⟩
      have hb46 := below_then (below_one w4 _) hb6
      have K4 := Lib.hid (K2.out.next hb46)
      have R6 := Lib.hid (R4.out.keep hb46)
      have x6 := cell_kept X4.out hb46
      have hg6 := Nat.lt_of_lt_of_le hg4 hb46.size
      have S6 := Lib.hid ho6.runes
      clear ho6 hb6 hb46 K2 K3 R5
      go_wp2_with fail
      refine (HE.out _ _ _ S6.out R6.out).mono ?_
      unfold SamePost
      rw [decide_eq_true rfl]
      rintro e w7 ⟨rfl, hb7⟩
      have K5 := Lib.hid (K4.out.next hb7)
      clear hb7
      go_wp2
      go_ret
      exact ⟨rfl, K5.out.below⟩
    · obtain rfl : k = 0 := by omega
      obtain ⟨hj1, hs1⟩ := Norm.hangul_two ⟨i1, i2⟩ ⟨j1, j2⟩
      have HJ := Lib.hid (fun t v W (hT : Table W t) (h : Runes v [4352 + i, 4449 + j] W) => joinAll_any t v _ W hT h (by simp))
      have HS := Lib.hid (fun t v W (hT : Table W t) (h : Runes v [44032 + (i * 21 + j) * 28] W) => splitAll_any t v _ false W hT h (by simp))
      have HE := Lib.hid (fun x y W (hx : Runes x [4352 + i, 4449 + j] W) (hy : Runes y [4352 + i, 4449 + j] W) => refSame_any x y [4352 + i, 4449 + j] [4352 + i, 4449 + j] W hx hy (by simp))
      rw [hj1] at HJ
      rw [hs1] at HS
      clear hj1 hs1
      go_enter Try.func7, Try.ntmps7
      go_wp2_with fail
      refine (small3_any _).mono ?_
      rintro e w1 ⟨rfl, hb1⟩
      have B1 := Lib.hid hb1
      clear hb1
      go_wp2_with fail
      refine (new_any _).mono ?_
      rintro e w2 ⟨tt, rfl, hT, hb2⟩
      have hT' := hT
      obtain ⟨b0, b1, b2, b3, rfl, -, -, -, -⟩ := hT'
      have K0 := Lib.hid (kept_new (b0 := b0) (b1 := b1) (b2 := b2) (b3 := b3) (below_then B1.out hb2) hT 30)
      clear hT hb2 B1
      have R3 := Lib.hid (runes_lit_at (w2.alloc (.cells #[.slice (some ⟨b0, 0, none⟩) 74 74, .slice (some ⟨b1, 0, none⟩) 10 10, .slice (some ⟨b2, 0, none⟩) 11 11, .slice (some ⟨b3, 0, none⟩) 42 42] 30)) (w2.heap.size + 1) (by simp) [4352 + i, 4449 + j])
      have K1 := Lib.hid (K0.out.alloc (.cells ([4352 + i, 4449 + j].map runeV).toArray 21))
      clear K0
      go_wp2_with fail
      refine (HJ.out _ _ _ K1.out.table R3.out).mono ?_
      rintro e w4 ⟨v4, rfl, ho4, hb4⟩
      have K2 := Lib.hid (K1.out.next hb4)
      have R4 := Lib.hid (R3.out.keep hb4)
      obtain ⟨A4, d4, rfl, hA4⟩ := ho4.shape
      obtain ⟨g4, rfl, -, hg4⟩ := hA4 (by simp)
      have x4 := ho4.cell 0 (by simp)
      simp only [List.getElem!_cons_zero] at x4
      have X4 := Lib.hid x4
      clear ho4 hb4 K1 hA4 x4
      obtain ⟨hS, c0, c1, c2, c3⟩ := K2.out.held
      have R5 := Lib.hid (runes_lit w4 [44032 + (i * 21 + j) * 28])
      have K3 := Lib.hid (K2.out.alloc (.cells ([44032 + (i * 21 + j) * 28].map runeV).toArray 21))
      go_wp2_with fail
      refine (HS.out _ _ _ K3.out.table R5.out).mono ?_
      rintro e w6 ⟨v6, rfl, ho6, hb6⟩
      have hb46 := below_then (below_one w4 _) hb6
      have K4 := Lib.hid (K2.out.next hb46)
      have R6 := Lib.hid (R4.out.keep hb46)
      have x6 := cell_kept X4.out hb46
      have hg6 := Nat.lt_of_lt_of_le hg4 hb46.size
      have S6 := Lib.hid ho6.runes
      clear ho6 hb6 hb46 K2 K3 R5
      go_wp2_with fail
      refine (HE.out _ _ _ S6.out R6.out).mono ?_
      unfold SamePost
      rw [decide_eq_true rfl]
      rintro e w7 ⟨rfl, hb7⟩
      have K5 := Lib.hid (K4.out.next hb7)
      clear hb7
      go_wp2
      go_ret
      exact ⟨rfl, K5.out.below⟩
  · go_enter Try.func7, Try.ntmps7
    go_wp2_with fail
    refine (small3_any _).mono ?_
    rintro e w1 ⟨rfl, hb1⟩
    have B1 := Lib.hid hb1
    clear hb1
    have hor : i < 0 ∨ 18 < i ∨ j < 0 ∨ 20 < j ∨ k < 0 ∨ 27 < k := by omega
    clear h
    go_wp2_with fail
    all_goals first
      | omega
      | (go_ret
         exact ⟨rfl, B1.out⟩)
end Go.Proofs.Ytpmcmbkilcpleaa
namespace Go.Proofs.Ytpmcmbkilcpleaa
open Go.RowKit Utf
set_option maxHeartbeats 400000 in
theorem few_any (v : Value) (l : List Int) (w : World) (hl : Runes v l w) {b : Bool} (hb : decide (l.length ≤ 120) = b) : Calls Try.prog 10 #[v] w fun e w' => e = .returned (.bool b) ∧ w = w' := by
  obtain ⟨A, c, rfl, -, -⟩ := hl.form
  have hz : decide ((l.length : Int) ≤ 120) = b := by rw [← hb]; congr 1; simp; omega
  clear hb hl
  go_enter Try.func10, Try.ntmps10
  go_wp2
  go_ret
  exact ⟨by first | rfl | (rw [← hz]; rfl) | simp [*], rfl⟩
/-- A store into another row leaves this one. -/
theorem OwnR.other {base base2 g n c k : Nat} {v : Value} {l m : List Int} {w : World} (h : OwnR base v l w) (h2 : OwnR base2 (.slice (some ⟨g, 0, none⟩) n c) m w) (hne : v.ownBlock ≠ some g) (x : Int) : OwnR base v l (w.setCell ⟨g, k, none⟩ (.int .i32 x)) := by
  have hn : n = m.length := by
    rcases h2.2 with ⟨h0, -⟩ | ⟨g', cap, cur, h0, -⟩
    · cases h0
    · injection h0
  subst hn
  have hg := (World.ownsRow.stored h2 k (.int .i32 x)).2
  exact World.ownsRow.kept h hg (.inr hne)
set_option maxRecDepth 100000 in
set_option maxHeartbeats 8000000 in
theorem steps_walk (v : Value) (l : List Int) (soft : Bool) (w : World) (hl : Runes v l w) : Calls Try.prog 3 #[v, .bool soft] w fun e w' => e = .returned (.bool true) ∧ Below w.heap.size w w' := by
  have HL := Lib.hid hl
  clear hl
  by_cases hn : l.length ≤ 120
  · have HF := Lib.hid (fun W (h : Runes v l W) => few_any v l W h (decide_eq_true hn))
    have X1 := Lib.hid (fun t x W (hT : Table W t) (h : Runes x l W) => splitAll_any t x l soft W hT h (by omega))
    have X2 := Lib.hid (fun t x W (hT : Table W t) (h : Runes x l W) => order_any t x l W hT h (by omega))
    have X3 := Lib.hid (fun t x W (hT : Table W t) (h : Runes x l W) => joinAll_any t x l W hT h (by omega))
    have Y1 := Lib.hid (fun x W (h : Runes x l W) => split3_any x l soft W h (by omega))
    have Y2 := Lib.hid (fun x W (h : Runes x l W) => order3_any x l W h (by omega))
    have Y3 := Lib.hid (fun x W (h : Runes x l W) => join3_any x l W h (by omega))
    have s1 := split_len soft l
    have s2 : (Norm.order l).length = l.length := (sim_len (Norm.sim_order l)).symm
    have s3 := join_len' l
    have S1 := Lib.hid (fun x y W (hx : Runes x (Norm.split soft l) W) (hy : Runes y (Norm.split soft l) W) => refSame_any x y _ _ W hx hy (by omega))
    have S2 := Lib.hid (fun x y W (hx : Runes x (Norm.order l) W) (hy : Runes y (Norm.order l) W) => refSame_any x y _ _ W hx hy (by omega))
    have S3 := Lib.hid (fun x y W (hx : Runes x (Norm.join l) W) (hy : Runes y (Norm.join l) W) => refSame_any x y _ _ W hx hy (by omega))
    have S4 := Lib.hid (fun x y W (hx : Runes x l W) (hy : Runes y l W) => refSame_any x y l l W hx hy (by omega))
    generalize Norm.split soft l = sl at *
    generalize Norm.order l = ol at *
    generalize Norm.join l = jl at *
    have hol : ol.length ≤ 120 := by omega
    have hjl : jl.length ≤ 120 := by omega
    clear s1 s2 s3
    go_enter Try.func3, Try.ntmps3
    go_wp2_with fail
    refine (small3_any _).mono ?_
    rintro e w1 ⟨rfl, hb1⟩
    have B1 := Lib.hid hb1
    clear hb1
    go_wp2_with fail
    refine (HF.out _ (HL.out.keep B1.out)).mono ?_
    rintro e w1' ⟨rfl, rfl⟩
    go_wp2_with fail
    refine (new_any _).mono ?_
    rintro e w2 ⟨tt, rfl, hT, hb2⟩
    have hT' := hT
    obtain ⟨b0, b1, b2, b3, rfl, -, -, -, -⟩ := hT'
    have K0 := Lib.hid (kept_new (b0 := b0) (b1 := b1) (b2 := b2) (b3 := b3) (below_then B1.out hb2) hT 30)
    clear hT hb2 B1
    obtain ⟨W0, hW0⟩ : ∃ W0, W0 = w2.alloc (.cells #[.slice (some ⟨b0, 0, none⟩) 74 74, .slice (some ⟨b1, 0, none⟩) 10 10, .slice (some ⟨b2, 0, none⟩) 11 11, .slice (some ⟨b3, 0, none⟩) 42 42] 30) := ⟨_, rfl⟩
    have hN0 : W0.heap.size = w2.heap.size + 1 := by rw [hW0]; simp
    rw [← hW0] at K0
    have HW0 := Lib.hid hW0
    have hown := own_empty W0 W0.heap.size (Nat.le_refl _)
    rw [hN0] at hown
    have OW := Lib.hid hown
    have HN0 := Lib.hid hN0
    clear hW0 hN0 hown
    go_wp2_with (at_builtin; (rw [← HW0.out]); refine append_row (W0.alloc (.cells #[] 21)) 22 21 (.int .i32 0) 4 Try.underlying22 info_i32 rfl (by omega) (w2.heap.size + 1) _ _ _ OW.out (by simp; have := HN0.out; omega) (by omega) _ _ (HL.out.keep (K0.out.next (below_one W0 _)).below) (one_runes _) (by rw [List.length_map]; omega) rfl _ _ rfl rfl rfl ?_; intro v3 w3 ho3 hb3; have R3 : Hid (Runes v3 l w3) := Lib.hid (OwnR.runes (OwnR.more (l := []) ho3 rfl (by rw [List.length_map]))); have K1 := Lib.hid (K0.out.next ((below_one W0 _).trans (hb3.mono (Nat.le_of_eq HN0.out)))); obtain ⟨hS, c0, c1, c2, c3⟩ := K1.out.held; clear ho3 hb3 K0)
    refine (X1.out _ _ _ K1.out.table R3.out).mono ?_
    rintro e w4 ⟨v4, rfl, ho4, hb4⟩
    have K2 := Lib.hid (K1.out.next hb4)
    have R4 := Lib.hid (R3.out.keep hb4)
    have A4 := Lib.hid ho4.runes
    obtain ⟨hS, c0, c1, c2, c3⟩ := K2.out.held
    have BW4 := Lib.hid K2.out.below
    clear ho4 hb4 K1 R3
    go_wp2_with fail
    refine (X2.out _ _ _ K2.out.table R4.out).mono ?_
    rintro e w5 ⟨v5, rfl, ho5, hb5⟩
    have K3 := Lib.hid (K2.out.next hb5)
    have B5 := Lib.hid hb5
    have A5 := Lib.hid (A4.out.keep hb5)
    have O5 := Lib.hid ho5
    obtain ⟨hS, c0, c1, c2, c3⟩ := K3.out.held
    clear ho5 hb5 K2 A4
    go_wp2_with fail
    refine (X3.out _ _ _ K3.out.table (R4.out.keep B5.out)).mono ?_
    rintro e w6 ⟨v6, rfl, ho6, hb6⟩
    have K4 := Lib.hid (K3.out.next hb6)
    have B6 := Lib.hid (below_then B5.out hb6)
    have A6 := Lib.hid (A5.out.keep hb6)
    have O6 := Lib.hid (O5.out.keep hb6)
    have Q5 := Lib.hid (World.ownsRow.lt O5.out)
    have P6 := Lib.hid ho6
    have Q45 := Lib.hid B5.out.size
    obtain ⟨hS, c0, c1, c2, c3⟩ := K4.out.held
    clear ho6 hb6 K3 A5 B5 O5
    go_wp2_with fail
    refine (Y1.out _ _ (HL.out.keep K4.out.below)).mono ?_
    rintro e w7 ⟨v7, rfl, ho7, hb7⟩
    have K5 := Lib.hid (K4.out.next hb7)
    have B7 := Lib.hid (below_then B6.out hb7)
    have A7 := Lib.hid (A6.out.keep hb7)
    have O7 := Lib.hid (O6.out.keep hb7)
    have P7 := Lib.hid (P6.out.keep hb7)
    have R7 := Lib.hid ho7.runes
    clear ho7 hb7 K4 A6 B6 O6 P6
    go_wp2_with fail
    refine (S1.out _ _ _ A7.out R7.out).mono ?_
    unfold SamePost
    rw [decide_eq_true rfl]
    rintro e w8 ⟨rfl, hb8⟩
    have K6 := Lib.hid (K5.out.next hb8)
    have B8 := Lib.hid (below_then B7.out hb8)
    have O8 := Lib.hid (O7.out.keep hb8)
    have P8 := Lib.hid (P7.out.keep hb8)
    clear hb8 K5 A7 B7 O7 P7 R7
    go_wp2_with fail
    refine (Y2.out _ _ (HL.out.keep K6.out.below)).mono ?_
    rintro e w9 ⟨v9, rfl, ho9, hb9⟩
    have K7 := Lib.hid (K6.out.next hb9)
    have B9 := Lib.hid (below_then B8.out hb9)
    have O9 := Lib.hid (O8.out.keep hb9)
    have P9 := Lib.hid (P8.out.keep hb9)
    have R9 := Lib.hid ho9.runes
    clear ho9 hb9 K6 B8 O8 P8
    go_wp2_with fail
    refine (S2.out _ _ _ O9.out.runes R9.out).mono ?_
    unfold SamePost
    rw [decide_eq_true rfl]
    rintro e w10 ⟨rfl, hb10⟩
    have K8 := Lib.hid (K7.out.next hb10)
    have B10 := Lib.hid (below_then B9.out hb10)
    have O10 := Lib.hid (O9.out.keep hb10)
    have P10 := Lib.hid (P9.out.keep hb10)
    clear hb10 K7 B9 O9 P9 R9
    go_wp2_with fail
    refine (Y3.out _ _ (HL.out.keep K8.out.below)).mono ?_
    rintro e w11 ⟨v11, rfl, ho11, hb11⟩
    have K9 := Lib.hid (K8.out.next hb11)
    have B11 := Lib.hid (below_then B10.out hb11)
    have O11 := Lib.hid (O10.out.keep hb11)
    have P11 := Lib.hid (P10.out.keep hb11)
    have R11 := Lib.hid ho11.runes
    clear ho11 hb11 K8 B10 O10 P10
    go_wp2_with fail
    refine (S3.out _ _ _ P11.out.runes R11.out).mono ?_
    unfold SamePost
    rw [decide_eq_true rfl]
    rintro e w12 ⟨rfl, hb12⟩
    have KB := Lib.hid (K9.out.next hb12).below
    have B12 := Lib.hid (below_then B11.out hb12)
    have O12 := Lib.hid (O11.out.keep hb12)
    have P12 := Lib.hid (P11.out.keep hb12)
    have h45 : w4.heap.size ≤ w5.heap.size := Q45.out
    clear hb12 K9 B11 O11 P11 R11 KB
    obtain ⟨A5, d5, rfl, hA5⟩ := O12.out.shape
    obtain ⟨A6, d6, rfl, hA6⟩ := P12.out.shape
    have HA5 := Lib.hid hA5
    have HA6 := Lib.hid hA6
    clear hA5 hA6
    go_wp2
    go_loopg [14] (ol.length + 1) (fun gk i wr => ∃ (k : Nat) (M : List Int), i = .int .i64 k ∧ k ≤ ol.length ∧ ol.length - k < gk ∧ Hid (M.length = ol.length ∧ OwnR w4.heap.size (.slice A5 ol.length d5) M wr ∧ OwnR w5.heap.size (.slice A6 jl.length d6) jl wr ∧ Below w4.heap.size w4 wr))
    case atStart => exact ⟨0, ol, rfl, Nat.zero_le _, by omega, ⟨rfl, O12.out, P12.out, B12.out⟩⟩
    case round =>
      obtain ⟨k, M, rfl, hk, hg, I⟩ := hrel
      by_cases hlt : k < ol.length
      · obtain ⟨g5, rfl, hg1, -⟩ := HA5.out (by omega)
        have hq := Q5.out g5 (by rfl)
        have hkz : (k : Int) < (ol.length : Int) := by omega
        have c1 := I.out.2.1.cell k (by rw [I.out.1]; exact hlt)
        have f1 := I.out.2.1.free k
        have J : Hid ((M.set k (-7)).length = ol.length ∧ OwnR w4.heap.size (.slice (some ⟨g5, 0, none⟩) ol.length d5) (M.set k (-7)) (wr.setCell ⟨g5, k, none⟩ (.int .i32 (-7))) ∧ OwnR w5.heap.size (.slice A6 jl.length d6) jl (wr.setCell ⟨g5, k, none⟩ (.int .i32 (-7))) ∧ Below w4.heap.size w4 (wr.setCell ⟨g5, k, none⟩ (.int .i32 (-7)))) := by
          refine ⟨by rw [List.length_set]; exact I.out.1, I.out.2.1.put k (-7), I.out.2.2.1.other I.out.2.1 (fun e => ?_) (-7), I.out.2.2.2.setCell (p := ⟨g5, k, none⟩) hg1 _⟩
          have := I.out.2.2.1.off g5 e
          omega
        clear I hq hg1
        go_wp2
        go_roundg (ol.length - k)
        case measure => omega
        case rel => exact ⟨k + 1, _, by go_num, by omega, by omega, J⟩
      · obtain rfl : k = ol.length := by omega
        go_wp2
        go_loopg [15] (jl.length + 1) (fun gk i wr => ∃ (k : Nat) (M : List Int), i = .int .i64 k ∧ k ≤ jl.length ∧ jl.length - k < gk ∧ Hid (M.length = jl.length ∧ OwnR w5.heap.size (.slice A6 jl.length d6) M wr ∧ Below w4.heap.size w4 wr))
        case atStart => exact ⟨0, jl, rfl, Nat.zero_le _, by omega, ⟨rfl, I.out.2.2.1, I.out.2.2.2⟩⟩
        case round =>
          clear I
          obtain ⟨k, M, rfl, hk, hg, I⟩ := hrel
          by_cases hlt : k < jl.length
          · obtain ⟨g6, rfl, hg1, -⟩ := HA6.out (by omega)
            have hkz : (k : Int) < (jl.length : Int) := by omega
            have c1 := I.out.2.1.cell k (by rw [I.out.1]; exact hlt)
            have f1 := I.out.2.1.free k
            have J : Hid ((M.set k (-7)).length = jl.length ∧ OwnR w5.heap.size (.slice (some ⟨g6, 0, none⟩) jl.length d6) (M.set k (-7)) (wr.setCell ⟨g6, k, none⟩ (.int .i32 (-7))) ∧ Below w4.heap.size w4 (wr.setCell ⟨g6, k, none⟩ (.int .i32 (-7)))) :=
              ⟨by rw [List.length_set]; exact I.out.1, I.out.2.1.put k (-7), I.out.2.2.setCell (p := ⟨g6, k, none⟩) (Nat.le_trans h45 hg1) _⟩
            clear I hg1
            go_wp2
            go_roundg (jl.length - k)
            case measure => omega
            case rel => exact ⟨k + 1, _, by go_num, by omega, by omega, J⟩
          · obtain rfl : k = jl.length := by omega
            have BB := Lib.hid (BW4.out.trans (I.out.2.2.mono BW4.out.size))
            go_wp2_with fail
            refine (S4.out _ _ _ (R4.out.keep I.out.2.2) (HL.out.keep BB.out)).mono ?_
            unfold SamePost
            rw [decide_eq_true rfl]
            rintro e w13 ⟨rfl, hb13⟩
            have B13 := Lib.hid (below_then BB.out hb13)
            clear hb13
            go_wp2
            go_ret
            exact ⟨rfl, B13.out⟩
  · have HF := Lib.hid (fun W (h : Runes v l W) => few_any v l W h (decide_eq_false hn))
    go_enter Try.func3, Try.ntmps3
    go_wp2_with fail
    refine (small3_any _).mono ?_
    rintro e w1 ⟨rfl, hb1⟩
    have B1 := Lib.hid hb1
    clear hb1
    go_wp2_with fail
    refine (HF.out _ (HL.out.keep B1.out)).mono ?_
    rintro e w1' ⟨rfl, rfl⟩
    go_wp2
    go_ret
    exact ⟨rfl, B1.out⟩
end Go.Proofs.Ytpmcmbkilcpleaa
namespace Go.Proofs.Ytpmcmbkilcpleaa
open Go.RowKit Utf
theorem fits_of {s : ByteArray} (hs : s.size ≤ 200) {m : List Nat} (h : rdOf s.data.toList = (m, -1)) (soft : Bool) : Fits soft s m := by
  have h1 := (rd_cases h).2.1
  have h2 : m.length ≤ 200 := by simp at h1; omega
  have h3 := down_len soft (ints m)
  have h4 : (ints m).length = m.length := by simp [ints]
  exact ⟨by omega, h, by omega, by omega⟩
set_option maxRecDepth 100000 in
set_option maxHeartbeats 8000000 in
theorem forms_walk (s : ByteArray) (w : World) : Calls Try.prog 4 #[.string s] w fun e w' => e = .returned (.bool true) ∧ Below w.heap.size w w' := by
  by_cases hs : s.size ≤ 200
  · have hsz : (s.size : Int) ≤ 200 := by omega
    obtain ⟨⟨m, z⟩, hrd⟩ : ∃ p, rdOf s.data.toList = p := ⟨_, rfl⟩
    obtain ⟨hm1, hm2, hmz⟩ := rd_cases hrd
    rcases hmz with ⟨rfl, -⟩ | ⟨k, rfl, -, -⟩
    · have hml : m.length ≤ 200 := by simp at hm2; omega
      have F0 := Lib.hid (fits_of hs hrd false)
      have F1 := Lib.hid (fits_of hs hrd true)
      have Q := Lib.hid (fun soft join W => form3_yes s soft join W (by omega) hml hrd)
      obtain ⟨a, ha⟩ : ∃ a, encZ (formOf false false (ints m)) = a := ⟨_, rfl⟩
      obtain ⟨b, hb⟩ : ∃ b, encZ (formOf false true (ints m)) = b := ⟨_, rfl⟩
      obtain ⟨c, hc⟩ : ∃ c, encZ (formOf true false (ints m)) = c := ⟨_, rfl⟩
      obtain ⟨d, hd⟩ : ∃ d, encZ (formOf true true (ints m)) = d := ⟨_, rfl⟩
      have Q1 := Q.out false false
      have Q2 := Q.out false true
      have Q3 := Q.out true false
      have Q4 := Q.out true true
      rw [ha] at Q1
      rw [hb] at Q2
      rw [hc] at Q3
      rw [hd] at Q4
      have R1 := Lib.hid Q1
      have R2 := Lib.hid Q2
      have R3 := Lib.hid Q3
      have R4 := Lib.hid Q4
      have HA := Lib.hid ha
      have HB := Lib.hid hb
      have HC := Lib.hid hc
      have HD := Lib.hid hd
      clear hrd hm1 hm2 hml Q Q1 Q2 Q3 Q4 ha hb hc hd
      cases hbs : (b == s.toList)
      all_goals
        have IB := Lib.hid ((congrArg (· == s.toList) HB.out).trans hbs)
        go_enter Try.func4, Try.ntmps4
        go_wp2_with fail
        refine (small3_any _).mono ?_
        rintro e w1 ⟨rfl, hb1⟩
        have B1 := Lib.hid hb1
        clear hb1
        go_wp2_with fail
        refine (new_any _).mono ?_
        rintro e w2 ⟨tt, rfl, hT, hb2⟩
        have hT' := hT
        obtain ⟨b0, b1, b2, b3, rfl, -, -, -, -⟩ := hT'
        have K0 := Lib.hid (kept_new (b0 := b0) (b1 := b1) (b2 := b2) (b3 := b3) (below_then B1.out hb2) hT 30)
        clear hT hb2 B1
        go_wp2_with fail
        refine (nfd_at K0.out F0.out HA.out).mono ?_
        rintro e w3 ⟨rfl, K1, L1⟩
        obtain ⟨hS, c0, c1, c2, c3⟩ := K1.out.held
        clear K0 L1
        go_wp2_with fail
        refine (nfc_at K1.out F0.out HB.out).mono ?_
        rintro e w4 ⟨rfl, K2, L2⟩
        obtain ⟨hS, c0, c1, c2, c3⟩ := K2.out.held
        clear K1 L2
        go_wp2_with fail
        refine (nfkd_at K2.out F1.out HC.out).mono ?_
        rintro e w5 ⟨rfl, K3, L3⟩
        obtain ⟨hS, c0, c1, c2, c3⟩ := K3.out.held
        clear K2 L3
        go_wp2_with fail
        refine (nfkc_at K3.out F1.out HD.out).mono ?_
        rintro e w6 ⟨rfl, K4, L4⟩
        obtain ⟨hS, c0, c1, c2, c3⟩ := K4.out.held
        clear K3 L4
        go_wp2_with fail
        refine (R1.out _).mono ?_
        rintro e w7 ⟨rfl, hbb⟩
        have K5 := Lib.hid (K4.out.next hbb)
        obtain ⟨hS, c0, c1, c2, c3⟩ := K5.out.held
        clear K4 hbb
        go_wp2_with fail
        refine (R2.out _).mono ?_
        rintro e w8 ⟨rfl, hbb⟩
        have K6 := Lib.hid (K5.out.next hbb)
        obtain ⟨hS, c0, c1, c2, c3⟩ := K6.out.held
        clear K5 hbb
        go_wp2_with fail
        refine (R3.out _).mono ?_
        rintro e w9 ⟨rfl, hbb⟩
        have K7 := Lib.hid (K6.out.next hbb)
        obtain ⟨hS, c0, c1, c2, c3⟩ := K7.out.held
        clear K6 hbb
        go_wp2_with fail
        refine (R4.out _).mono ?_
        rintro e w10 ⟨rfl, hbb⟩
        have K8 := Lib.hid (K7.out.next hbb)
        obtain ⟨hS, c0, c1, c2, c3⟩ := K8.out.held
        clear K7 hbb
        go_wp2_with fail
        refine (is_at K8.out F0.out IB.out).mono ?_
        rintro e w11 ⟨rfl, K9, L9⟩
        obtain ⟨hS, c0, c1, c2, c3⟩ := K9.out.held
        clear K8 L9
        go_wp2
        go_ret
        exact ⟨rfl, K9.out.below⟩
    · have NO := Lib.hid hrd
      have Q := Lib.hid (fun soft join W => form3_no s soft join W (by omega) hrd)
      have hsb : s.size ≤ 100000 := by omega
      clear hrd hm1 hm2
      go_enter Try.func4, Try.ntmps4
      go_wp2_with fail
      refine (small3_any _).mono ?_
      rintro e w1 ⟨rfl, hb1⟩
      have B1 := Lib.hid hb1
      clear hb1
      go_wp2_with fail
      refine (new_any _).mono ?_
      rintro e w2 ⟨tt, rfl, hT, hb2⟩
      have hT' := hT
      obtain ⟨b0, b1, b2, b3, rfl, -, -, -, -⟩ := hT'
      have K0 := Lib.hid (kept_new (b0 := b0) (b1 := b1) (b2 := b2) (b3 := b3) (below_then B1.out hb2) hT 30)
      clear hT hb2 B1
      go_wp2_with fail
      refine (nfd_not K0.out hsb NO.out).mono ?_
      rintro e w3 ⟨rfl, K1, L1⟩
      obtain ⟨hS, c0, c1, c2, c3⟩ := K1.out.held
      clear K0 L1
      go_wp2_with fail
      refine (nfc_not K1.out hsb NO.out).mono ?_
      rintro e w4 ⟨rfl, K2, L2⟩
      obtain ⟨hS, c0, c1, c2, c3⟩ := K2.out.held
      clear K1 L2
      go_wp2_with fail
      refine (nfkd_not K2.out hsb NO.out).mono ?_
      rintro e w5 ⟨rfl, K3, L3⟩
      obtain ⟨hS, c0, c1, c2, c3⟩ := K3.out.held
      clear K2 L3
      go_wp2_with fail
      refine (nfkc_not K3.out hsb NO.out).mono ?_
      rintro e w6 ⟨rfl, K4, L4⟩
      obtain ⟨hS, c0, c1, c2, c3⟩ := K4.out.held
      clear K3 L4
      go_wp2_with fail
      refine (Q.out _ _ _).mono ?_
      rintro e w7 ⟨rfl, hbb⟩
      have K5 := Lib.hid (K4.out.next hbb)
      obtain ⟨hS, c0, c1, c2, c3⟩ := K5.out.held
      clear K4 hbb
      go_wp2_with fail
      refine (Q.out _ _ _).mono ?_
      rintro e w8 ⟨rfl, hbb⟩
      have K6 := Lib.hid (K5.out.next hbb)
      obtain ⟨hS, c0, c1, c2, c3⟩ := K6.out.held
      clear K5 hbb
      go_wp2_with fail
      refine (Q.out _ _ _).mono ?_
      rintro e w9 ⟨rfl, hbb⟩
      have K7 := Lib.hid (K6.out.next hbb)
      obtain ⟨hS, c0, c1, c2, c3⟩ := K7.out.held
      clear K6 hbb
      go_wp2_with fail
      refine (Q.out _ _ _).mono ?_
      rintro e w10 ⟨rfl, hbb⟩
      have K8 := Lib.hid (K7.out.next hbb)
      obtain ⟨hS, c0, c1, c2, c3⟩ := K8.out.held
      clear K7 hbb
      go_wp2_with fail
      refine (is_not K8.out hsb NO.out).mono ?_
      rintro e w11 ⟨rfl, K9, L9⟩
      obtain ⟨hS, c0, c1, c2, c3⟩ := K9.out.held
      clear K8 L9
      go_wp2
      go_ret
      exact ⟨rfl, K9.out.below⟩
  · have hsz : ¬ (s.size : Int) ≤ 200 := by omega
    have hsg : (200 : Int) < (s.size : Int) := by omega
    go_enter Try.func4, Try.ntmps4
    go_wp2_with fail
    refine (small3_any _).mono ?_
    rintro e w1 ⟨rfl, hb1⟩
    have B1 := Lib.hid hb1
    clear hb1
    go_wp2
    go_ret
    exact ⟨rfl, B1.out⟩
end Go.Proofs.Ytpmcmbkilcpleaa
namespace Go.Proofs.Ytpmcmbkilcpleaa
open Go.RowKit Utf
theorem fits_enc {soft : Bool} {X : List Int} {s : ByteArray} (hs : s.data.toList = encZ X) (hX : rightsZ X = true) (hl : X.length ≤ 9600) (hd : (Norm.down soft X).length ≤ 9600) : Fits soft s (X.map Int.toNat) ∧ ints (X.map Int.toNat) = X := by
  obtain ⟨i1, -, -⟩ := ints_back hX
  have h1 := encZ_len X
  have h2 : s.size = (encZ X).length := by rw [← hs]; simp
  exact ⟨⟨by omega, by rw [hs]; exact rd_enc hX, by rw [List.length_map]; omega, by rw [i1]; omega⟩, i1⟩
theorem again {soft join : Bool} {X Y : List Int} (hX : rightsZ X = true) (hl : X.length ≤ 9600) (hd : (Norm.down soft X).length ≤ 9600) (hf : formOf soft join X = Y) :
    ∃ m, Fits soft ⟨(encZ X).toArray⟩ m ∧ encZ (formOf soft join (ints m)) = encZ Y := by
  obtain ⟨h1, h2⟩ := fits_enc (soft := soft) (s := ⟨(encZ X).toArray⟩) (by simp) hX hl hd
  exact ⟨_, h1, by rw [h2, hf]⟩
set_option maxRecDepth 100000 in
set_option maxHeartbeats 8000000 in
theorem same_walk (s : ByteArray) (w : World) : Calls Try.prog 5 #[.string s] w fun e w' => e = .returned (.bool true) ∧ Below w.heap.size w w' := by
  by_cases hs : s.size ≤ 200
  · have hsz : (s.size : Int) ≤ 200 := by omega
    obtain ⟨⟨m, z⟩, hrd⟩ : ∃ p, rdOf s.data.toList = p := ⟨_, rfl⟩
    obtain ⟨hm1, hm2, hmz⟩ := rd_cases hrd
    rcases hmz with ⟨rfl, -⟩ | ⟨k, rfl, -, -⟩
    · have hml : m.length ≤ 200 := by simp at hm2; omega
      have F0 := Lib.hid (fits_of hs hrd false)
      have F1 := Lib.hid (fits_of hs hrd true)
      have hr := (ints_right m hm1).1
      have hil : (ints m).length = m.length := by simp [ints]
      have rD := down_right false hr
      have rK := down_right true hr
      have rC := join_right rD
      have rE := join_right rK
      have lD := down_len false (ints m)
      have lK := down_len true (ints m)
      have lC := join_len' (Norm.down false (ints m))
      have lE := join_len' (Norm.down true (ints m))
      have d1 := Norm.down_down false (ints m)
      have d2 := Norm.down_join false (ints m)
      have d3 := Norm.down_down true (ints m)
      have d4 := Norm.down_join true (ints m)
      have d5 := Norm.down_join_soft (ints m)
      have d6 := Norm.soft_down (ints m)
      have d7 := Norm.soft_join (ints m)
      have e1 : formOf false false (ints m) = Norm.down false (ints m) := rfl
      have e2 : formOf false true (ints m) = Norm.join (Norm.down false (ints m)) := rfl
      have e3 : formOf true false (ints m) = Norm.down true (ints m) := rfl
      have e4 : formOf true true (ints m) = Norm.join (Norm.down true (ints m)) := rfl
      have ha := congrArg encZ e1
      have hb := congrArg encZ e2
      have hc := congrArg encZ e3
      have hd := congrArg encZ e4
      generalize Norm.down false (ints m) = D at *
      generalize Norm.down true (ints m) = E at *
      obtain ⟨m1, f1, g1⟩ := again (soft := false) (join := false) rD (by omega) (by rw [d1]; omega) (show formOf false false D = D from d1)
      obtain ⟨m2, f2, g2⟩ := again (soft := false) (join := true) rC (by omega) (by rw [d2]; omega) (show formOf false true (Norm.join D) = Norm.join D by unfold formOf; rw [if_pos rfl, d2])
      obtain ⟨m3, f3, g3⟩ := again (soft := false) (join := false) rC (by omega) (by rw [d2]; omega) (show formOf false false (Norm.join D) = D from d2)
      obtain ⟨m4, f4, g4⟩ := again (soft := false) (join := true) rD (by omega) (by rw [d1]; omega) (show formOf false true D = Norm.join D by unfold formOf; rw [if_pos rfl, d1])
      obtain ⟨m5, f5, g5⟩ := again (soft := true) (join := false) rK (by omega) (by rw [d3]; omega) (show formOf true false E = E from d3)
      obtain ⟨m6, f6, g6⟩ := again (soft := true) (join := true) rE (by omega) (by rw [d4]; omega) (show formOf true true (Norm.join E) = Norm.join E by unfold formOf; rw [if_pos rfl, d4])
      obtain ⟨m7, f7, g7⟩ := again (soft := false) (join := true) rE (by omega) (by rw [d5]; omega) (show formOf false true (Norm.join E) = Norm.join E by unfold formOf; rw [if_pos rfl, d5])
      obtain ⟨m8, f8, g8⟩ := again (soft := true) (join := true) rD (by omega) (by rw [d6]; omega) (show formOf true true D = Norm.join E by unfold formOf; rw [if_pos rfl, d6])
      obtain ⟨m9, f9, g9⟩ := again (soft := true) (join := true) rC (by omega) (by rw [d7]; omega) (show formOf true true (Norm.join D) = Norm.join E by unfold formOf; rw [if_pos rfl, d7])
      generalize encZ D = dd at *
      generalize encZ (Norm.join D) = cc at *
      generalize encZ E = kd at *
      generalize encZ (Norm.join E) = kc at *
      have IB : (encZ (formOf false true (ints m2)) == (⟨cc.toArray⟩ : ByteArray).toList) = true := by rw [g2, ByteArray.toList_eq]; simp
      have HA := Lib.hid ha
      have HB := Lib.hid hb
      have HC := Lib.hid hc
      have HD := Lib.hid hd
      have H1 := Lib.hid (And.intro f1 g1)
      have H2 := Lib.hid (And.intro f2 g2)
      have H3 := Lib.hid (And.intro f3 g3)
      have H4 := Lib.hid (And.intro f4 g4)
      have H5 := Lib.hid (And.intro f5 g5)
      have H6 := Lib.hid (And.intro f6 g6)
      have H7 := Lib.hid (And.intro f7 g7)
      have H8 := Lib.hid (And.intro f8 g8)
      have H9 := Lib.hid (And.intro f9 g9)
      have HI := Lib.hid IB
      clear hrd hm1 hm2 hml hr hil rD rK rC rE lD lK lC lE d1 d2 d3 d4 d5 d6 d7 e1 e2 e3 e4 ha hb hc hd f1 f2 f3 f4 f5 f6 f7 f8 f9 g1 g2 g3 g4 g5 g6 g7 g8 g9 IB
      go_enter Try.func5, Try.ntmps5
      go_wp2_with fail
      refine (small3_any _).mono ?_
      rintro e w1 ⟨rfl, hb1⟩
      have B1 := Lib.hid hb1
      clear hb1
      go_wp2_with fail
      refine (new_any _).mono ?_
      rintro e w2 ⟨tt, rfl, hT, hb2⟩
      have hT' := hT
      obtain ⟨b0, b1, b2, b3, rfl, -, -, -, -⟩ := hT'
      have K0 := Lib.hid (kept_new (b0 := b0) (b1 := b1) (b2 := b2) (b3 := b3) (below_then B1.out hb2) hT 30)
      clear hT hb2 B1
      go_wp2_with fail
      refine (nfd_at K0.out F0.out HA.out).mono ?_
      rintro e w3 ⟨rfl, K1, L1⟩
      obtain ⟨hS, c0, c1, c2, c3⟩ := K1.out.held
      clear K0 L1
      go_wp2_with fail
      refine (nfc_at K1.out F0.out HB.out).mono ?_
      rintro e w4 ⟨rfl, K2, L2⟩
      obtain ⟨hS, c0, c1, c2, c3⟩ := K2.out.held
      clear K1 L2
      go_wp2_with fail
      refine (nfkd_at K2.out F1.out HC.out).mono ?_
      rintro e w5 ⟨rfl, K3, L3⟩
      obtain ⟨hS, c0, c1, c2, c3⟩ := K3.out.held
      clear K2 L3
      go_wp2_with fail
      refine (nfkc_at K3.out F1.out HD.out).mono ?_
      rintro e w6 ⟨rfl, K4, L4⟩
      obtain ⟨hS, c0, c1, c2, c3⟩ := K4.out.held
      clear K3 L4
      go_wp2_with fail
      refine (nfd_at K4.out H1.out.1 H1.out.2).mono ?_
      rintro e w7 ⟨rfl, K5, L5⟩
      obtain ⟨hS, c0, c1, c2, c3⟩ := K5.out.held
      clear K4 L5
      go_wp2_with fail
      refine (nfc_at K5.out H2.out.1 H2.out.2).mono ?_
      rintro e w8 ⟨rfl, K6, L6⟩
      obtain ⟨hS, c0, c1, c2, c3⟩ := K6.out.held
      clear K5 L6
      go_wp2_with fail
      refine (nfd_at K6.out H3.out.1 H3.out.2).mono ?_
      rintro e w9 ⟨rfl, K7, L7⟩
      obtain ⟨hS, c0, c1, c2, c3⟩ := K7.out.held
      clear K6 L7
      go_wp2_with fail
      refine (nfc_at K7.out H4.out.1 H4.out.2).mono ?_
      rintro e w10 ⟨rfl, K8, L8⟩
      obtain ⟨hS, c0, c1, c2, c3⟩ := K8.out.held
      clear K7 L8
      go_wp2_with fail
      refine (is_at K8.out H2.out.1 HI.out).mono ?_
      rintro e w11 ⟨rfl, K9, L9⟩
      obtain ⟨hS, c0, c1, c2, c3⟩ := K9.out.held
      clear K8 L9
      go_wp2_with fail
      refine (nfkd_at K9.out H5.out.1 H5.out.2).mono ?_
      rintro e w12 ⟨rfl, K10, L10⟩
      obtain ⟨hS, c0, c1, c2, c3⟩ := K10.out.held
      clear K9 L10
      go_wp2_with fail
      refine (nfkc_at K10.out H6.out.1 H6.out.2).mono ?_
      rintro e w13 ⟨rfl, K11, L11⟩
      obtain ⟨hS, c0, c1, c2, c3⟩ := K11.out.held
      clear K10 L11
      go_wp2_with fail
      refine (nfc_at K11.out H7.out.1 H7.out.2).mono ?_
      rintro e w14 ⟨rfl, K12, L12⟩
      obtain ⟨hS, c0, c1, c2, c3⟩ := K12.out.held
      clear K11 L12
      go_wp2_with fail
      refine (nfkc_at K12.out H8.out.1 H8.out.2).mono ?_
      rintro e w15 ⟨rfl, K13, L13⟩
      obtain ⟨hS, c0, c1, c2, c3⟩ := K13.out.held
      clear K12 L13
      go_wp2_with fail
      refine (nfkc_at K13.out H9.out.1 H9.out.2).mono ?_
      rintro e w16 ⟨rfl, K14, L14⟩
      obtain ⟨hS, c0, c1, c2, c3⟩ := K14.out.held
      clear K13 L14
      go_wp2
      go_ret
      exact ⟨rfl, K14.out.below⟩
    · have NO := Lib.hid hrd
      have hsb : s.size ≤ 100000 := by omega
      clear hrd hm1 hm2
      go_enter Try.func5, Try.ntmps5
      go_wp2_with fail
      refine (small3_any _).mono ?_
      rintro e w1 ⟨rfl, hb1⟩
      have B1 := Lib.hid hb1
      clear hb1
      go_wp2_with fail
      refine (new_any _).mono ?_
      rintro e w2 ⟨tt, rfl, hT, hb2⟩
      have hT' := hT
      obtain ⟨b0, b1, b2, b3, rfl, -, -, -, -⟩ := hT'
      have K0 := Lib.hid (kept_new (b0 := b0) (b1 := b1) (b2 := b2) (b3 := b3) (below_then B1.out hb2) hT 30)
      clear hT hb2 B1
      go_wp2_with fail
      refine (nfd_not K0.out hsb NO.out).mono ?_
      rintro e w3 ⟨rfl, K1, L1⟩
      obtain ⟨hS, c0, c1, c2, c3⟩ := K1.out.held
      clear K0 L1
      go_wp2_with fail
      refine (is_not K1.out hsb NO.out).mono ?_
      rintro e w4 ⟨rfl, K2, L2⟩
      obtain ⟨hS, c0, c1, c2, c3⟩ := K2.out.held
      clear K1 L2
      go_wp2
      go_ret
      exact ⟨rfl, K2.out.below⟩
  · have hsz : ¬ (s.size : Int) ≤ 200 := by omega
    have hsg : (200 : Int) < (s.size : Int) := by omega
    go_enter Try.func5, Try.ntmps5
    go_wp2_with fail
    refine (small3_any _).mono ?_
    rintro e w1 ⟨rfl, hb1⟩
    have B1 := Lib.hid hb1
    clear hb1
    go_wp2
    go_ret
    exact ⟨rfl, B1.out⟩
end Go.Proofs.Ytpmcmbkilcpleaa
namespace Go.Proofs.Ytpmcmbkilcpleaa
open Go.RowKit Utf
theorem cls_nonneg (x : Int) : 0 ≤ clsOf x := by
  unfold clsOf
  cases h : classOf x with
  | none => exact Int.le_refl _
  | some y =>
    obtain ⟨hy, h1, h2⟩ := seek_some h
    obtain ⟨g0, g1, g2, g3, g4, g5, g6⟩ := class_rows y hy
    simp only
    rcases (show y.step = 0 ∨ y.step = 1 by omega) with e | e <;> rw [e] <;> omega
theorem turn_mem (L : List Int) (k : Nat) (h : k + 1 < L.length) (c : Int) : c ∈ Norm.turn L k ↔ c ∈ L := by
  have e := Norm.cut_two L k h
  rw [Norm.turn_eq L k h]
  conv => rhs; rw [e]
  simp only [List.mem_append, List.mem_cons]
  constructor <;> (rintro (h | h | h | h) <;> simp [h])
theorem turn_right (L : List Int) (k : Nat) (h : k + 1 < L.length) : rightsZ (Norm.turn L k) = rightsZ L := by
  unfold rightsZ
  rw [Bool.eq_iff_iff, List.all_eq_true, List.all_eq_true]
  exact ⟨fun hh c hc => hh c ((turn_mem L k h c).2 hc), fun hh c hc => hh c ((turn_mem L k h c).1 hc)⟩
theorem turn_sim (L : List Int) (k : Nat) (h : k + 1 < L.length) (ha : clsOf L[k]! ≠ 0) (hb : clsOf L[k + 1]! ≠ 0) (hab : clsOf L[k]! ≠ clsOf L[k + 1]!) : Norm.Sim L (Norm.turn L k) := by
  have h1 := cls_nonneg L[k]!
  have h2 := cls_nonneg L[k + 1]!
  have := Norm.Sim.swap (L.take k) L[k]! L[k + 1]! (L.drop (k + 2)) (by omega) (by omega) hab
  rwa [← Norm.cut_two L k h, ← Norm.turn_eq L k h] at this
set_option maxRecDepth 100000 in
set_option maxHeartbeats 8000000 in
theorem order3_walk (v : Value) (l : List Int) (p : Int) (w : World) (hl : Runes v l w) : Calls Try.prog 6 #[v, .int .i64 p] w fun e w' => e = .returned (.bool true) ∧ Below w.heap.size w w' := by
  have HL := Lib.hid hl
  by_cases hn : l.length ≤ 120 ∧ 0 ≤ p ∧ p + 1 < (l.length : Int)
  · obtain ⟨hn1, hp0, hp1⟩ := hn
    obtain ⟨k, rfl⟩ : ∃ k : Nat, p = (k : Int) := ⟨p.toNat, by omega⟩
    have hk1 : k + 1 < l.length := by omega
    have HF := Lib.hid (fun W (h : Runes v l W) => few_any v l W h (decide_eq_true hn1))
    obtain ⟨A, c, rfl, hc, hcell⟩ := hl.form
    obtain ⟨ad, rfl, had, hx⟩ := hcell k (by omega)
    obtain ⟨ad', e, -, hy⟩ := hcell (k + 1) hk1
    obtain rfl : ad = ad' := by injection e
    obtain ⟨x, hxe⟩ : ∃ x, x = l[k]! := ⟨_, rfl⟩
    obtain ⟨y, hye⟩ : ∃ y, y = l[k + 1]! := ⟨_, rfl⟩
    rw [← hxe] at hx
    rw [← hye, show ad.add (k + 1) = ⟨ad.block, ad.off + (k + 1), none⟩ by unfold Addr.add; rw [if_neg (by omega)]] at hy
    obtain ⟨a, hca⟩ : ∃ a, clsOf x = a := ⟨_, rfl⟩
    obtain ⟨b, hcb⟩ : ∃ b, clsOf y = b := ⟨_, rfl⟩
    obtain ⟨ok, hok⟩ : ∃ ok, rightsZ l = ok := ⟨_, rfl⟩
    obtain ⟨bs, hbs⟩ : ∃ bs, strB l = bs := ⟨_, rfl⟩
    obtain ⟨bq, hbq⟩ : ∃ bq, strB (Norm.turn l k) = bq := ⟨_, rfl⟩
    have htl := Norm.turn_len l k
    have ST1 := Lib.hid (fun W (h : Runes (.slice (some ad) l.length c) l W) => string_at _ l W h (by omega) hok hbs)
    have ST2 := Lib.hid (fun x W (h : Runes x (Norm.turn l k) W) => string_at x (Norm.turn l k) W h (by omega) ((turn_right l k hk1).trans hok) hbq)
    have HXE := Lib.hid hxe
    have HYE := Lib.hid hye
    have HX := Lib.hid hx
    have HY := Lib.hid hy
    have HAD := Lib.hid had
    have HCA := Lib.hid hca
    have HCB := Lib.hid hcb
    have HOK := Lib.hid hok
    have HBS := Lib.hid hbs
    have HBQ := Lib.hid hbq
    have hkz : (k : Int) < (l.length : Int) := by omega
    have hkz1 : (k : Int) + 1 < (l.length : Int) := by omega
    have hkz2 : ¬ (l.length : Int) - 1 ≤ (k : Int) := by omega
    have hkz3 : (0 : Int) ≤ (k : Int) + 1 := by omega
    have hkz4 : IntKind.i64.wrap ((k : Int) + 1) = (k : Int) + 1 := by rw [IntWalk.i64_in _ (by omega)]
    clear hl hcell hx hy hxe hye hca hcb hok hbs hbq htl e had
    by_cases ha : a = 0
    · have e1 : (a == 0) = true := by simpa using ha
      clear ha
      go_enter Try.func6, Try.ntmps6
      go_wp2_with fail
      refine (small3_any _).mono ?_
      rintro e w1 ⟨rfl, hb1⟩
      have B1 := Lib.hid hb1
      clear hb1
      go_wp2_with fail
      refine (HF.out _ (HL.out.keep B1.out)).mono ?_
      rintro e w1' ⟨rfl, rfl⟩
      go_wp2_with fail
      refine (new_any _).mono ?_
      rintro e w2 ⟨tt, rfl, hT, hb2⟩
      have hT' := hT
      obtain ⟨b0, b1, b2, b3, rfl, -, -, -, -⟩ := hT'
      have K0 := Lib.hid (kept_new (b0 := b0) (b1 := b1) (b2 := b2) (b3 := b3) (below_then B1.out hb2) hT 30)
      clear hT hb2 B1
      obtain ⟨W0, hW0⟩ : ∃ W0, W0 = w2.alloc (.cells #[.slice (some ⟨b0, 0, none⟩) 74 74, .slice (some ⟨b1, 0, none⟩) 10 10, .slice (some ⟨b2, 0, none⟩) 11 11, .slice (some ⟨b3, 0, none⟩) 42 42] 30) := ⟨_, rfl⟩
      rw [← hW0] at K0
      have HW0 := Lib.hid hW0
      obtain ⟨hS, c0, c1, c2, c3⟩ := K0.out.held
      have x0 := (K0.out.below.cell (by rw [add_block]; exact HAD.out)).trans HX.out
      have y0 := (K0.out.below.cell (p := ⟨ad.block, ad.off + (k + 1), none⟩) HAD.out).trans HY.out
      clear hW0
      go_wp2
      rw [← HW0.out]
      go_region_held3 (fun w' => w'.cell? (ad.add k) = some (.int .i32 x) ∧ w'.cell? ⟨w2.heap.size, 0, none⟩ = some (.slice (some ⟨b0, 0, none⟩) 74 74) ∧ w'.cell? ⟨w2.heap.size, 1, none⟩ = some (.slice (some ⟨b1, 0, none⟩) 10 10) ∧ w'.cell? ⟨w2.heap.size, 2, none⟩ = some (.slice (some ⟨b2, 0, none⟩) 11 11) ∧ w'.cell? ⟨w2.heap.size, 3, none⟩ = some (.slice (some ⟨b3, 0, none⟩) 42 42)) (go_keep) ((go_at_call 25; (with_reducible refine (class_at K0.out.drew HCA.out).mono ?_); rintro e w3 ⟨rfl, K1, L1⟩; obtain ⟨hS3, p0, p1, p2, p3⟩ := K1.out.held; have x3 := (K1.out.below.cell (by rw [add_block]; exact HAD.out)).trans HX.out; have y3 := (K1.out.below.cell (p := ⟨ad.block, ad.off + (k + 1), none⟩) HAD.out).trans HY.out; clear L1))
      clear K0 c0 c1 c2 c3 x0 y0 hS
      go_wp2
      go_region_held3 (fun w' => w'.cell? ⟨ad.block, ad.off + (k + 1), none⟩ = some (.int .i32 y) ∧ w'.cell? ⟨w2.heap.size, 0, none⟩ = some (.slice (some ⟨b0, 0, none⟩) 74 74) ∧ w'.cell? ⟨w2.heap.size, 1, none⟩ = some (.slice (some ⟨b1, 0, none⟩) 10 10) ∧ w'.cell? ⟨w2.heap.size, 2, none⟩ = some (.slice (some ⟨b2, 0, none⟩) 11 11) ∧ w'.cell? ⟨w2.heap.size, 3, none⟩ = some (.slice (some ⟨b3, 0, none⟩) 42 42)) (go_keep) ((go_at_call 25; (with_reducible refine (class_at K1.out.drew HCB.out).mono ?_); rintro e w4 ⟨rfl, K2, L2⟩; obtain ⟨hS4, r0, r1, r2, r3⟩ := K2.out.held; have x4 := (K2.out.below.cell (by rw [add_block]; exact HAD.out)).trans HX.out; have y4 := (K2.out.below.cell (p := ⟨ad.block, ad.off + (k + 1), none⟩) HAD.out).trans HY.out; clear L2))
      clear K1 p0 p1 p2 p3 x3 y3 hS3
      go_wp2_with fail
      refine (ST1.out _ (HL.out.keep K2.out.below)).mono ?_
      rintro e w5 ⟨rfl, hb5⟩
      have K3 := Lib.hid (K2.out.next hb5)
      obtain ⟨hS5, t0, t1, t2, t3⟩ := K3.out.held
      clear K2 hb5 r0 r1 r2 r3 x4 y4 hS4
      have OW := Lib.hid (own_empty w5 w5.heap.size (Nat.le_refl _))
      have hcap0 : w.heap.size ≤ w5.heap.size := K3.out.below.size
      go_wp2_with (at_builtin; refine append_row (w5.alloc (.cells #[] 21)) 22 21 (.int .i32 0) 4 Try.underlying22 info_i32 rfl (by omega) w5.heap.size _ _ _ OW.out (by simp) (by omega) _ _ (HL.out.keep (K3.out.next (below_one w5 _)).below) (one_runes _) (by rw [List.length_map]; omega) rfl _ _ rfl rfl rfl ?_; intro v6 w6 ho6 hb6; have hO6 : OwnR w5.heap.size v6 l w6 := OwnR.more (l := []) ho6 rfl (by rw [List.length_map]); obtain ⟨A6, d6, rfl, hA6⟩ := hO6.shape; obtain ⟨g6, rfl, hg6, hg7⟩ := hA6 (by omega); have O6 := Lib.hid hO6; have BB6 := Lib.hid ((below_one w5 _).trans hb6); have x6 := ((K3.out.next BB6.out).below.cell (by rw [add_block]; exact HAD.out)).trans HX.out; have y6 := ((K3.out.next BB6.out).below.cell (p := ⟨ad.block, ad.off + (k + 1), none⟩) HAD.out).trans HY.out; have f6 := hO6.free k; have f7 := hO6.free (k + 1); have m6 := hO6.cell k (by omega); have m7 := hO6.cell (k + 1) (by omega); (rw [← HXE.out] at m6); (rw [← HYE.out] at m7); have hne : ad.block ≠ g6 := (by have := HAD.out; omega); have x7 := (World.cell?_setCell_other w6 ⟨g6, k, none⟩ (ad.add k) (.int .i32 y) (by intro e; have h1 := congrArg Addr.block e; have h2 := add_block ad k; simp only at h1; omega)).trans x6; clear ho6 hb6 hO6 hA6)
      have M7 : Hid (OwnR w5.heap.size (.slice (some ⟨g6, 0, none⟩) l.length d6) (Norm.turn l k) ((w6.setCell ⟨g6, k, none⟩ (.int .i32 y)).setCell ⟨g6, k + 1, none⟩ (.int .i32 x)) ∧ Kept w w2.heap.size b0 b1 b2 b3 ((w6.setCell ⟨g6, k, none⟩ (.int .i32 y)).setCell ⟨g6, k + 1, none⟩ (.int .i32 x))) := by
        refine ⟨?_, K3.out.next ((BB6.out.setCell (p := ⟨g6, k, none⟩) hg6 _).setCell (p := ⟨g6, k + 1, none⟩) hg6 _)⟩
        have h := (O6.out.put k y).put (k + 1) x
        rwa [turn_set HXE.out HYE.out] at h
      refine (ST2.out _ _ M7.out.1.runes).mono ?_
      rintro e w8 ⟨rfl, hb8⟩
      have K4 := Lib.hid (M7.out.2.next hb8)
      obtain ⟨hS8, q0, q1, q2, q3⟩ := K4.out.held
      clear hb8 M7 O6 K3 BB6 x6 y6 x7 f6 f7 m6 m7 t0 t1 t2 t3 hS5
      go_wp2
      go_ret
      exact ⟨rfl, K4.out.below⟩
    by_cases hb : b = 0
    · have e1 : (a == 0) = false := by simpa using ha
      have e2 : (b == 0) = true := by simpa using hb
      clear ha hb
      go_enter Try.func6, Try.ntmps6
      go_wp2_with fail
      refine (small3_any _).mono ?_
      rintro e w1 ⟨rfl, hb1⟩
      have B1 := Lib.hid hb1
      clear hb1
      go_wp2_with fail
      refine (HF.out _ (HL.out.keep B1.out)).mono ?_
      rintro e w1' ⟨rfl, rfl⟩
      go_wp2_with fail
      refine (new_any _).mono ?_
      rintro e w2 ⟨tt, rfl, hT, hb2⟩
      have hT' := hT
      obtain ⟨b0, b1, b2, b3, rfl, -, -, -, -⟩ := hT'
      have K0 := Lib.hid (kept_new (b0 := b0) (b1 := b1) (b2 := b2) (b3 := b3) (below_then B1.out hb2) hT 30)
      clear hT hb2 B1
      obtain ⟨W0, hW0⟩ : ∃ W0, W0 = w2.alloc (.cells #[.slice (some ⟨b0, 0, none⟩) 74 74, .slice (some ⟨b1, 0, none⟩) 10 10, .slice (some ⟨b2, 0, none⟩) 11 11, .slice (some ⟨b3, 0, none⟩) 42 42] 30) := ⟨_, rfl⟩
      rw [← hW0] at K0
      have HW0 := Lib.hid hW0
      obtain ⟨hS, c0, c1, c2, c3⟩ := K0.out.held
      have x0 := (K0.out.below.cell (by rw [add_block]; exact HAD.out)).trans HX.out
      have y0 := (K0.out.below.cell (p := ⟨ad.block, ad.off + (k + 1), none⟩) HAD.out).trans HY.out
      clear hW0
      go_wp2
      rw [← HW0.out]
      go_region_held3 (fun w' => w'.cell? (ad.add k) = some (.int .i32 x) ∧ w'.cell? ⟨w2.heap.size, 0, none⟩ = some (.slice (some ⟨b0, 0, none⟩) 74 74) ∧ w'.cell? ⟨w2.heap.size, 1, none⟩ = some (.slice (some ⟨b1, 0, none⟩) 10 10) ∧ w'.cell? ⟨w2.heap.size, 2, none⟩ = some (.slice (some ⟨b2, 0, none⟩) 11 11) ∧ w'.cell? ⟨w2.heap.size, 3, none⟩ = some (.slice (some ⟨b3, 0, none⟩) 42 42)) (go_keep) ((go_at_call 25; (with_reducible refine (class_at K0.out.drew HCA.out).mono ?_); rintro e w3 ⟨rfl, K1, L1⟩; obtain ⟨hS3, p0, p1, p2, p3⟩ := K1.out.held; have x3 := (K1.out.below.cell (by rw [add_block]; exact HAD.out)).trans HX.out; have y3 := (K1.out.below.cell (p := ⟨ad.block, ad.off + (k + 1), none⟩) HAD.out).trans HY.out; clear L1))
      clear K0 c0 c1 c2 c3 x0 y0 hS
      go_wp2
      go_region_held3 (fun w' => w'.cell? ⟨ad.block, ad.off + (k + 1), none⟩ = some (.int .i32 y) ∧ w'.cell? ⟨w2.heap.size, 0, none⟩ = some (.slice (some ⟨b0, 0, none⟩) 74 74) ∧ w'.cell? ⟨w2.heap.size, 1, none⟩ = some (.slice (some ⟨b1, 0, none⟩) 10 10) ∧ w'.cell? ⟨w2.heap.size, 2, none⟩ = some (.slice (some ⟨b2, 0, none⟩) 11 11) ∧ w'.cell? ⟨w2.heap.size, 3, none⟩ = some (.slice (some ⟨b3, 0, none⟩) 42 42)) (go_keep) ((go_at_call 25; (with_reducible refine (class_at K1.out.drew HCB.out).mono ?_); rintro e w4 ⟨rfl, K2, L2⟩; obtain ⟨hS4, r0, r1, r2, r3⟩ := K2.out.held; have x4 := (K2.out.below.cell (by rw [add_block]; exact HAD.out)).trans HX.out; have y4 := (K2.out.below.cell (p := ⟨ad.block, ad.off + (k + 1), none⟩) HAD.out).trans HY.out; clear L2))
      clear K1 p0 p1 p2 p3 x3 y3 hS3
      go_wp2_with fail
      refine (ST1.out _ (HL.out.keep K2.out.below)).mono ?_
      rintro e w5 ⟨rfl, hb5⟩
      have K3 := Lib.hid (K2.out.next hb5)
      obtain ⟨hS5, t0, t1, t2, t3⟩ := K3.out.held
      clear K2 hb5 r0 r1 r2 r3 x4 y4 hS4
      have OW := Lib.hid (own_empty w5 w5.heap.size (Nat.le_refl _))
      have hcap0 : w.heap.size ≤ w5.heap.size := K3.out.below.size
      go_wp2_with (at_builtin; refine append_row (w5.alloc (.cells #[] 21)) 22 21 (.int .i32 0) 4 Try.underlying22 info_i32 rfl (by omega) w5.heap.size _ _ _ OW.out (by simp) (by omega) _ _ (HL.out.keep (K3.out.next (below_one w5 _)).below) (one_runes _) (by rw [List.length_map]; omega) rfl _ _ rfl rfl rfl ?_; intro v6 w6 ho6 hb6; have hO6 : OwnR w5.heap.size v6 l w6 := OwnR.more (l := []) ho6 rfl (by rw [List.length_map]); obtain ⟨A6, d6, rfl, hA6⟩ := hO6.shape; obtain ⟨g6, rfl, hg6, hg7⟩ := hA6 (by omega); have O6 := Lib.hid hO6; have BB6 := Lib.hid ((below_one w5 _).trans hb6); have x6 := ((K3.out.next BB6.out).below.cell (by rw [add_block]; exact HAD.out)).trans HX.out; have y6 := ((K3.out.next BB6.out).below.cell (p := ⟨ad.block, ad.off + (k + 1), none⟩) HAD.out).trans HY.out; have f6 := hO6.free k; have f7 := hO6.free (k + 1); have m6 := hO6.cell k (by omega); have m7 := hO6.cell (k + 1) (by omega); (rw [← HXE.out] at m6); (rw [← HYE.out] at m7); have hne : ad.block ≠ g6 := (by have := HAD.out; omega); have x7 := (World.cell?_setCell_other w6 ⟨g6, k, none⟩ (ad.add k) (.int .i32 y) (by intro e; have h1 := congrArg Addr.block e; have h2 := add_block ad k; simp only at h1; omega)).trans x6; clear ho6 hb6 hO6 hA6)
      have M7 : Hid (OwnR w5.heap.size (.slice (some ⟨g6, 0, none⟩) l.length d6) (Norm.turn l k) ((w6.setCell ⟨g6, k, none⟩ (.int .i32 y)).setCell ⟨g6, k + 1, none⟩ (.int .i32 x)) ∧ Kept w w2.heap.size b0 b1 b2 b3 ((w6.setCell ⟨g6, k, none⟩ (.int .i32 y)).setCell ⟨g6, k + 1, none⟩ (.int .i32 x))) := by
        refine ⟨?_, K3.out.next ((BB6.out.setCell (p := ⟨g6, k, none⟩) hg6 _).setCell (p := ⟨g6, k + 1, none⟩) hg6 _)⟩
        have h := (O6.out.put k y).put (k + 1) x
        rwa [turn_set HXE.out HYE.out] at h
      refine (ST2.out _ _ M7.out.1.runes).mono ?_
      rintro e w8 ⟨rfl, hb8⟩
      have K4 := Lib.hid (M7.out.2.next hb8)
      obtain ⟨hS8, q0, q1, q2, q3⟩ := K4.out.held
      clear hb8 M7 O6 K3 BB6 x6 y6 x7 f6 f7 m6 m7 t0 t1 t2 t3 hS5
      go_wp2
      go_ret
      exact ⟨rfl, K4.out.below⟩
    by_cases hab : a = b
    · have e1 : (a == 0) = false := by simpa using ha
      have e2 : (b == 0) = false := by simpa using hb
      have e3 : (a == b) = true := by simpa using hab
      clear ha hb hab
      go_enter Try.func6, Try.ntmps6
      go_wp2_with fail
      refine (small3_any _).mono ?_
      rintro e w1 ⟨rfl, hb1⟩
      have B1 := Lib.hid hb1
      clear hb1
      go_wp2_with fail
      refine (HF.out _ (HL.out.keep B1.out)).mono ?_
      rintro e w1' ⟨rfl, rfl⟩
      go_wp2_with fail
      refine (new_any _).mono ?_
      rintro e w2 ⟨tt, rfl, hT, hb2⟩
      have hT' := hT
      obtain ⟨b0, b1, b2, b3, rfl, -, -, -, -⟩ := hT'
      have K0 := Lib.hid (kept_new (b0 := b0) (b1 := b1) (b2 := b2) (b3 := b3) (below_then B1.out hb2) hT 30)
      clear hT hb2 B1
      obtain ⟨W0, hW0⟩ : ∃ W0, W0 = w2.alloc (.cells #[.slice (some ⟨b0, 0, none⟩) 74 74, .slice (some ⟨b1, 0, none⟩) 10 10, .slice (some ⟨b2, 0, none⟩) 11 11, .slice (some ⟨b3, 0, none⟩) 42 42] 30) := ⟨_, rfl⟩
      rw [← hW0] at K0
      have HW0 := Lib.hid hW0
      obtain ⟨hS, c0, c1, c2, c3⟩ := K0.out.held
      have x0 := (K0.out.below.cell (by rw [add_block]; exact HAD.out)).trans HX.out
      have y0 := (K0.out.below.cell (p := ⟨ad.block, ad.off + (k + 1), none⟩) HAD.out).trans HY.out
      clear hW0
      go_wp2
      rw [← HW0.out]
      go_region_held3 (fun w' => w'.cell? (ad.add k) = some (.int .i32 x) ∧ w'.cell? ⟨w2.heap.size, 0, none⟩ = some (.slice (some ⟨b0, 0, none⟩) 74 74) ∧ w'.cell? ⟨w2.heap.size, 1, none⟩ = some (.slice (some ⟨b1, 0, none⟩) 10 10) ∧ w'.cell? ⟨w2.heap.size, 2, none⟩ = some (.slice (some ⟨b2, 0, none⟩) 11 11) ∧ w'.cell? ⟨w2.heap.size, 3, none⟩ = some (.slice (some ⟨b3, 0, none⟩) 42 42)) (go_keep) ((go_at_call 25; (with_reducible refine (class_at K0.out.drew HCA.out).mono ?_); rintro e w3 ⟨rfl, K1, L1⟩; obtain ⟨hS3, p0, p1, p2, p3⟩ := K1.out.held; have x3 := (K1.out.below.cell (by rw [add_block]; exact HAD.out)).trans HX.out; have y3 := (K1.out.below.cell (p := ⟨ad.block, ad.off + (k + 1), none⟩) HAD.out).trans HY.out; clear L1))
      clear K0 c0 c1 c2 c3 x0 y0 hS
      go_wp2
      go_region_held3 (fun w' => w'.cell? ⟨ad.block, ad.off + (k + 1), none⟩ = some (.int .i32 y) ∧ w'.cell? ⟨w2.heap.size, 0, none⟩ = some (.slice (some ⟨b0, 0, none⟩) 74 74) ∧ w'.cell? ⟨w2.heap.size, 1, none⟩ = some (.slice (some ⟨b1, 0, none⟩) 10 10) ∧ w'.cell? ⟨w2.heap.size, 2, none⟩ = some (.slice (some ⟨b2, 0, none⟩) 11 11) ∧ w'.cell? ⟨w2.heap.size, 3, none⟩ = some (.slice (some ⟨b3, 0, none⟩) 42 42)) (go_keep) ((go_at_call 25; (with_reducible refine (class_at K1.out.drew HCB.out).mono ?_); rintro e w4 ⟨rfl, K2, L2⟩; obtain ⟨hS4, r0, r1, r2, r3⟩ := K2.out.held; have x4 := (K2.out.below.cell (by rw [add_block]; exact HAD.out)).trans HX.out; have y4 := (K2.out.below.cell (p := ⟨ad.block, ad.off + (k + 1), none⟩) HAD.out).trans HY.out; clear L2))
      clear K1 p0 p1 p2 p3 x3 y3 hS3
      go_wp2_with fail
      refine (ST1.out _ (HL.out.keep K2.out.below)).mono ?_
      rintro e w5 ⟨rfl, hb5⟩
      have K3 := Lib.hid (K2.out.next hb5)
      obtain ⟨hS5, t0, t1, t2, t3⟩ := K3.out.held
      clear K2 hb5 r0 r1 r2 r3 x4 y4 hS4
      have OW := Lib.hid (own_empty w5 w5.heap.size (Nat.le_refl _))
      have hcap0 : w.heap.size ≤ w5.heap.size := K3.out.below.size
      go_wp2_with (at_builtin; refine append_row (w5.alloc (.cells #[] 21)) 22 21 (.int .i32 0) 4 Try.underlying22 info_i32 rfl (by omega) w5.heap.size _ _ _ OW.out (by simp) (by omega) _ _ (HL.out.keep (K3.out.next (below_one w5 _)).below) (one_runes _) (by rw [List.length_map]; omega) rfl _ _ rfl rfl rfl ?_; intro v6 w6 ho6 hb6; have hO6 : OwnR w5.heap.size v6 l w6 := OwnR.more (l := []) ho6 rfl (by rw [List.length_map]); obtain ⟨A6, d6, rfl, hA6⟩ := hO6.shape; obtain ⟨g6, rfl, hg6, hg7⟩ := hA6 (by omega); have O6 := Lib.hid hO6; have BB6 := Lib.hid ((below_one w5 _).trans hb6); have x6 := ((K3.out.next BB6.out).below.cell (by rw [add_block]; exact HAD.out)).trans HX.out; have y6 := ((K3.out.next BB6.out).below.cell (p := ⟨ad.block, ad.off + (k + 1), none⟩) HAD.out).trans HY.out; have f6 := hO6.free k; have f7 := hO6.free (k + 1); have m6 := hO6.cell k (by omega); have m7 := hO6.cell (k + 1) (by omega); (rw [← HXE.out] at m6); (rw [← HYE.out] at m7); have hne : ad.block ≠ g6 := (by have := HAD.out; omega); have x7 := (World.cell?_setCell_other w6 ⟨g6, k, none⟩ (ad.add k) (.int .i32 y) (by intro e; have h1 := congrArg Addr.block e; have h2 := add_block ad k; simp only at h1; omega)).trans x6; clear ho6 hb6 hO6 hA6)
      have M7 : Hid (OwnR w5.heap.size (.slice (some ⟨g6, 0, none⟩) l.length d6) (Norm.turn l k) ((w6.setCell ⟨g6, k, none⟩ (.int .i32 y)).setCell ⟨g6, k + 1, none⟩ (.int .i32 x)) ∧ Kept w w2.heap.size b0 b1 b2 b3 ((w6.setCell ⟨g6, k, none⟩ (.int .i32 y)).setCell ⟨g6, k + 1, none⟩ (.int .i32 x))) := by
        refine ⟨?_, K3.out.next ((BB6.out.setCell (p := ⟨g6, k, none⟩) hg6 _).setCell (p := ⟨g6, k + 1, none⟩) hg6 _)⟩
        have h := (O6.out.put k y).put (k + 1) x
        rwa [turn_set HXE.out HYE.out] at h
      refine (ST2.out _ _ M7.out.1.runes).mono ?_
      rintro e w8 ⟨rfl, hb8⟩
      have K4 := Lib.hid (M7.out.2.next hb8)
      obtain ⟨hS8, q0, q1, q2, q3⟩ := K4.out.held
      clear hb8 M7 O6 K3 BB6 x6 y6 x7 f6 f7 m6 m7 t0 t1 t2 t3 hS5
      go_wp2
      go_ret
      exact ⟨rfl, K4.out.below⟩
    have e1 : (a == 0) = false := by simpa using ha
    have e2 : (b == 0) = false := by simpa using hb
    have e3 : (a == b) = false := by simpa using hab
    cases ok with
    | false =>
      clear ha hb hab
      go_enter Try.func6, Try.ntmps6
      go_wp2_with fail
      refine (small3_any _).mono ?_
      rintro e w1 ⟨rfl, hb1⟩
      have B1 := Lib.hid hb1
      clear hb1
      go_wp2_with fail
      refine (HF.out _ (HL.out.keep B1.out)).mono ?_
      rintro e w1' ⟨rfl, rfl⟩
      go_wp2_with fail
      refine (new_any _).mono ?_
      rintro e w2 ⟨tt, rfl, hT, hb2⟩
      have hT' := hT
      obtain ⟨b0, b1, b2, b3, rfl, -, -, -, -⟩ := hT'
      have K0 := Lib.hid (kept_new (b0 := b0) (b1 := b1) (b2 := b2) (b3 := b3) (below_then B1.out hb2) hT 30)
      clear hT hb2 B1
      obtain ⟨W0, hW0⟩ : ∃ W0, W0 = w2.alloc (.cells #[.slice (some ⟨b0, 0, none⟩) 74 74, .slice (some ⟨b1, 0, none⟩) 10 10, .slice (some ⟨b2, 0, none⟩) 11 11, .slice (some ⟨b3, 0, none⟩) 42 42] 30) := ⟨_, rfl⟩
      rw [← hW0] at K0
      have HW0 := Lib.hid hW0
      obtain ⟨hS, c0, c1, c2, c3⟩ := K0.out.held
      have x0 := (K0.out.below.cell (by rw [add_block]; exact HAD.out)).trans HX.out
      have y0 := (K0.out.below.cell (p := ⟨ad.block, ad.off + (k + 1), none⟩) HAD.out).trans HY.out
      clear hW0
      go_wp2
      rw [← HW0.out]
      go_region_held3 (fun w' => w'.cell? (ad.add k) = some (.int .i32 x) ∧ w'.cell? ⟨w2.heap.size, 0, none⟩ = some (.slice (some ⟨b0, 0, none⟩) 74 74) ∧ w'.cell? ⟨w2.heap.size, 1, none⟩ = some (.slice (some ⟨b1, 0, none⟩) 10 10) ∧ w'.cell? ⟨w2.heap.size, 2, none⟩ = some (.slice (some ⟨b2, 0, none⟩) 11 11) ∧ w'.cell? ⟨w2.heap.size, 3, none⟩ = some (.slice (some ⟨b3, 0, none⟩) 42 42)) (go_keep) ((go_at_call 25; (with_reducible refine (class_at K0.out.drew HCA.out).mono ?_); rintro e w3 ⟨rfl, K1, L1⟩; obtain ⟨hS3, p0, p1, p2, p3⟩ := K1.out.held; have x3 := (K1.out.below.cell (by rw [add_block]; exact HAD.out)).trans HX.out; have y3 := (K1.out.below.cell (p := ⟨ad.block, ad.off + (k + 1), none⟩) HAD.out).trans HY.out; clear L1))
      clear K0 c0 c1 c2 c3 x0 y0 hS
      go_wp2
      go_region_held3 (fun w' => w'.cell? ⟨ad.block, ad.off + (k + 1), none⟩ = some (.int .i32 y) ∧ w'.cell? ⟨w2.heap.size, 0, none⟩ = some (.slice (some ⟨b0, 0, none⟩) 74 74) ∧ w'.cell? ⟨w2.heap.size, 1, none⟩ = some (.slice (some ⟨b1, 0, none⟩) 10 10) ∧ w'.cell? ⟨w2.heap.size, 2, none⟩ = some (.slice (some ⟨b2, 0, none⟩) 11 11) ∧ w'.cell? ⟨w2.heap.size, 3, none⟩ = some (.slice (some ⟨b3, 0, none⟩) 42 42)) (go_keep) ((go_at_call 25; (with_reducible refine (class_at K1.out.drew HCB.out).mono ?_); rintro e w4 ⟨rfl, K2, L2⟩; obtain ⟨hS4, r0, r1, r2, r3⟩ := K2.out.held; have x4 := (K2.out.below.cell (by rw [add_block]; exact HAD.out)).trans HX.out; have y4 := (K2.out.below.cell (p := ⟨ad.block, ad.off + (k + 1), none⟩) HAD.out).trans HY.out; clear L2))
      clear K1 p0 p1 p2 p3 x3 y3 hS3
      go_wp2_with fail
      refine (ST1.out _ (HL.out.keep K2.out.below)).mono ?_
      rintro e w5 ⟨rfl, hb5⟩
      have K3 := Lib.hid (K2.out.next hb5)
      obtain ⟨hS5, t0, t1, t2, t3⟩ := K3.out.held
      clear K2 hb5 r0 r1 r2 r3 x4 y4 hS4
      have OW := Lib.hid (own_empty w5 w5.heap.size (Nat.le_refl _))
      have hcap0 : w.heap.size ≤ w5.heap.size := K3.out.below.size
      go_wp2_with (at_builtin; refine append_row (w5.alloc (.cells #[] 21)) 22 21 (.int .i32 0) 4 Try.underlying22 info_i32 rfl (by omega) w5.heap.size _ _ _ OW.out (by simp) (by omega) _ _ (HL.out.keep (K3.out.next (below_one w5 _)).below) (one_runes _) (by rw [List.length_map]; omega) rfl _ _ rfl rfl rfl ?_; intro v6 w6 ho6 hb6; have hO6 : OwnR w5.heap.size v6 l w6 := OwnR.more (l := []) ho6 rfl (by rw [List.length_map]); obtain ⟨A6, d6, rfl, hA6⟩ := hO6.shape; obtain ⟨g6, rfl, hg6, hg7⟩ := hA6 (by omega); have O6 := Lib.hid hO6; have BB6 := Lib.hid ((below_one w5 _).trans hb6); have x6 := ((K3.out.next BB6.out).below.cell (by rw [add_block]; exact HAD.out)).trans HX.out; have y6 := ((K3.out.next BB6.out).below.cell (p := ⟨ad.block, ad.off + (k + 1), none⟩) HAD.out).trans HY.out; have f6 := hO6.free k; have f7 := hO6.free (k + 1); have m6 := hO6.cell k (by omega); have m7 := hO6.cell (k + 1) (by omega); (rw [← HXE.out] at m6); (rw [← HYE.out] at m7); have hne : ad.block ≠ g6 := (by have := HAD.out; omega); have x7 := (World.cell?_setCell_other w6 ⟨g6, k, none⟩ (ad.add k) (.int .i32 y) (by intro e; have h1 := congrArg Addr.block e; have h2 := add_block ad k; simp only at h1; omega)).trans x6; clear ho6 hb6 hO6 hA6)
      have M7 : Hid (OwnR w5.heap.size (.slice (some ⟨g6, 0, none⟩) l.length d6) (Norm.turn l k) ((w6.setCell ⟨g6, k, none⟩ (.int .i32 y)).setCell ⟨g6, k + 1, none⟩ (.int .i32 x)) ∧ Kept w w2.heap.size b0 b1 b2 b3 ((w6.setCell ⟨g6, k, none⟩ (.int .i32 y)).setCell ⟨g6, k + 1, none⟩ (.int .i32 x))) := by
        refine ⟨?_, K3.out.next ((BB6.out.setCell (p := ⟨g6, k, none⟩) hg6 _).setCell (p := ⟨g6, k + 1, none⟩) hg6 _)⟩
        have h := (O6.out.put k y).put (k + 1) x
        rwa [turn_set HXE.out HYE.out] at h
      refine (ST2.out _ _ M7.out.1.runes).mono ?_
      rintro e w8 ⟨rfl, hb8⟩
      have K4 := Lib.hid (M7.out.2.next hb8)
      obtain ⟨hS8, q0, q1, q2, q3⟩ := K4.out.held
      clear hb8 M7 O6 K3 BB6 x6 y6 x7 f6 f7 m6 m7 t0 t1 t2 t3 hS5
      go_wp2
      go_ret
      exact ⟨rfl, K4.out.below⟩
    | true =>
      have hsim := turn_sim l k hk1 (by rw [← HXE.out, HCA.out]; exact ha) (by rw [← HYE.out, HCB.out]; exact hb) (by rw [← HXE.out, ← HYE.out, HCA.out, HCB.out]; exact hab)
      have hrt := (turn_right l k hk1).trans HOK.out
      have htl := Norm.turn_len l k
      have d1 := down_len false l
      have d2 := down_len true l
      have d3 := Norm.down_sim false hsim
      have d4 := Norm.down_sim true hsim
      obtain ⟨m1, f1, g1⟩ := again (soft := false) (join := true) HOK.out (by omega) (by omega) (show formOf false true l = formOf false true l from rfl)
      obtain ⟨m2, f2, g2⟩ := again (soft := false) (join := true) hrt (by omega) (by rw [← d3]; omega) (show formOf false true (Norm.turn l k) = formOf false true l by unfold formOf; rw [d3])
      obtain ⟨m3, f3, g3⟩ := again (soft := true) (join := false) HOK.out (by omega) (by omega) (show formOf true false l = formOf true false l from rfl)
      obtain ⟨m4, f4, g4⟩ := again (soft := true) (join := false) hrt (by omega) (by rw [← d4]; omega) (show formOf true false (Norm.turn l k) = formOf true false l by unfold formOf; rw [d4])
      generalize encZ (formOf false true l) = fc at g1 g2
      generalize encZ (formOf true false l) = fk at g3 g4
      rw [show encZ l = bs by rw [← HBS.out, strB_right HOK.out]] at f1 f3
      rw [show encZ (Norm.turn l k) = bq by rw [← HBQ.out, strB_right hrt]] at f2 f4
      have G1 := Lib.hid (And.intro f1 g1)
      have G2 := Lib.hid (And.intro f2 g2)
      have G3 := Lib.hid (And.intro f3 g3)
      have G4 := Lib.hid (And.intro f4 g4)
      clear ha hb hab hsim hrt htl d1 d2 d3 d4 f1 f2 f3 f4 g1 g2 g3 g4
      go_enter Try.func6, Try.ntmps6
      go_wp2_with fail
      refine (small3_any _).mono ?_
      rintro e w1 ⟨rfl, hb1⟩
      have B1 := Lib.hid hb1
      clear hb1
      go_wp2_with fail
      refine (HF.out _ (HL.out.keep B1.out)).mono ?_
      rintro e w1' ⟨rfl, rfl⟩
      go_wp2_with fail
      refine (new_any _).mono ?_
      rintro e w2 ⟨tt, rfl, hT, hb2⟩
      have hT' := hT
      obtain ⟨b0, b1, b2, b3, rfl, -, -, -, -⟩ := hT'
      have K0 := Lib.hid (kept_new (b0 := b0) (b1 := b1) (b2 := b2) (b3 := b3) (below_then B1.out hb2) hT 30)
      clear hT hb2 B1
      obtain ⟨W0, hW0⟩ : ∃ W0, W0 = w2.alloc (.cells #[.slice (some ⟨b0, 0, none⟩) 74 74, .slice (some ⟨b1, 0, none⟩) 10 10, .slice (some ⟨b2, 0, none⟩) 11 11, .slice (some ⟨b3, 0, none⟩) 42 42] 30) := ⟨_, rfl⟩
      rw [← hW0] at K0
      have HW0 := Lib.hid hW0
      obtain ⟨hS, c0, c1, c2, c3⟩ := K0.out.held
      have x0 := (K0.out.below.cell (by rw [add_block]; exact HAD.out)).trans HX.out
      have y0 := (K0.out.below.cell (p := ⟨ad.block, ad.off + (k + 1), none⟩) HAD.out).trans HY.out
      clear hW0
      go_wp2
      rw [← HW0.out]
      go_region_held3 (fun w' => w'.cell? (ad.add k) = some (.int .i32 x) ∧ w'.cell? ⟨w2.heap.size, 0, none⟩ = some (.slice (some ⟨b0, 0, none⟩) 74 74) ∧ w'.cell? ⟨w2.heap.size, 1, none⟩ = some (.slice (some ⟨b1, 0, none⟩) 10 10) ∧ w'.cell? ⟨w2.heap.size, 2, none⟩ = some (.slice (some ⟨b2, 0, none⟩) 11 11) ∧ w'.cell? ⟨w2.heap.size, 3, none⟩ = some (.slice (some ⟨b3, 0, none⟩) 42 42)) (go_keep) ((go_at_call 25; (with_reducible refine (class_at K0.out.drew HCA.out).mono ?_); rintro e w3 ⟨rfl, K1, L1⟩; obtain ⟨hS3, p0, p1, p2, p3⟩ := K1.out.held; have x3 := (K1.out.below.cell (by rw [add_block]; exact HAD.out)).trans HX.out; have y3 := (K1.out.below.cell (p := ⟨ad.block, ad.off + (k + 1), none⟩) HAD.out).trans HY.out; clear L1))
      clear K0 c0 c1 c2 c3 x0 y0 hS
      go_wp2
      go_region_held3 (fun w' => w'.cell? ⟨ad.block, ad.off + (k + 1), none⟩ = some (.int .i32 y) ∧ w'.cell? ⟨w2.heap.size, 0, none⟩ = some (.slice (some ⟨b0, 0, none⟩) 74 74) ∧ w'.cell? ⟨w2.heap.size, 1, none⟩ = some (.slice (some ⟨b1, 0, none⟩) 10 10) ∧ w'.cell? ⟨w2.heap.size, 2, none⟩ = some (.slice (some ⟨b2, 0, none⟩) 11 11) ∧ w'.cell? ⟨w2.heap.size, 3, none⟩ = some (.slice (some ⟨b3, 0, none⟩) 42 42)) (go_keep) ((go_at_call 25; (with_reducible refine (class_at K1.out.drew HCB.out).mono ?_); rintro e w4 ⟨rfl, K2, L2⟩; obtain ⟨hS4, r0, r1, r2, r3⟩ := K2.out.held; have x4 := (K2.out.below.cell (by rw [add_block]; exact HAD.out)).trans HX.out; have y4 := (K2.out.below.cell (p := ⟨ad.block, ad.off + (k + 1), none⟩) HAD.out).trans HY.out; clear L2))
      clear K1 p0 p1 p2 p3 x3 y3 hS3
      go_wp2_with fail
      refine (ST1.out _ (HL.out.keep K2.out.below)).mono ?_
      rintro e w5 ⟨rfl, hb5⟩
      have K3 := Lib.hid (K2.out.next hb5)
      obtain ⟨hS5, t0, t1, t2, t3⟩ := K3.out.held
      clear K2 hb5 r0 r1 r2 r3 x4 y4 hS4
      have OW := Lib.hid (own_empty w5 w5.heap.size (Nat.le_refl _))
      have hcap0 : w.heap.size ≤ w5.heap.size := K3.out.below.size
      go_wp2_with (at_builtin; refine append_row (w5.alloc (.cells #[] 21)) 22 21 (.int .i32 0) 4 Try.underlying22 info_i32 rfl (by omega) w5.heap.size _ _ _ OW.out (by simp) (by omega) _ _ (HL.out.keep (K3.out.next (below_one w5 _)).below) (one_runes _) (by rw [List.length_map]; omega) rfl _ _ rfl rfl rfl ?_; intro v6 w6 ho6 hb6; have hO6 : OwnR w5.heap.size v6 l w6 := OwnR.more (l := []) ho6 rfl (by rw [List.length_map]); obtain ⟨A6, d6, rfl, hA6⟩ := hO6.shape; obtain ⟨g6, rfl, hg6, hg7⟩ := hA6 (by omega); have O6 := Lib.hid hO6; have BB6 := Lib.hid ((below_one w5 _).trans hb6); have x6 := ((K3.out.next BB6.out).below.cell (by rw [add_block]; exact HAD.out)).trans HX.out; have y6 := ((K3.out.next BB6.out).below.cell (p := ⟨ad.block, ad.off + (k + 1), none⟩) HAD.out).trans HY.out; have f6 := hO6.free k; have f7 := hO6.free (k + 1); have m6 := hO6.cell k (by omega); have m7 := hO6.cell (k + 1) (by omega); (rw [← HXE.out] at m6); (rw [← HYE.out] at m7); have hne : ad.block ≠ g6 := (by have := HAD.out; omega); have x7 := (World.cell?_setCell_other w6 ⟨g6, k, none⟩ (ad.add k) (.int .i32 y) (by intro e; have h1 := congrArg Addr.block e; have h2 := add_block ad k; simp only at h1; omega)).trans x6; clear ho6 hb6 hO6 hA6)
      have M7 : Hid (OwnR w5.heap.size (.slice (some ⟨g6, 0, none⟩) l.length d6) (Norm.turn l k) ((w6.setCell ⟨g6, k, none⟩ (.int .i32 y)).setCell ⟨g6, k + 1, none⟩ (.int .i32 x)) ∧ Kept w w2.heap.size b0 b1 b2 b3 ((w6.setCell ⟨g6, k, none⟩ (.int .i32 y)).setCell ⟨g6, k + 1, none⟩ (.int .i32 x))) := by
        refine ⟨?_, K3.out.next ((BB6.out.setCell (p := ⟨g6, k, none⟩) hg6 _).setCell (p := ⟨g6, k + 1, none⟩) hg6 _)⟩
        have h := (O6.out.put k y).put (k + 1) x
        rwa [turn_set HXE.out HYE.out] at h
      refine (ST2.out _ _ M7.out.1.runes).mono ?_
      rintro e w8 ⟨rfl, hb8⟩
      have K4 := Lib.hid (M7.out.2.next hb8)
      obtain ⟨hS8, q0, q1, q2, q3⟩ := K4.out.held
      clear hb8 M7 O6 K3 BB6 x6 y6 x7 f6 f7 m6 m7 t0 t1 t2 t3 hS5
      go_wp2_with fail
      refine (nfc_at K4.out G1.out.1 G1.out.2).mono ?_
      rintro e v5 ⟨rfl, K5, L5⟩
      obtain ⟨hS, c0, c1, c2, c3⟩ := K5.out.held
      clear K4 L5
      go_wp2_with fail
      refine (nfc_at K5.out G2.out.1 G2.out.2).mono ?_
      rintro e v6 ⟨rfl, K6, L6⟩
      obtain ⟨hS, c0, c1, c2, c3⟩ := K6.out.held
      clear K5 L6
      go_wp2_with fail
      refine (nfkd_at K6.out G3.out.1 G3.out.2).mono ?_
      rintro e v7 ⟨rfl, K7, L7⟩
      obtain ⟨hS, c0, c1, c2, c3⟩ := K7.out.held
      clear K6 L7
      go_wp2_with fail
      refine (nfkd_at K7.out G4.out.1 G4.out.2).mono ?_
      rintro e v8 ⟨rfl, K8, L8⟩
      obtain ⟨hS, c0, c1, c2, c3⟩ := K8.out.held
      clear K7 L8
      go_wp2
      go_ret
      exact ⟨rfl, K8.out.below⟩
  · have hor : 120 < l.length ∨ p < 0 ∨ (l.length : Int) - 1 ≤ p := by omega
    obtain ⟨A, c, rfl, hc, -⟩ := hl.form
    clear hl hn
    by_cases hn1 : l.length ≤ 120
    · have HF := Lib.hid (fun W (h : Runes (.slice A l.length c) l W) => few_any _ l W h (decide_eq_true hn1))
      go_enter Try.func6, Try.ntmps6
      go_wp2_with fail
      refine (small3_any _).mono ?_
      rintro e w1 ⟨rfl, hb1⟩
      have B1 := Lib.hid hb1
      clear hb1
      go_wp2_with fail
      refine (HF.out _ (HL.out.keep B1.out)).mono ?_
      rintro e w1' ⟨rfl, rfl⟩
      go_wp2_with fail
      all_goals first
        | omega
        | (go_ret
           exact ⟨rfl, B1.out⟩)
    · have HF := Lib.hid (fun W (h : Runes (.slice A l.length c) l W) => few_any _ l W h (decide_eq_false hn1))
      go_enter Try.func6, Try.ntmps6
      go_wp2_with fail
      refine (small3_any _).mono ?_
      rintro e w1 ⟨rfl, hb1⟩
      have B1 := Lib.hid hb1
      clear hb1
      go_wp2_with fail
      refine (HF.out _ (HL.out.keep B1.out)).mono ?_
      rintro e w1' ⟨rfl, rfl⟩
      go_wp2
      go_ret
      exact ⟨rfl, B1.out⟩
end Go.Proofs.Ytpmcmbkilcpleaa
namespace Go.Proofs.Ytpmcmbkilcpleaa
open Go.RowKit Utf
theorem eight_all : ∀ (t : List UInt8) (k : Nat), eightFrom t k = -1 → ∀ b ∈ t, b.toNat < 128
  | [], _, _ => fun b hb => by cases hb
  | x :: t, k, h => by
    unfold eightFrom at h
    split at h
    · rename_i hx
      intro b hb
      rcases List.mem_cons.1 hb with rfl | hb
      · exact hx
      · exact eight_all t (k + 1) h b hb
    · omega
theorem eight_some : ∀ (t : List UInt8) (k : Nat), eightFrom t k = -1 ∨ 0 ≤ eightFrom t k
  | [], _ => .inl rfl
  | x :: t, k => by
    unfold eightFrom
    split
    · exact eight_some t (k + 1)
    · right; omega
theorem enc_byte (b : UInt8) (h : b.toNat < 128) : enc b.toNat = [b] := by
  unfold enc
  rw [if_pos (by omega)]
  congr 1
  unfold u
  exact UInt8.ofNat_toNat
theorem enc_bytes : ∀ (t : List UInt8), (∀ b ∈ t, b.toNat < 128) → encZ (t.map fun b => (b.toNat : Int)) = t
  | [], _ => rfl
  | x :: t, h => by
    have := enc_bytes t fun b hb => h b (by simp [hb])
    unfold encZ at this ⊢
    rw [List.map_cons, List.flatMap_cons, this]
    show enc (x.toNat : Int).toNat ++ t = _
    rw [Int.toNat_natCast, enc_byte x (h x (by simp))]
    rfl
theorem bytes_ascii {t : List UInt8} (h : ∀ b ∈ t, b.toNat < 128) : Norm.ascii (t.map fun b => (b.toNat : Int)) := by
  intro c hc
  obtain ⟨b, hb, rfl⟩ := List.mem_map.1 hc
  have := h b hb
  omega
theorem ascii_right {l : List Int} (h : Norm.ascii l) : rightsZ l = true := by
  unfold rightsZ
  rw [List.all_eq_true]
  intro c hc
  have := h c hc
  exact (rightZ_iff c).2 (by omega)
theorem ascii_form (soft join : Bool) {l : List Int} (h : Norm.ascii l) : formOf soft join l = l := by
  unfold formOf
  rw [Norm.ascii_down soft h, Norm.ascii_join h]
  split <;> rfl
/-- What is ASCII is told by its bytes, and is in all forms. -/
theorem ascii_fits {s : ByteArray} (hs : s.size ≤ 9600) (h : ∀ b ∈ s.data.toList, b.toNat < 128) : ∃ m, (∀ soft, Fits soft s m) ∧ ∀ soft join, encZ (formOf soft join (ints m)) = s.data.toList := by
  have ha := bytes_ascii h
  have hl : (s.data.toList.map fun b => (b.toNat : Int)).length ≤ 9600 := by simp; omega
  have key := fun soft => fits_enc (soft := soft) (enc_bytes _ h).symm (ascii_right ha) hl (by rw [Norm.ascii_down soft ha]; exact hl)
  exact ⟨_, fun soft => (key soft).1, fun soft join => by rw [(key false).2, ascii_form soft join ha, enc_bytes _ h]⟩
set_option maxRecDepth 100000 in
set_option maxHeartbeats 8000000 in
theorem plain3_walk (s : ByteArray) (w : World) : Calls Try.prog 8 #[.string s] w fun e w' => e = .returned (.bool true) ∧ Below w.heap.size w w' := by
  by_cases hs : s.size ≤ 300
  · have hsz : (s.size : Int) ≤ 300 := by omega
    have hE := fun W => eight_any s W (by omega)
    rcases eight_some s.data.toList 0 with h8 | h8
    · obtain ⟨m, hf, he⟩ := ascii_fits (s := s) (by omega) (eight_all _ _ h8)
      rw [show eightOf s.data.toList = -1 from h8] at hE
      obtain ⟨b, hbb⟩ : ∃ b, b = s.data.toList := ⟨_, rfl⟩
      rw [← hbb] at he
      have hbs : (b == s.toList) = true := by rw [hbb, ByteArray.toList_eq, beq_self_eq_true]
      have IB := Lib.hid ((congrArg (· == s.toList) (he false true)).trans hbs)
      have H8 := Lib.hid hE
      have HF := Lib.hid hf
      have HE := Lib.hid he
      clear hE h8 hf he hbb
      go_enter Try.func8, Try.ntmps8
      go_wp2_with fail
      refine (small3_any _).mono ?_
      rintro e w1 ⟨rfl, hb1⟩
      have B1 := Lib.hid hb1
      clear hb1
      go_wp2_with fail
      refine (H8.out _).mono ?_
      rintro e w9 ⟨rfl, rfl⟩
      go_wp2_with fail
      refine (new_any _).mono ?_
      rintro e w2 ⟨tt, rfl, hT, hb2⟩
      have hT' := hT
      obtain ⟨b0, b1, b2, b3, rfl, -, -, -, -⟩ := hT'
      have K0 := Lib.hid (kept_new (b0 := b0) (b1 := b1) (b2 := b2) (b3 := b3) (below_then B1.out hb2) hT 30)
      clear hT hb2 B1
      go_wp2_with fail
      refine (nfd_at K0.out (HF.out _) (HE.out _ _)).mono ?_
      rintro e w3 ⟨rfl, K1, L1⟩
      obtain ⟨hS, c0, c1, c2, c3⟩ := K1.out.held
      clear K0 L1
      go_wp2_with fail
      refine (nfkc_at K1.out (HF.out _) (HE.out _ _)).mono ?_
      rintro e w4 ⟨rfl, K2, L2⟩
      obtain ⟨hS, c0, c1, c2, c3⟩ := K2.out.held
      clear K1 L2
      go_wp2_with fail
      refine (is_at K2.out (HF.out _) IB.out).mono ?_
      rintro e w5 ⟨rfl, K3, L3⟩
      obtain ⟨hS, c0, c1, c2, c3⟩ := K3.out.held
      clear K2 L3
      go_wp2
      go_ret
      exact ⟨rfl, K3.out.below⟩
    · obtain ⟨z, hz⟩ : ∃ z, z = eightOf s.data.toList := ⟨_, rfl⟩
      rw [← hz] at hE
      have hz0 : 0 ≤ z := by rw [hz]; exact h8
      have H8 := Lib.hid hE
      clear hE h8 hz
      go_enter Try.func8, Try.ntmps8
      go_wp2_with fail
      refine (small3_any _).mono ?_
      rintro e w1 ⟨rfl, hb1⟩
      have B1 := Lib.hid hb1
      clear hb1
      go_wp2_with fail
      refine (H8.out _).mono ?_
      rintro e w9 ⟨rfl, rfl⟩
      go_wp2
      go_ret
      exact ⟨rfl, B1.out⟩
  · have hsz : ¬ (s.size : Int) ≤ 300 := by omega
    have hsg : (300 : Int) < (s.size : Int) := by omega
    go_enter Try.func8, Try.ntmps8
    go_wp2_with fail
    refine (small3_any _).mono ?_
    rintro e w1 ⟨rfl, hb1⟩
    have B1 := Lib.hid hb1
    clear hb1
    go_wp2
    go_ret
    exact ⟨rfl, B1.out⟩
end Go.Proofs.Ytpmcmbkilcpleaa
