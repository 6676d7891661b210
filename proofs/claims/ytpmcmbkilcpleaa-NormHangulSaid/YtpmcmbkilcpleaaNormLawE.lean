/-
  Proved here: syllables and what they are made of are the same (NormHangul), at any three numbers: the law's call returns true, and nothing that lay has turned. Conditions: none.
-/
import Derived.Test.YtpmcmbkilcpleaaNormSmall
namespace Go.Proofs.Ytpmcmbkilcpleaa
open Go.RowKit Utf
namespace Norm
theorem next_one {s x z : Int} (hs : clsOf s = 0) (h : make2 s x = some z) : next [s] x = [z] := by
  have := next_at (Q := []) (M := []) s x (fun y hy => by cases hy) (by omega)
  rw [List.nil_append] at this
  rw [this, h]
  rfl
theorem join_two {a b z : Int} (ha : clsOf a = 0) (h : make2 a b = some z) : join [a, b] = [z] := by
  have e : join [a, b] = next (next [] a) b := rfl
  rw [e, next_none a (M := []) (fun y hy => by cases hy), List.nil_append, next_one ha h]
theorem join_three {a b c y z : Int} (ha : clsOf a = 0) (h : make2 a b = some y) (hy : clsOf y = 0) (h2 : make2 y c = some z) : join [a, b, c] = [z] := by
  have e : join [a, b, c] = next (next (next [] a) b) c := by
    unfold next join joinR
    simp only [List.foldl_cons, List.foldl_nil, List.reverse_reverse, List.reverse_nil]
  rw [e, next_none a (M := []) (fun y hy => by cases hy), List.nil_append, next_one ha h, next_one hy h2]
/-- A syllable of two, and of three. -/
theorem hangul_two {i j : Int} (hi : 0 ≤ i ∧ i ≤ 18) (hj : 0 ≤ j ∧ j ≤ 20) : join [4352 + i, 4449 + j] = [44032 + (i * 21 + j) * 28] ∧ split false [44032 + (i * 21 + j) * 28] = [4352 + i, 4449 + j] := by
  have hm : make2 (4352 + i) (4449 + j) = some (44032 + (i * 21 + j) * 28) := by rw [mk_lv (by omega)]; congr 1; omega
  refine ⟨join_two (jamo_ok ((jamo_iff _).2 (by omega))).2.2 hm, ?_⟩
  have hsy : syl (44032 + (i * 21 + j) * 28) = true := (syl_iff _).2 (by omega)
  show pieces false _ ++ [] = _
  rw [List.append_nil, pieces_eq, if_pos hsy]
  unfold sylParts
  rw [if_pos (by omega), show 4352 + (44032 + (i * 21 + j) * 28 - 44032) / 588 = 4352 + i by omega, show 4449 + (44032 + (i * 21 + j) * 28 - 44032) % 588 / 28 = 4449 + j by omega]
  rfl
theorem hangul_three {i j k : Int} (hi : 0 ≤ i ∧ i ≤ 18) (hj : 0 ≤ j ∧ j ≤ 20) (hk : 0 < k ∧ k ≤ 27) : join [4352 + i, 4449 + j, 4519 + k] = [44032 + (i * 21 + j) * 28 + k] ∧ split false [44032 + (i * 21 + j) * 28 + k] = [4352 + i, 4449 + j, 4519 + k] := by
  have hm : make2 (4352 + i) (4449 + j) = some (44032 + (i * 21 + j) * 28) := by rw [mk_lv (by omega)]; congr 1; omega
  have hsy : syl (44032 + (i * 21 + j) * 28) = true := (syl_iff _).2 (by omega)
  have hm2 : make2 (44032 + (i * 21 + j) * 28) (4519 + k) = some (44032 + (i * 21 + j) * 28 + k) := by rw [mk_lvt (by omega)]; congr 1; omega
  refine ⟨join_three (jamo_ok ((jamo_iff _).2 (by omega))).2.2 hm (syl_cls hsy) hm2, ?_⟩
  have hs2 : syl (44032 + (i * 21 + j) * 28 + k) = true := (syl_iff _).2 (by omega)
  show pieces false _ ++ [] = _
  rw [List.append_nil, pieces_eq, if_pos hs2]
  unfold sylParts
  rw [if_neg (by omega), show 4352 + (44032 + (i * 21 + j) * 28 + k - 44032) / 588 = 4352 + i by omega, show 4449 + (44032 + (i * 21 + j) * 28 + k - 44032) % 588 / 28 = 4449 + j by omega, show 4519 + (44032 + (i * 21 + j) * 28 + k - 44032) % 28 = 4519 + k by omega]
  rfl
end Norm
theorem runes_lit_at (w : World) (N : Nat) (hN : N = w.heap.size) (l : List Int) : Runes (.slice (some ⟨N, 0, none⟩) l.length l.length) l (w.alloc (.cells (l.map runeV).toArray 21)) := by
  subst hN
  exact runes_lit w l
set_option maxRecDepth 100000 in
set_option maxHeartbeats 8000000 in
theorem hangul_walk (i j k : Int) (w : World) : Calls Try.prog 7 #[.int .i64 i, .int .i64 j, .int .i64 k] w fun e w' => e = .returned (.bool true) ∧ Below w.heap.size w w' := by
  by_cases h : 0 ≤ i ∧ i ≤ 18 ∧ 0 ≤ j ∧ j ≤ 20 ∧ 0 ≤ k ∧ k ≤ 27
  · obtain ⟨i1, i2, j1, j2, k1, k2⟩ := h
    by_cases hk : 0 < k
    · obtain ⟨hj1, hs1⟩ := Norm.hangul_three ⟨i1, i2⟩ ⟨j1, j2⟩ ⟨hk, k2⟩
      have HJ := Lib.hid (fun t v W (hT : Table W t) (h : Runes v [4352 + i, 4449 + j, 4519 + k] W) => joinAll_any t v _ W hT h (by simp))
      have HS := Lib.hid (fun t v W (hT : Table W t) (h : Runes v [44032 + (i * 21 + j) * 28 + k] W) => splitAll_any t v _ false W hT h (by simp))
      have HE := Lib.hid (fun x y W (hx : Runes x [4352 + i, 4449 + j, 4519 + k] W) (hy : Runes y [4352 + i, 4449 + j, 4519 + k] W) => refSame_any x y [4352 + i, 4449 + j, 4519 + k] [4352 + i, 4449 + j, 4519 + k] W hx hy (by simp))
      rw [hj1] at HJ
      rw [hs1] at HS
      clear hj1 hs1
      go_enter Try.func7, Try.ntmps7
      go_wp2_with fail
      refine (small3_any _).mono ?_
      rintro e w1 ⟨rfl, hb1⟩
      have B1 := Lib.hid hb1
      clear hb1
      go_wp2_with fail
      refine (new_any _).mono ?_
      rintro e w2 ⟨tt, rfl, hT, hb2⟩
      have hT' := hT
      obtain ⟨b0, b1, b2, b3, rfl, -, -, -, -⟩ := hT'
      have K0 := Lib.hid (kept_new (b0 := b0) (b1 := b1) (b2 := b2) (b3 := b3) (below_then B1.out hb2) hT 30)
      clear hT hb2 B1
      obtain ⟨W0, hW0⟩ : ∃ W0, W0 = w2.alloc (.cells #[.slice (some ⟨b0, 0, none⟩) 74 74, .slice (some ⟨b1, 0, none⟩) 10 10, .slice (some ⟨b2, 0, none⟩) 11 11, .slice (some ⟨b3, 0, none⟩) 42 42] 30) := ⟨_, rfl⟩
      have hN0 : W0.heap.size = w2.heap.size + 1 := by rw [hW0]; simp
      rw [← hW0] at K0
      have OW := Lib.hid (ownR_lit_at W0 W0.heap.size (w2.heap.size + 1) hN0.symm (Nat.le_refl _) [4352 + i, 4449 + j] (by simp))
      have HW0 := Lib.hid hW0
      have HN0 := Lib.hid hN0
      clear hW0 hN0
      go_wp2_with (at_builtin; (rw [← HW0.out]); refine append_cells_at (W0.alloc _) 22 21 (.int .i32 0) 4 Try.underlying22 info_i32 rfl (by omega) W0.heap.size _ _ _ OW.out (by simp) (by simp) 1 (by omega) _ rfl rfl _ (by simp; have := HN0.out; omega) rfl _ _ rfl rfl rfl ?_; intro v3 w3 ho3 hb3; have R3 : Hid (Runes v3 [4352 + i, 4449 + j, 4519 + k] w3) := Lib.hid (OwnR.runes (OwnR.more ho3 rfl rfl)); have K1 := Lib.hid (K0.out.next ((below_one W0 _).trans hb3)); obtain ⟨hS, c0, c1, c2, c3⟩ := K1.out.held; clear ho3 hb3 K0)
      refine (HJ.out _ _ _ K1.out.table R3.out).mono ?_
      rintro e w4 ⟨v4, rfl, ho4, hb4⟩
      have K2 := Lib.hid (K1.out.next hb4)
      have R4 := Lib.hid (R3.out.keep hb4)
      obtain ⟨A4, d4, rfl, hA4⟩ := ho4.shape
      obtain ⟨g4, rfl, -, hg4⟩ := hA4 (by simp)
      have x4 := ho4.cell 0 (by simp)
      simp only [List.getElem!_cons_zero] at x4
      have X4 := Lib.hid x4
      clear ho4 hb4 K1 hA4 x4
      obtain ⟨hS, c0, c1, c2, c3⟩ := K2.out.held
      have R5 := Lib.hid (runes_lit w4 [44032 + (i * 21 + j) * 28 + k])
      have K3 := Lib.hid (K2.out.alloc (.cells ([44032 + (i * 21 + j) * 28 + k].map runeV).toArray 21))
      go_wp2_with fail
      refine (HS.out _ _ _ K3.out.table R5.out).mono ?_
      rintro e w6 ⟨v6, rfl, ho6, hb6⟩
      have hb46 := below_then (below_one w4 _) hb6
      have K4 := Lib.hid (K2.out.next hb46)
      have R6 := Lib.hid (R4.out.keep hb46)
      have x6 := cell_kept X4.out hb46
      have hg6 := Nat.lt_of_lt_of_le hg4 hb46.size
      have S6 := Lib.hid ho6.runes
      clear ho6 hb6 hb46 K2 K3 R5
      go_wp2_with fail
      refine (HE.out _ _ _ S6.out R6.out).mono ?_
      unfold SamePost
      rw [decide_eq_true rfl]
      rintro e w7 ⟨rfl, hb7⟩
      have K5 := Lib.hid (K4.out.next hb7)
      clear hb7
      go_wp2
      go_ret
      exact ⟨rfl, K5.out.below⟩
    · obtain rfl : k = 0 := by omega
      obtain ⟨hj1, hs1⟩ := Norm.hangul_two ⟨i1, i2⟩ ⟨j1, j2⟩
      have HJ := Lib.hid (fun t v W (hT : Table W t) (h : Runes v [4352 + i, 4449 + j] W) => joinAll_any t v _ W hT h (by simp))
      have HS := Lib.hid (fun t v W (hT : Table W t) (h : Runes v [44032 + (i * 21 + j) * 28] W) => splitAll_any t v _ false W hT h (by simp))
      have HE := Lib.hid (fun x y W (hx : Runes x [4352 + i, 4449 + j] W) (hy : Runes y [4352 + i, 4449 + j] W) => refSame_any x y [4352 + i, 4449 + j] [4352 + i, 4449 + j] W hx hy (by simp))
      rw [hj1] at HJ
      rw [hs1] at HS
      clear hj1 hs1
      go_enter Try.func7, Try.ntmps7
      go_wp2_with fail
      refine (small3_any _).mono ?_
      rintro e w1 ⟨rfl, hb1⟩
      have B1 := Lib.hid hb1
      clear hb1
      go_wp2_with fail
      refine (new_any _).mono ?_
      rintro e w2 ⟨tt, rfl, hT, hb2⟩
      have hT' := hT
      obtain ⟨b0, b1, b2, b3, rfl, -, -, -, -⟩ := hT'
      have K0 := Lib.hid (kept_new (b0 := b0) (b1 := b1) (b2 := b2) (b3 := b3) (below_then B1.out hb2) hT 30)
      clear hT hb2 B1
      have R3 := Lib.hid (runes_lit_at (w2.alloc (.cells #[.slice (some ⟨b0, 0, none⟩) 74 74, .slice (some ⟨b1, 0, none⟩) 10 10, .slice (some ⟨b2, 0, none⟩) 11 11, .slice (some ⟨b3, 0, none⟩) 42 42] 30)) (w2.heap.size + 1) (by simp) [4352 + i, 4449 + j])
      have K1 := Lib.hid (K0.out.alloc (.cells ([4352 + i, 4449 + j].map runeV).toArray 21))
      clear K0
      go_wp2_with fail
      refine (HJ.out _ _ _ K1.out.table R3.out).mono ?_
      rintro e w4 ⟨v4, rfl, ho4, hb4⟩
      have K2 := Lib.hid (K1.out.next hb4)
      have R4 := Lib.hid (R3.out.keep hb4)
      obtain ⟨A4, d4, rfl, hA4⟩ := ho4.shape
      obtain ⟨g4, rfl, -, hg4⟩ := hA4 (by simp)
      have x4 := ho4.cell 0 (by simp)
      simp only [List.getElem!_cons_zero] at x4
      have X4 := Lib.hid x4
      clear ho4 hb4 K1 hA4 x4
      obtain ⟨hS, c0, c1, c2, c3⟩ := K2.out.held
      have R5 := Lib.hid (runes_lit w4 [44032 + (i * 21 + j) * 28])
      have K3 := Lib.hid (K2.out.alloc (.cells ([44032 + (i * 21 + j) * 28].map runeV).toArray 21))
      go_wp2_with fail
      refine (HS.out _ _ _ K3.out.table R5.out).mono ?_
      rintro e w6 ⟨v6, rfl, ho6, hb6⟩
      have hb46 := below_then (below_one w4 _) hb6
      have K4 := Lib.hid (K2.out.next hb46)
      have R6 := Lib.hid (R4.out.keep hb46)
      have x6 := cell_kept X4.out hb46
      have hg6 := Nat.lt_of_lt_of_le hg4 hb46.size
      have S6 := Lib.hid ho6.runes
      clear ho6 hb6 hb46 K2 K3 R5
      go_wp2_with fail
      refine (HE.out _ _ _ S6.out R6.out).mono ?_
      unfold SamePost
      rw [decide_eq_true rfl]
      rintro e w7 ⟨rfl, hb7⟩
      have K5 := Lib.hid (K4.out.next hb7)
      clear hb7
      go_wp2
      go_ret
      exact ⟨rfl, K5.out.below⟩
  · go_enter Try.func7, Try.ntmps7
    go_wp2_with fail
    refine (small3_any _).mono ?_
    rintro e w1 ⟨rfl, hb1⟩
    have B1 := Lib.hid hb1
    clear hb1
    have hor : i < 0 ∨ 18 < i ∨ j < 0 ∨ 20 < j ∨ k < 0 ∨ 27 < k := by omega
    clear h
    go_wp2_with fail
    all_goals first
      | omega
      | (go_ret
         exact ⟨rfl, B1.out⟩)
end Go.Proofs.Ytpmcmbkilcpleaa
