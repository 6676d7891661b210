/-
  Proved here: the head of the laws of layer 12 comes out true, given what the program's four functions tell. Conditions: as they stand in it.
-/
import Derived.Test.YtmcjgdajnppbhaaGreatDoorLexFits
import Derived.Deep.RegionHeld3
import Derived.Deep.LoopGhost
namespace Go.Proofs.YtmcjgdajnppbhaaGreatDoor
open Go.RowKit Utf
open Lex (Tok)
/-- Where tokens lie. -/
theorem Toks.lies {A : Option Addr} {n c : Nat} {ts : List Tok} {w : World} (h : Toks (.slice A n c) ts w) (hn : 0 < ts.length) : n = ts.length ∧ n ≤ c ∧ ∃ g o, A = some ⟨g, o, none⟩ ∧ g < w.heap.size ∧ ∀ i, i < ts.length → TokAt g (o + i * 3) (Lex.nth ts i) w := by
  obtain ⟨A', c', he, hc, h⟩ := h
  injection he with h1 h2 h3
  subst h1 h2 h3
  obtain ⟨g, o, rfl, hg, hi⟩ := h hn
  exact ⟨rfl, hc, g, o, rfl, hg, hi⟩
def smallTs : List Tok := [⟨1, [97, 34, 98], 0⟩, ⟨4, [32], 6⟩, ⟨3, [99], 7⟩, ⟨2, [64], 10⟩, ⟨0, [100], 11⟩]
def smallSs : List Tok := [⟨4, [13, 10, 32], 0⟩, ⟨0, [120], 3⟩]
/-- What is read of the tokens. -/
def SmallAt (g o h p : Nat) (w : World) : Prop := w.cell? ⟨g, o, none⟩ = some (.int .i64 1) ∧ w.cell? ⟨g, o + 1, none⟩ = some (.string ⟨#[97, 34, 98]⟩) ∧ w.cell? ⟨g, o + 2, none⟩ = some (.int .i64 0) ∧ w.cell? ⟨g, o + 6, none⟩ = some (.int .i64 3) ∧ w.cell? ⟨g, o + 7, none⟩ = some (.string ⟨#[99]⟩) ∧ w.cell? ⟨g, o + 8, none⟩ = some (.int .i64 7) ∧ w.cell? ⟨g, o + 12, none⟩ = some (.int .i64 0) ∧ w.cell? ⟨g, o + 13, none⟩ = some (.string ⟨#[100]⟩) ∧ w.cell? ⟨g, o + 14, none⟩ = some (.int .i64 11) ∧ w.cell? ⟨h, p + 1, none⟩ = some (.string ⟨#[13, 10, 32]⟩)
theorem SmallAt.keep {g o h p : Nat} {w w' : World} (H : SmallAt g o h p w) (hg : g < w.heap.size) (hh : h < w.heap.size) (hb : Below w.heap.size w w') : SmallAt g o h p w' := by
  have e : ∀ k, w'.cell? ⟨g, k, none⟩ = w.cell? ⟨g, k, none⟩ := fun k => hb.cell (p := ⟨g, k, none⟩) hg
  have e2 : ∀ k, w'.cell? ⟨h, k, none⟩ = w.cell? ⟨h, k, none⟩ := fun k => hb.cell (p := ⟨h, k, none⟩) hh
  unfold SmallAt
  simp only [e, e2]
  exact H
theorem smallAt_of {g o h p : Nat} {w : World} (h1 : ∀ i, i < smallTs.length → TokAt g (o + i * 3) (Lex.nth smallTs i) w) (h2 : ∀ i, i < smallSs.length → TokAt h (p + i * 3) (Lex.nth smallSs i) w) : SmallAt g o h p w := by
  obtain ⟨a0, a1, a2⟩ := h1 0 (by decide)
  obtain ⟨b0, b1, b2⟩ := h1 2 (by decide)
  obtain ⟨c0, c1, c2⟩ := h1 4 (by decide)
  obtain ⟨-, d1, -⟩ := h2 0 (by decide)
  exact ⟨a0, a1, a2, b0, b1, b2, c0, c1, c2, d1⟩
theorem lex_s1 : Lex.lexE (⟨#[34, 97, 92, 34, 98, 34, 32, 40, 99, 41, 64, 100]⟩ : ByteArray).data.toList = (0, 0, smallTs) := by kernel_rfl
theorem lex_s2 : Lex.lexE (⟨#[97, 1]⟩ : ByteArray).data.toList = (4, 1, []) := by kernel_rfl
theorem lex_s3 : Lex.lexE (⟨#[32, 40, 97]⟩ : ByteArray).data.toList = (4, 1, []) := by kernel_rfl
theorem lex_s4 : Lex.lexE (⟨#[97, 255]⟩ : ByteArray).data.toList = (7, 1, []) := by kernel_rfl
theorem lex_s5 : Lex.lexE (⟨#[13, 10, 32, 120]⟩ : ByteArray).data.toList = (0, 0, smallSs) := by kernel_rfl
theorem src_s : Lex.srcT 1 (⟨#[97, 34, 98]⟩ : ByteArray).data.toList = [34, 97, 92, 34, 98, 34] := by decide +kernel
theorem words_s1 : Lex.wordsT (⟨#[97, 46, 98]⟩ : ByteArray).data.toList = true := by decide +kernel
theorem words_s2 : Lex.wordsT (⟨#[97, 46, 46, 98]⟩ : ByteArray).data.toList = false := by decide +kernel
theorem plain_s1 : Lex.plainT (⟨#[97, 43, 98]⟩ : ByteArray).data.toList = true := by decide +kernel
theorem plain_s2 : Lex.plainT (⟨#[]⟩ : ByteArray).data.toList = false := by decide +kernel
set_option maxHeartbeats 16000000 in
set_option maxRecDepth 100000 in
theorem small12_any (B : LexOk) (w : World) : Calls Tryz.prog 8 #[] w fun e w' => e = .returned (.bool true) ∧ Below w.heap.size w w' := by
  go_enter Tryz.func8, Tryz.ntmps8
  go_wp2_with fail
  with_reducible refine (B.lex_at _ _ (by decide) lex_s1).mono ?_
  rintro e w1 ⟨A1, c1, rfl, hT1, hb1⟩
  obtain ⟨-, hc1, g, o, rfl, hg, hi1⟩ := hT1.lies (by decide)
  have B1 := Lib.hid (And.intro hb1 (And.intro hg hi1))
  have hl1 : smallTs.length = 5 := rfl
  rw [hl1] at hc1 ⊢
  clear hT1 hb1 hg hi1
  go_wp2_with fail
  with_reducible refine (B.lex_at _ _ (by decide) lex_s2).mono ?_
  rintro e w2 ⟨A2, c2, rfl, -, hb2⟩
  have B2 := Lib.hid (below_then B1.out.1 hb2)
  have G2 := Lib.hid hb2
  clear hb2
  go_wp2_with fail
  with_reducible refine (B.lex_at _ _ (by decide) lex_s3).mono ?_
  rintro e w3 ⟨A3, c3, rfl, -, hb3⟩
  have B3 := Lib.hid (below_then B2.out hb3)
  have G3 := Lib.hid (below_then G2.out hb3)
  clear hb3
  go_wp2_with fail
  with_reducible refine (B.lex_at _ _ (by decide) lex_s4).mono ?_
  rintro e w4 ⟨A4, c4, rfl, -, hb4⟩
  have B4 := Lib.hid (below_then B3.out hb4)
  have G4 := Lib.hid (below_then G3.out hb4)
  clear hb4
  go_wp2_with fail
  with_reducible refine (B.lex_at _ _ (by decide) lex_s5).mono ?_
  rintro e w5 ⟨A5, c5, rfl, hT5, hb5⟩
  obtain ⟨-, hc5, h, p, rfl, hh, hi5⟩ := hT5.lies (by decide)
  have hl5 : smallSs.length = 2 := rfl
  rw [hl5] at hc5 ⊢
  have hgz : g < w5.heap.size := Nat.lt_of_lt_of_le B1.out.2.1 (below_then G4.out hb5).size
  have HC := Lib.hid (And.intro (smallAt_of (fun i hi => (B1.out.2.2 i hi).keep B1.out.2.1 (below_then G4.out hb5)) hi5) (And.intro hgz hh))
  have B5 := Lib.hid (below_then B4.out hb5)
  clear hT5 hb5 hh hi5 hgz B1 B2 B3 B4 G2 G3 G4 hl1 hl5
  obtain ⟨a0, a1, a2, a3, a4, a5, a6, a7, a8, a9⟩ := HC.out.1
  have q0 : ∀ W, (binOp .eql 23 (.agg #[.int .i64 1, .string ⟨#[97, 34, 98]⟩, .int .i64 0]) (.agg #[.int .i64 1, .string ⟨#[97, 34, 98]⟩, .int .i64 0])).run Tryz.prog W = .ok (.bool true) W := fun _ => by kernel_rfl
  have q1 : ∀ W, (binOp .eql 23 (.agg #[.int .i64 3, .string ⟨#[99]⟩, .int .i64 7]) (.agg #[.int .i64 3, .string ⟨#[99]⟩, .int .i64 7])).run Tryz.prog W = .ok (.bool true) W := fun _ => by kernel_rfl
  have q2 : ∀ W, (binOp .eql 23 (.agg #[.int .i64 0, .string ⟨#[100]⟩, .int .i64 11]) (.agg #[.int .i64 0, .string ⟨#[100]⟩, .int .i64 11])).run Tryz.prog W = .ok (.bool true) W := fun _ => by kernel_rfl

  go_wp2_with fail
  with_reducible refine (B.src_at 1 0 ⟨#[97, 34, 98]⟩ _ (by decide) src_s).mono ?_
  rintro e w6 ⟨rfl, hb6⟩
  have B6 := Lib.hid (below_then B5.out hb6)
  clear hb6
  go_wp2_with fail
  with_reducible refine (B.words_at ⟨#[97, 46, 98]⟩ _ (by decide) words_s1).mono ?_
  rintro e w7 ⟨rfl, hb7⟩
  have B7 := Lib.hid (below_then B6.out hb7)
  clear hb7
  go_wp2_with fail
  with_reducible refine (B.words_at ⟨#[97, 46, 46, 98]⟩ _ (by decide) words_s2).mono ?_
  rintro e w8 ⟨rfl, hb8⟩
  have B8 := Lib.hid (below_then B7.out hb8)
  clear hb8
  go_wp2_with fail
  with_reducible refine (B.plain_at12 ⟨#[97, 43, 98]⟩ _ (by decide) plain_s1).mono ?_
  rintro e w9 ⟨rfl, hb9⟩
  have B9 := Lib.hid (below_then B8.out hb9)
  clear hb9
  go_wp2_with fail
  with_reducible refine (B.plain_at12 ⟨#[]⟩ _ (by decide) plain_s2).mono ?_
  rintro e w10 ⟨rfl, hb10⟩
  have B10 := Lib.hid (below_then B9.out hb10)
  clear hb10
  go_wp2
  go_ret
  exact ⟨rfl, B10.out⟩
end Go.Proofs.YtmcjgdajnppbhaaGreatDoor
