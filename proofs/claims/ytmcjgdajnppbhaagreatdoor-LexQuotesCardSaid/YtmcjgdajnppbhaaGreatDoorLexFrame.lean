/-
  Proved here: what is handed to a law of layer 12 as a token is three cells, and reads behind the call as it did; a start that has what the rows of layer 12 list. Conditions: as they stand in each.
-/
import Derived.Test.YtmcjgdajnppbhaaGreatDoorLaidFrame
import Derived.Deep.Strs
import Derived.LaidHandle
import Derived.Lay
namespace Go.Proofs.YtmcjgdajnppbhaaGreatDoor
open Go.RowKit Go.ChangeShapes Go.ChangeMaps Go.WideShapes Go.Deep
def laid12 : List (String × DataW Unit) := [("unicode/utf8.acceptRanges", Rows.laid_unicode_utf8_acceptRanges), ("unicode/utf8.first", Rows.laid_unicode_utf8_first)]
set_option maxRecDepth 100000 in
/-- A heap in which what is listed is laid. -/
theorem met12 (os : Os) (args : Array Value) : laidMetH Tryz.prog laid12 ((World.laidAll Tryz.prog os laid12).forCall (fun _ _ => 0) ⟨#[], args, []⟩).memory := by
  rw [MakeChecks.laidMetH_plain _ _ _ (by kernel_rfl)]
  exact laidMet_laidAll _ (by kernel_rfl) (by kernel_rfl)
section
variable {H : Type} {enc : TypeId × Value → H} {w : World} {base : Nat} {sp : Nat → Bool} {held : Bool}
/-- What a token reads as. -/
abbrev tokD (k p : Int) (s : ByteArray) : DataW H := .agg [.lit (.int .i64 k), .lit (.string s.data.toList), .lit (.int .i64 p)]
set_option maxRecDepth 100000 in
theorem cells_tok : Tryz.prog.cellsOf 23 = 3 ∧ Tryz.prog.cellsOf 3 = 1 ∧ Tryz.prog.cellsOf 9 = 1 := ⟨by kernel_rfl, by kernel_rfl, by kernel_rfl⟩
set_option maxRecDepth 100000 in
theorem open_token {r : Reach} {b0 : Nat} {v : Value} {d : DataW H} {ps : List MemPlace} (hval : Value.okWide Tryz.prog w r b0 23 v) (hd : DataW.Trod enc Tryz.prog w base sp held 23 v d ps) :
    ∃ (k p : Int) (s : ByteArray), v = .agg #[.int .i64 k, .string s, .int .i64 p] ∧ d = tokD k p s ∧ ps = [] ∧ (Lit.int .i64 k).wf = true ∧ (Lit.int .i64 p).wf = true ∧ s.size ≤ maxLen := by
  obtain ⟨c0, c1, c2⟩ := cells_tok
  obtain ⟨cs, rfl, hsz⟩ := okWide_struct Tryz.underlying23 hval
  obtain ⟨fuel, hf⟩ := hd
  obtain ⟨y0, y1, y2, n, hx, hl, t0, t1, t2⟩ := trod_struct3 Tryz.underlying23 hf
  rw [c0] at hsz
  obtain ⟨l⟩ := cs
  match l, hsz with
  | [u0, u1, u2], _ =>
  simp [Value.cells, c1, c2] at t0 t1 t2
  obtain ⟨k, e0, rfl, wk⟩ := DataW.trod_int Tryz.underlying3 t0
  obtain ⟨s, e1, rfl, ws⟩ := DataW.trod_string Tryz.underlying9 t1
  obtain ⟨p, e2, rfl, wp⟩ := DataW.trod_int Tryz.underlying3 t2
  simp at e0 e1 e2
  subst e0 e1 e2
  simp only [Prod.mk.injEq] at hx
  exact ⟨k, p, s, rfl, hx.1, hx.2, wk, wp, ws⟩
set_option maxRecDepth 100000 in
theorem shut_token {k p : Int} {s : ByteArray} (wk : (Lit.int .i64 k).wf = true) (wp : (Lit.int .i64 p).wf = true) (ws : s.size ≤ maxLen) :
    DataW.Trod enc Tryz.prog w base sp held 23 (.agg #[.int .i64 k, .string s, .int .i64 p]) (tokD k p s) [] := by
  obtain ⟨c0, c1, c2⟩ := cells_tok
  refine ⟨2, ?_⟩
  have h := trod_struct3_mk (enc := enc) (w := w) (base := base) (spare := sp) (held := held) (n := 1) (cs := [.int .i64 k, .string s, .int .i64 p]) (y0 := (.lit (.int .i64 k), [])) (y1 := (.lit (.string s.data.toList), [])) (y2 := (.lit (.int .i64 p), [])) Tryz.underlying23 (by rw [c0]; rfl)
    (by simp [DataW.trod, c1, Tryz.underlying3, wk]) (by simp [DataW.trod, c2, Tryz.underlying9, ws]) (by simp [DataW.trod, c1, Tryz.underlying3, wp])
  simpa [Value.cells] using h
end
end Go.Proofs.YtmcjgdajnppbhaaGreatDoor
