/-
  Proved here: what the laws of layer 12 ask of the program's four functions. Conditions: as they stand in each.
-/
import Derived.Test.YtmcjgdajnppbhaaGreatDoorLexRow
namespace Go.Proofs.YtmcjgdajnppbhaaGreatDoor
open Go.RowKit Utf
open Lex (Tok)
/-- What Lex tells. -/
def LexPost (E : Int) (p : Nat) (ts : List Tok) (w : World) (e : Ending) (w' : World) : Prop :=
  ∃ (A : Option Addr) (c : Nat), e = .returned (.tuple #[.slice A ts.length c, .int .i64 p, .int .i64 E]) ∧ Toks (.slice A ts.length c) ts w' ∧ Below w.heap.size w w'
theorem lexPost_of {E : Int} {p : Nat} {ts : List Tok} {w w' : World} {e : Ending} {v : Value} (he : e = .returned (.tuple #[v, .int .i64 p, .int .i64 E])) (hT : Toks v ts w') (hb : Below w.heap.size w w') : LexPost E p ts w e w' := by
  obtain ⟨A, c, rfl, h⟩ := hT
  exact ⟨A, c, he, ⟨A, c, rfl, h⟩, hb⟩
/-- What the program's four functions tell. -/
structure LexOk : Prop where
  lex : ∀ (s : ByteArray) (w : World), s.size ≤ 100000 → Calls Tryz.prog 11 #[.string s] w (LexPost (Lex.lexE s.data.toList).1 (Lex.lexE s.data.toList).2.1 (Lex.lexE s.data.toList).2.2 w)
  source : ∀ (k p : Int) (s : ByteArray) (w : World), s.size ≤ 100000 → Calls Tryz.prog 9 #[.agg #[.int .i64 k, .string s, .int .i64 p]] w fun e w' => e = .returned (.string ⟨(Lex.srcT k s.data.toList).toArray⟩) ∧ Below w.heap.size w w'
  plain : ∀ (s : ByteArray) (w : World), s.size ≤ 100000 → Calls Tryz.prog 12 #[.string s] w fun e w' => e = .returned (.bool (Lex.plainT s.data.toList)) ∧ Below w.heap.size w w'
  words : ∀ (s : ByteArray) (w : World), s.size ≤ 100000 → Calls Tryz.prog 13 #[.string s] w fun e w' => e = .returned (.bool (Lex.wordsT s.data.toList)) ∧ Below w.heap.size w w'
theorem LexOk.lex_at (B : LexOk) (s : ByteArray) (w : World) (hs : s.size ≤ 100000) {E : Int} {p : Nat} {ts : List Tok} (hx : Lex.lexE s.data.toList = (E, p, ts)) : Calls Tryz.prog 11 #[.string s] w (LexPost E p ts w) := by
  have := B.lex s w hs
  rwa [hx] at this
theorem LexOk.src_at (B : LexOk) (k p : Int) (s : ByteArray) (w : World) (hs : s.size ≤ 100000) {x : List UInt8} (hx : Lex.srcT k s.data.toList = x) : Calls Tryz.prog 9 #[.agg #[.int .i64 k, .string s, .int .i64 p]] w fun e w' => e = .returned (.string ⟨x.toArray⟩) ∧ Below w.heap.size w w' := by
  subst hx
  exact B.source k p s w hs
theorem LexOk.plain_at12 (B : LexOk) (s : ByteArray) (w : World) (hs : s.size ≤ 100000) {x : Bool} (hx : Lex.plainT s.data.toList = x) : Calls Tryz.prog 12 #[.string s] w fun e w' => e = .returned (.bool x) ∧ Below w.heap.size w w' := by
  subst hx
  exact B.plain s w hs
theorem LexOk.words_at (B : LexOk) (s : ByteArray) (w : World) (hs : s.size ≤ 100000) {x : Bool} (hx : Lex.wordsT s.data.toList = x) : Calls Tryz.prog 13 #[.string s] w fun e w' => e = .returned (.bool x) ∧ Below w.heap.size w w' := by
  subst hx
  exact B.words s w hs
end Go.Proofs.YtmcjgdajnppbhaaGreatDoor
