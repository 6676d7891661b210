/-
  Proved here: the statement UtfWrites, as a call: it answers true at every slice of numbers and every number. Conditions: the slice can be read.
-/
import Derived.Test.YtpmcmbkilcpleaaUtfHead
namespace Go.Proofs.Ytpmcmbkilcpleaa
open Go.RowKit Utf
theorem below_start {a b c : World} (h : Below a.heap.size a b) (k : Below b.heap.size b c) : Below a.heap.size a c := below_then h k
/-- The two results of String, as a walk takes them. -/
def strB (l : List Int) : List UInt8 := if rightsZ l then encZ l else []
def StrAt (bs : List UInt8) (ok : Bool) (w : World) (e : Ending) (w' : World) : Prop := e = .returned (.tuple #[.string ⟨bs.toArray⟩, .bool ok]) ∧ Below w.heap.size w w'
theorem str_at {l : List Int} {bs : List UInt8} {ok : Bool} (hr : rightsZ l = ok) (hb : strB l = bs) {w : World} {e : Ending} {w' : World} (h : StrPost l w e w') : StrAt bs ok w e w' := by
  obtain ⟨he, hw⟩ := h
  refine ⟨?_, hw⟩
  unfold strB at hb
  cases ok with
  | true => rw [hr] at he hb; rw [if_pos rfl] at hb; rw [he, ← hb]; rfl
  | false => rw [hr] at he hb; rw [if_neg (by decide)] at hb; rw [he, ← hb]; rfl
theorem string_at (v : Value) (l : List Int) (w : World) (hl : Runes v l w) (hn : l.length ≤ 20000) {bs : List UInt8} {ok : Bool} (hr : rightsZ l = ok) (hb : strB l = bs) :
    Calls Try.prog 26 #[v] w (StrAt bs ok w) := (string_any v l w hl hn).mono fun _ _ h => str_at hr hb h
theorem refString_at (v : Value) (l : List Int) (w : World) (hl : Runes v l w) (hn : l.length ≤ 20000) {bs : List UInt8} {ok : Bool} (hr : rightsZ l = ok) (hb : strB l = bs) :
    Calls Try.prog 44 #[v] w (StrAt bs ok w) := (refString_any v l w hl hn).mono fun _ _ h => str_at hr hb h
end Go.Proofs.Ytpmcmbkilcpleaa
