/-
  Proved here: 'ucd.find' at rows of api.Lower, called with a slice in which rising rows lie and with the closure that tells a row's ends, tells the row that x is in, and whether there is one. Conditions: the rows lie in memory as a block of cells and rise.
-/
import Derived.Test.YtoekkiodhbejpaaUcdBase
namespace Go.Proofs.Ytoekkiodhbejpaa
open Go.RowKit
def encLw (x : Lw) : List Value := [.int .i32 x.lo, .int .i32 x.hi, .int .i32 x.far]
def FindPostLw (rows : List Lw) (x : Int) (w : World) (e : Ending) (w' : World) : Prop :=
  e = .returned (.tuple #[.agg (encLw ((seek Lw.lo Lw.hi rows x).getD default)).toArray, .bool (seek Lw.lo Lw.hi rows x).isSome]) ∧ Below w.heap.size w w'
theorem belowLw {B S : Nat} {a w : World} (h : Below B a w) (hS : B ≤ S) (u0 u1 u2 : Value) :
    Below B a (((w.setCell ⟨S, 0, none⟩ u0).setCell ⟨S, 1, none⟩ u1).setCell ⟨S, 2, none⟩ u2) :=
  (((h.setCell (p := ⟨S, 0, none⟩) hS u0).setCell (p := ⟨S, 1, none⟩) hS u1).setCell (p := ⟨S, 2, none⟩) hS u2)
theorem rowLw {rows : List Lw} {b : Nat} {w : World} (h : Lies encLw 3 rows b w) (k : Nat) (hk : k < rows.length) (y : Lw) (hy : rows[k]! = y) :
    w.cell? ⟨b, k * 3, none⟩ = some (.int .i32 y.lo) ∧ w.cell? ⟨b, k * 3 + 1, none⟩ = some (.int .i32 y.hi) ∧ w.cell? ⟨b, k * 3 + 2, none⟩ = some (.int .i32 y.far) := by
  have := h.2 k hk
  rw [hy] at this
  exact ⟨this 0 _ rfl, this 1 _ rfl, this 2 _ rfl⟩
end Go.Proofs.Ytoekkiodhbejpaa
