/-
  Proved here: 'ucd.find' at rows of api.Class, called with a slice in which rising rows lie and with the closure that tells a row's ends, tells the row that x is in, and whether there is one. Conditions: the rows lie in memory as a block of cells and rise.
-/
import Derived.Test.YtcngaekdjnompaaUcdBase
namespace Go.Proofs.Ytcngaekdjnompaa
open Go.RowKit
def encCl (x : Cl) : List Value := [.int .i32 x.lo, .int .i32 x.hi, .int .i64 x.cls, .int .i64 x.step]
def FindPostCl (rows : List Cl) (x : Int) (w : World) (e : Ending) (w' : World) : Prop :=
  e = .returned (.tuple #[.agg (encCl ((seek Cl.lo Cl.hi rows x).getD default)).toArray, .bool (seek Cl.lo Cl.hi rows x).isSome]) ∧ Below w.heap.size w w'
theorem belowCl {B S : Nat} {a w : World} (h : Below B a w) (hS : B ≤ S) (u0 u1 u2 u3 : Value) :
    Below B a ((((w.setCell ⟨S, 0, none⟩ u0).setCell ⟨S, 1, none⟩ u1).setCell ⟨S, 2, none⟩ u2).setCell ⟨S, 3, none⟩ u3) :=
  ((((h.setCell (p := ⟨S, 0, none⟩) hS u0).setCell (p := ⟨S, 1, none⟩) hS u1).setCell (p := ⟨S, 2, none⟩) hS u2).setCell (p := ⟨S, 3, none⟩) hS u3)
theorem rowCl {rows : List Cl} {b : Nat} {w : World} (h : Lies encCl 4 rows b w) (k : Nat) (hk : k < rows.length) (y : Cl) (hy : rows[k]! = y) :
    w.cell? ⟨b, k * 4, none⟩ = some (.int .i32 y.lo) ∧ w.cell? ⟨b, k * 4 + 1, none⟩ = some (.int .i32 y.hi) ∧ w.cell? ⟨b, k * 4 + 2, none⟩ = some (.int .i64 y.cls) ∧ w.cell? ⟨b, k * 4 + 3, none⟩ = some (.int .i64 y.step) := by
  have := h.2 k hk
  rw [hy] at this
  exact ⟨this 0 _ rfl, this 1 _ rfl, this 2 _ rfl, this 3 _ rfl⟩
end Go.Proofs.Ytcngaekdjnompaa
