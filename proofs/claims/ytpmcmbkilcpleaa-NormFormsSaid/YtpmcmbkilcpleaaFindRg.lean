/-
  Proved here: 'ucd.find' at rows of api.Range, called with a slice in which rising rows lie and with the closure that tells a row's ends, tells the row that x is in, and whether there is one. Conditions: the rows lie in memory as a block of cells and rise.
-/
import Derived.Test.YtpmcmbkilcpleaaUcdBase
namespace Go.Proofs.Ytpmcmbkilcpleaa
open Go.RowKit
def encRg (x : Rg) : List Value := [.int .i32 x.lo, .int .i32 x.hi, .int .i64 x.cat, .int .i64 x.bidi, .int .i64 x.join, .int .i64 x.script]
def FindPostRg (rows : List Rg) (x : Int) (w : World) (e : Ending) (w' : World) : Prop :=
  e = .returned (.tuple #[.agg (encRg ((seek Rg.lo Rg.hi rows x).getD default)).toArray, .bool (seek Rg.lo Rg.hi rows x).isSome]) ∧ Below w.heap.size w w'
theorem belowRg {B S : Nat} {a w : World} (h : Below B a w) (hS : B ≤ S) (u0 u1 u2 u3 u4 u5 : Value) :
    Below B a ((((((w.setCell ⟨S, 0, none⟩ u0).setCell ⟨S, 1, none⟩ u1).setCell ⟨S, 2, none⟩ u2).setCell ⟨S, 3, none⟩ u3).setCell ⟨S, 4, none⟩ u4).setCell ⟨S, 5, none⟩ u5) :=
  ((((((h.setCell (p := ⟨S, 0, none⟩) hS u0).setCell (p := ⟨S, 1, none⟩) hS u1).setCell (p := ⟨S, 2, none⟩) hS u2).setCell (p := ⟨S, 3, none⟩) hS u3).setCell (p := ⟨S, 4, none⟩) hS u4).setCell (p := ⟨S, 5, none⟩) hS u5)
theorem rowRg {rows : List Rg} {b : Nat} {w : World} (h : Lies encRg 6 rows b w) (k : Nat) (hk : k < rows.length) (y : Rg) (hy : rows[k]! = y) :
    w.cell? ⟨b, k * 6, none⟩ = some (.int .i32 y.lo) ∧ w.cell? ⟨b, k * 6 + 1, none⟩ = some (.int .i32 y.hi) ∧ w.cell? ⟨b, k * 6 + 2, none⟩ = some (.int .i64 y.cat) ∧ w.cell? ⟨b, k * 6 + 3, none⟩ = some (.int .i64 y.bidi) ∧ w.cell? ⟨b, k * 6 + 4, none⟩ = some (.int .i64 y.join) ∧ w.cell? ⟨b, k * 6 + 5, none⟩ = some (.int .i64 y.script) := by
  have := h.2 k hk
  rw [hy] at this
  exact ⟨this 0 _ rfl, this 1 _ rfl, this 2 _ rfl, this 3 _ rfl, this 4 _ rfl, this 5 _ rfl⟩
end Go.Proofs.Ytpmcmbkilcpleaa
