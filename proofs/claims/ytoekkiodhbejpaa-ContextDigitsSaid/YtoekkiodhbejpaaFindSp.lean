/-
  Proved here: 'ucd.find' at rows of api.Split, called with a slice in which rising rows lie and with the closure that tells a row's ends, tells the row that x is in, and whether there is one. Conditions: the rows lie in memory as a block of cells and rise.
-/
import Derived.Test.YtoekkiodhbejpaaUcdBase
namespace Go.Proofs.Ytoekkiodhbejpaa
open Go.RowKit
def encSp (x : Sp) : List Value := [.int .i32 x.rune, .int .i32 x.one, .int .i32 x.two, .bool x.soft, .bool x.out]
def FindPostSp (rows : List Sp) (x : Int) (w : World) (e : Ending) (w' : World) : Prop :=
  e = .returned (.tuple #[.agg (encSp ((seek Sp.rune Sp.rune rows x).getD default)).toArray, .bool (seek Sp.rune Sp.rune rows x).isSome]) ∧ Below w.heap.size w w'
theorem belowSp {B S : Nat} {a w : World} (h : Below B a w) (hS : B ≤ S) (u0 u1 u2 u3 u4 : Value) :
    Below B a (((((w.setCell ⟨S, 0, none⟩ u0).setCell ⟨S, 1, none⟩ u1).setCell ⟨S, 2, none⟩ u2).setCell ⟨S, 3, none⟩ u3).setCell ⟨S, 4, none⟩ u4) :=
  (((((h.setCell (p := ⟨S, 0, none⟩) hS u0).setCell (p := ⟨S, 1, none⟩) hS u1).setCell (p := ⟨S, 2, none⟩) hS u2).setCell (p := ⟨S, 3, none⟩) hS u3).setCell (p := ⟨S, 4, none⟩) hS u4)
theorem rowSp {rows : List Sp} {b : Nat} {w : World} (h : Lies encSp 5 rows b w) (k : Nat) (hk : k < rows.length) (y : Sp) (hy : rows[k]! = y) :
    w.cell? ⟨b, k * 5, none⟩ = some (.int .i32 y.rune) ∧ w.cell? ⟨b, k * 5 + 1, none⟩ = some (.int .i32 y.one) ∧ w.cell? ⟨b, k * 5 + 2, none⟩ = some (.int .i32 y.two) ∧ w.cell? ⟨b, k * 5 + 3, none⟩ = some (.bool y.soft) ∧ w.cell? ⟨b, k * 5 + 4, none⟩ = some (.bool y.out) := by
  have := h.2 k hk
  rw [hy] at this
  exact ⟨this 0 _ rfl, this 1 _ rfl, this 2 _ rfl, this 3 _ rfl, this 4 _ rfl⟩
end Go.Proofs.Ytoekkiodhbejpaa
