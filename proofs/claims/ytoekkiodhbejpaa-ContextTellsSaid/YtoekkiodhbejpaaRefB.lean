/-
  Proved here: the document's own answers for layer 1 (splits, pairs), as functions of Go, tell what the tables say. Conditions: none.
-/
import Derived.Test.YtoekkiodhbejpaaRef
namespace Go.Proofs.Ytoekkiodhbejpaa
open Go.RowKit
theorem refSplitBox (w : World) {w1 : World} (hb1 : Below (w.alloc (.cells #[.int .i32 0, .int .i32 0, .int .i32 0, .bool false, .bool false] 65)).heap.size (w.alloc (.cells #[.int .i32 0, .int .i32 0, .int .i32 0, .bool false, .bool false] 65)) w1) :
    (∀ i, w1.frozen? ⟨w.heap.size, i, none⟩ = false) ∧ w1.cell? ⟨w.heap.size, 0, none⟩ = some (.int .i32 0) ∧ w1.cell? ⟨w.heap.size, 1, none⟩ = some (.int .i32 0) ∧ w1.cell? ⟨w.heap.size, 2, none⟩ = some (.int .i32 0) ∧ w1.cell? ⟨w.heap.size, 3, none⟩ = some (.bool false) ∧ w1.cell? ⟨w.heap.size, 4, none⟩ = some (.bool false) := by
  have hc : ∀ i, w1.cell? ⟨w.heap.size, i, none⟩ = _ := fun i => hb1.cell (p := ⟨w.heap.size, i, none⟩) (show w.heap.size < _ by simp)
  exact ⟨fun i => (hb1.frozen (p := ⟨w.heap.size, i, none⟩) (show w.heap.size < _ by simp)).trans (by go_simp),
    (hc 0).trans (by go_simp), (hc 1).trans (by go_simp), (hc 2).trans (by go_simp), (hc 3).trans (by go_simp), (hc 4).trans (by go_simp)⟩
theorem narrow_row (x : Int) (h : wideOf x = false) : splitOf x = rowOf x := by
  unfold splitOf
  cases rowOf x <;> simp [h]
theorem step_makes {p : Sp → Bool} {rows : List Sp} {k : Nat} (A : ∀ j, j < k → p rows[j]! = false) {y : Sp} (hy : rows[k]! = y) (h : p y = false) : ∀ j, j < k + 1 → p rows[j]! = false := fun j hj => by
  by_cases e : j = k
  · subst e; rw [hy]; exact h
  · exact A j (by omega)
end Go.Proofs.Ytoekkiodhbejpaa
