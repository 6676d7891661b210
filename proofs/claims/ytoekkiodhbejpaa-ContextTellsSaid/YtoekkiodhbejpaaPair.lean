/-
  Proved here: ucd.Table's Pair, called on what New answers, tells the character that is made of two others by the tables, and whether there is one. Conditions: the table is one that New made.
-/
import Derived.Test.YtoekkiodhbejpaaUcd
namespace Go.Proofs.Ytoekkiodhbejpaa
open Go.RowKit
def IndexPost (p : Sp → Bool) (n : Nat) (rows : List Sp) (w : World) (e : Ending) (w' : World) : Prop :=
  ∃ k : Nat, k ≤ n ∧ (∀ j, j < k → p rows[j]! = false) ∧ ((k < n ∧ p rows[k]! = true ∧ e = .returned (.int .i64 k)) ∨ (k = n ∧ e = .returned (.int .i64 (-1)))) ∧ Below w.heap.size w w'
theorem find_hit {α : Type} [Inhabited α] (p : α → Bool) : ∀ (l : List α) (k : Nat), k < l.length → (∀ j, j < k → p l[j]! = false) → p l[k]! = true → l.find? p = some l[k]!
  | [], _, h, _, _ => by simp at h
  | x :: t, 0, _, _, h => by simp only [List.getElem!_cons_zero] at h ⊢; simp [h]
  | x :: t, k + 1, hk, h0, h1 => by
    have hx := h0 0 (by omega)
    simp only [List.getElem!_cons_zero, List.getElem!_cons_succ] at hx h1 ⊢
    rw [List.find?_cons_of_neg (by simp [hx])]
    exact find_hit p t k (by simpa using hk) (fun j hj => by have := h0 (j + 1) (by omega); simpa using this) h1
theorem find_miss {α : Type} [Inhabited α] (p : α → Bool) : ∀ (l : List α), (∀ j, j < l.length → p l[j]! = false) → l.find? p = none
  | [], _ => rfl
  | x :: t, h => by
    have hx := h 0 (by simp)
    simp only [List.getElem!_cons_zero] at hx
    rw [List.find?_cons_of_neg (by simp [hx])]
    exact find_miss p t (fun j hj => by have := h (j + 1) (by simpa using hj); simpa using this)
def TellsRune (o : Option Int) (w : World) (e : Ending) (w' : World) : Prop :=
  e = .returned (.tuple #[.int .i32 (o.getD 0), .bool o.isSome]) ∧ Below w.heap.size w w'
theorem below_three (w : World) (a b c : Obj) : Below w.heap.size w (((w.alloc a).alloc b).alloc c) := (((Below.refl _ w).alloc (Nat.le_refl _) _).alloc (by simp) _).alloc (by simp; omega) _
end Go.Proofs.Ytoekkiodhbejpaa
