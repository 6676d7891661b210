/-
  Proved here: the head of the laws of layer 7 comes out true, given what the program's Need, All and Needs tell. Conditions: as they stand in each.
-/
import Derived.Test.YtoekkiodhbejpaaCtxMet
import Derived.Test.YtoekkiodhbejpaaSmall
namespace Go.Proofs.Ytoekkiodhbejpaa
open Go.RowKit
/-- What the program's three functions tell. -/
structure CtxOk : Prop where
  need : ∀ (t v : Value) (l : List Int) (i : Int) (w : World), Table w t → Runes v l w → l.length ≤ 1000 → Calls Try.prog 10 #[t, v, .int .i64 i] w fun e w' => e = .returned (.int .i64 (Ctx.need l i)) ∧ Below w.heap.size w w'
  all : ∀ (t v : Value) (l : List Int) (w : World), Table w t → Runes v l w → l.length ≤ 1000 → Calls Try.prog 12 #[t, v] w fun e w' => e = .returned (.bool (Ctx.all l)) ∧ Below w.heap.size w w'
  needs : ∀ (r : Int) (w : World), Calls Try.prog 14 #[.int .i32 r] w fun e w' => e = .returned (.bool (Ctx.needs r)) ∧ Below w.heap.size w w'
theorem CtxOk.need_at (B : CtxOk) (t v : Value) (l : List Int) (i : Int) (w : World) (hT : Table w t) (hl : Runes v l w) (hn : l.length ≤ 1000) {x : Int} (hx : Ctx.need l i = x) : Calls Try.prog 10 #[t, v, .int .i64 i] w fun e w' => e = .returned (.int .i64 x) ∧ Below w.heap.size w w' := by
  subst hx
  exact B.need t v l i w hT hl hn
theorem CtxOk.all_at (B : CtxOk) (t v : Value) (l : List Int) (w : World) (hT : Table w t) (hl : Runes v l w) (hn : l.length ≤ 1000) {x : Bool} (hx : Ctx.all l = x) : Calls Try.prog 12 #[t, v] w fun e w' => e = .returned (.bool x) ∧ Below w.heap.size w w' := by
  subst hx
  exact B.all t v l w hT hl hn
theorem CtxOk.needs_at (B : CtxOk) (r : Int) (w : World) {x : Bool} (hx : Ctx.needs r = x) : Calls Try.prog 14 #[.int .i32 r] w fun e w' => e = .returned (.bool x) ∧ Below w.heap.size w w' := by
  subst hx
  exact B.needs r w
/-- A slice's first part can be read. -/
theorem runes_front {ad : Addr} {n c : Nat} {l : List Int} {w : World} (h : Runes (.slice (some ad) n c) l w) (m : Nat) (hm : m ≤ l.length) (h0 : 0 < l.length) : Runes (.slice (some ad) m c) (l.take m) w := by
  obtain ⟨A, c', e, hc, -, ha⟩ := h
  injection e with e1 e2 e3
  subst e1 e3
  rw [List.length_map] at hc ha
  obtain ⟨ad', e4, hlt, hcell⟩ := ha h0
  obtain rfl : ad = ad' := by injection e4
  refine ⟨some ad, c, by rw [List.length_map, List.length_take, Nat.min_eq_left hm], by rw [List.length_map, List.length_take]; omega, fun e => (by cases e), fun _ => ⟨ad, rfl, hlt, fun j u hu => ?_⟩⟩
  have hj : j < (l.take m).length := by have := (List.getElem?_eq_some_iff.1 hu).1; simpa using this
  rw [List.length_take] at hj
  rw [List.getElem?_map, List.getElem?_take_of_lt (by omega), ← List.getElem?_map] at hu
  exact hcell j u hu
/-- The head of the laws comes out true. -/
def Small7 : Prop := ∀ w : World, Calls Try.prog 8 #[] w fun e w' => e = .returned (.bool true) ∧ Below w.heap.size w w'
end Go.Proofs.Ytoekkiodhbejpaa
