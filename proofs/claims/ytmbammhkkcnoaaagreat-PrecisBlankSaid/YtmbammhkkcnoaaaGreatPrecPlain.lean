/-
  PLAIN: names of users: which are right, and that what stands at a blank is folded on either side of it. Conditions: as they stand in each.
-/
import Derived.Test.YtmbammhkkcnoaaaGreatDomPl
import Derived.Test.YtmbammhkkcnoaaaGreatLabFine
namespace Go.Proofs.YtmbammhkkcnoaaaGreat
open Go.RowKit Utf
namespace Prec
/-- May this character stand in a name? -/
def charOk (r : Int) : Bool := (decide (33 ≤ r) && decide (r ≤ 126)) || (catOf r == 1 && (match splitOf r with | none => true | some y => !y.soft && !y.out)) || Lab.charOk r
/-- Is there one that may not stand there? -/
def badAt (l : List Int) : Bool := (List.range l.length).any fun i => Ctx.need l (i : Nat) == 2 || (Ctx.need l (i : Nat) == 0 && !charOk l[i]!)
def classL (l : List Int) : Int := if l = [] then 13 else if badAt l then 8 else 0
def classE (bs : List UInt8) : Int := if (rdOf bs).2 = -1 then classL (ints (rdOf bs).1) else 7
def nameL (L : List Int) : Int × List UInt8 := if classL L ≠ 0 then (classL L, []) else if Bidi.has L && !Bidi.rule L then (9, []) else (0, encZ L)
def nameE (bs : List UInt8) : Int × List UInt8 := if (rdOf bs).2 = -1 then nameL (Fold.fold (ints (rdOf bs).1)) else (7, [])
def alike (a b : List UInt8) : Bool := (nameE a).1 == 0 && (nameE b).1 == 0 && (nameE a).2 == (nameE b).2
theorem classE_enc {l : List Int} (h : rightsZ l = true) : classE (encZ l) = classL l := by
  unfold classE
  rw [rd_enc h, if_pos rfl, (ints_back h).1]
theorem nameE_enc {l : List Int} (h : rightsZ l = true) : nameE (encZ l) = nameL (Fold.fold l) := by
  unfold nameE
  rw [rd_enc h, if_pos rfl, (ints_back h).1]
/-! No character joins over a blank, or a control sign -/
def isWall (x : Int) : Bool := (decide (0 ≤ x) && decide (x ≤ 32)) || x == 127
theorem wall_cases {d : Int} (h : isWall d = true) : (0 ≤ d ∧ d ≤ 32) ∨ d = 127 := by
  unfold isWall at h
  simpa using h
theorem wall_wall {d : Int} (h : isWall d = true) : Wall.isWall d = true := by
  unfold Wall.isWall
  simp only [Bool.or_eq_true, Bool.and_eq_true, decide_eq_true_eq, beq_iff_eq]
  have := wall_cases h
  omega
def wallOk (x : Int) : Bool := !charOk x && !Ctx.needs x
theorem rows_ok : ∀ x ∈ (List.range 33).map (fun i : Nat => (i : Int)) ++ [127], wallOk x = true := by decide +kernel
theorem wall_ok {d : Int} (h : isWall d = true) : wallOk d = true := by
  apply rows_ok
  rw [List.mem_append, List.mem_map]
  rcases wall_cases h with ⟨h1, h2⟩ | rfl
  · exact .inl ⟨d.toNat, List.mem_range.2 (by omega), by omega⟩
  · exact .inr (by simp)
theorem wall_all {d : Int} (h : isWall d = true) : clsOf d = 0 ∧ Norm.pieces false d = [d] ∧ Fold.fo d = d ∧ charOk d = false ∧ Ctx.needs d = false := by
  have := wall_ok h
  unfold wallOk at this
  simp only [Bool.and_eq_true, Bool.not_eq_true'] at this
  obtain ⟨h1, h2, h3⟩ := Wall.wall_all (wall_wall h)
  exact ⟨h1, h2, h3, this⟩
theorem fold_at {d : Int} (hd : isWall d = true) (p q : List Int) : Fold.fold (p ++ d :: q) = Fold.fold p ++ d :: Fold.fold q := Wall.fold_at (wall_wall hd) p q
end Prec
end Go.Proofs.YtmbammhkkcnoaaaGreat
