/-
  Proved here: what a call owes the row, where nothing that lay in memory has turned and its results need no memory. Conditions: as they stand in the theorem.
-/
import Derived.Test.YtkcabnodhdhaaaaDoorRows
import Derived.WalkKit
import Derived.ProofKit
import Derived.OpenShut
namespace Go.Proofs.YtkcabnodhdhaaaaDoor
open Go.ChangeShapes Go.WideShapes Go.ChangeAt Go.RowKit
theorem own : ownKnob Tryd.prog.godebug = none := by kernel_rfl
section
variable {H : Type} {enc : TypeId × Value → H} {P : Program}
theorem post_calm {f : Func} {s : ChangeSpec} {apart fresh handsOn again : Bool} {W W' : World} {args : Array Value} {v : Value} {ds gs : List (DataW H)} {old pa pv : List MemPlace}
    (whole : DataW.Whole enc P f.params.toList s.vars apart W args.toList ds gs old)
    (res : ∀ (b : Nat) (sp : Nat → Bool) (hd : Bool), DataW.TrodAll enc P W' b sp hd f.resultTypes.toList (v.resultList f.resultTypes.size) (s.fn H (ds ++ gs)).results [])
    (arg : ∀ sp : Nat → Bool, (∀ p ∈ old, sp p.block = true) → DataW.TrodAll enc P W' 0 sp true f.params.toList args.toList (s.fn H (ds ++ gs)).args pa)
    (var : ∀ sp : Nat → Bool, (∀ p ∈ old, sp p.block = true) → DataW.TrodVars enc P W' sp s.vars (s.fn H (ds ++ gs)).vars pv)
    (places : old = pa ++ pv) (calm : Below W.heap.size W W')
    (ok : ∀ (j : Nat) (t : TypeId) (r : Value), f.resultTypes[j]? = some t → (v.resultList f.resultTypes.size)[j]? = some r → Value.okWide P W' .any 0 t r) :
    s.post enc P f apart fresh handsOn again W args v W' := by
  have lt : ∀ p ∈ old, p.block < W.heap.size := fun p hp => whole.lt p hp
  have seen : ∀ p ∈ old, (fun b => decide (b < W.heap.size)) p.block = true := fun p hp => decide_eq_true (lt p hp)
  have mem : ∀ p, p ∈ old ↔ p ∈ pa ∨ p ∈ pv := fun p => by rw [places, List.mem_append]
  refine ⟨ds, gs, old, [], pa, pv, whole, res _ _ _, arg _ seen, var _ seen, World.keptBut_mono (fun p hp => ⟨hp, Or.inr ((mem p).1 hp)⟩) (calm.frame (· ∈ old)), fun _ => ?_⟩
  obtain ⟨_, _, _, _, _, frozen, nodup⟩ := whole
  refine ⟨ok, _, _, ([] ++ pa) ++ pv, ⟨[] ++ pa, pv, trodAll_append (arg _ (fun _ _ => rfl)) (res _ _ _), var _ (fun _ _ => rfl), rfl, fun b off hp => ?_, fun ha => ?_⟩, fun p hp _ => ?_⟩
  · have hin : MemPlace.cell b off ∈ old := by rw [places]; simpa using hp
    rw [calm.frozen (lt _ hin)]
    exact frozen b off hin
  · have := nodup ha
    rw [places] at this
    simpa using this
  · rw [places]; simpa using hp
end
end Go.Proofs.YtkcabnodhdhaaaaDoor
