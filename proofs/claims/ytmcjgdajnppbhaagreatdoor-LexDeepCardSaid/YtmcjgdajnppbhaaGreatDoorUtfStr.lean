/-
  Proved here: 'String' of package utf writes all characters of a slice, or nothing if one is none. Conditions: the slice can be read, and holds at most 20,000 numbers.
-/
import Derived.Test.YtmcjgdajnppbhaaGreatDoorUtfPut
import Derived.Test.YtmcjgdajnppbhaaGreatDoorUtfMem
import Derived.Laws.BytesArg
import Derived.Deep.LoopGhost
namespace Go.Proofs.YtmcjgdajnppbhaaGreatDoor
open Go.RowKit Utf
namespace Utf
def encZ (l : List Int) : List UInt8 := l.flatMap fun r => enc r.toNat
def rightsZ (l : List Int) : Bool := l.all rightZ
theorem encZ_snoc (l : List Int) (r : Int) : encZ (l ++ [r]) = encZ l ++ enc r.toNat := by simp [encZ]
theorem rightsZ_snoc (l : List Int) (r : Int) : rightsZ (l ++ [r]) = (rightsZ l && rightZ r) := by simp [rightsZ]
theorem encZ_len (l : List Int) : (encZ l).length ≤ 4 * l.length := by
  induction l with
  | nil => simp [encZ]
  | cons r l ih =>
    have := enc_le r.toNat
    simp only [encZ, List.flatMap_cons, List.length_append, List.length_cons] at ih ⊢
    omega
theorem take_next (l : List Int) (k : Nat) (h : k < l.length) : l.take (k + 1) = l.take k ++ [l[k]!] := by
  rw [List.take_succ_eq_append_getElem h, getElem!_pos l k h]
theorem rightsZ_take {l : List Int} {k : Nat} (h : k < l.length) (hr : rightZ l[k]! = false) : rightsZ l = false := by
  unfold rightsZ
  rw [List.all_eq_false]
  exact ⟨l[k]!, by rw [getElem!_pos l k h]; exact List.getElem_mem h, by rw [hr]; simp⟩
end Utf
def StrPost (l : List Int) (w : World) (e : Ending) (w' : World) : Prop :=
  e = .returned (if rightsZ l then .tuple #[.string ⟨(encZ l).toArray⟩, .bool true] else .tuple #[.string ⟨#[]⟩, .bool false]) ∧ Below w.heap.size w w'
end Go.Proofs.YtmcjgdajnppbhaaGreatDoor
