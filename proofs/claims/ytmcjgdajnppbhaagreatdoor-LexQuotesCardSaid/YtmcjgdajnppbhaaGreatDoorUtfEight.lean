/-
  Proved here: 'Eight' of package utf, and of the document's own answer, is the place of the first byte that is 80 or more; 'Same' of the document's own answer tells whether two slices read alike. Conditions: the slices can be read.
-/
import Derived.Test.YtmcjgdajnppbhaaGreatDoorUtfRefStr
import Derived.Deep.QuietTactic
import Derived.BigQuiet
namespace Go.Proofs.YtmcjgdajnppbhaaGreatDoor
open Go.RowKit Utf
namespace Utf
def eightFrom : List UInt8 → Nat → Int
  | [], _ => -1
  | b :: t, k => if b.toNat < 128 then eightFrom t (k + 1) else k
/-- The place of the first byte that is 80 or more; -1, if there is none. -/
def eightOf (s : List UInt8) : Int := eightFrom s 0
theorem drop_next (s : ByteArray) (k : Nat) (h : k < s.size) : s.data.toList.drop k = s[k] :: s.data.toList.drop (k + 1) := by
  rw [List.drop_eq_getElem_cons (by simpa using h)]
  rfl
theorem eight_step (s : ByteArray) (k : Nat) (h : k < s.size) : eightFrom (s.data.toList.drop k) k = if s[k].toNat < 128 then eightFrom (s.data.toList.drop (k + 1)) (k + 1) else k := by
  rw [drop_next s k h]
  rfl
theorem eight_end (s : ByteArray) : eightFrom (s.data.toList.drop s.size) s.size = -1 := by
  rw [List.drop_of_length_le (by simp)]
  rfl
end Utf
theorem same_of {a b : List Int} (hl : a.length = b.length) (h : ∀ j, j < a.length → a[j]! = b[j]!) : a = b := by
  apply List.ext_getElem hl
  intro i h1 h2
  have := h i h1
  rw [getElem!_pos a i h1, getElem!_pos b i h2] at this
  exact this
def SamePost (a b : List Int) (w : World) (e : Ending) (w' : World) : Prop := e = .returned (.bool (decide (a = b))) ∧ Below w.heap.size w w'
end Go.Proofs.YtmcjgdajnppbhaaGreatDoor
