/-
  Proved here: the document's own 'bytes' and 'String': the bytes of a character, and of all characters of a slice, or nothing if one is none. Conditions: the slice can be read, and holds at most 20,000 numbers.
-/
import Derived.Test.YtmcjgdajnppbhaaGreatDoorUtfStr
namespace Go.Proofs.YtmcjgdajnppbhaaGreatDoor
open Go.RowKit Utf
def BytesPost (r : Int) (w : World) (e : Ending) (w' : World) : Prop := ∃ v', e = .returned v' ∧ Bytes v' (enc r.toNat) w' ∧ Below w.heap.size w w'
theorem bytes_lit (w : World) (cells : List Value) (bs : List UInt8) (h : cells = bs.map byteV) (m : Nat) (hm : m = bs.length) : Bytes (.slice (some ⟨w.heap.size, 0, none⟩) m m) bs (w.alloc (.cells cells.toArray 5)) := by
  subst h hm
  refine ⟨some ⟨w.heap.size, 0, none⟩, bs.length, by rw [List.length_map], by rw [List.length_map]; exact Nat.le_refl _, fun h => (by cases h), fun _ => ⟨_, rfl, by simp, fun j u hu => ?_⟩⟩
  have e : (⟨w.heap.size, 0, none⟩ : Addr).add j = ⟨w.heap.size, j, none⟩ := by unfold Addr.add; split <;> simp_all
  rw [e, World.cell?_alloc_at _ _ _ _ (by simp), ← hu]
  simp
end Go.Proofs.YtmcjgdajnppbhaaGreatDoor
