/-
  Proved here: the head of the laws of layer 2 comes out true. Conditions: none.
-/
import Derived.Test.YtmcjgdajnppbhaaGreatDoorUtfRunes
namespace Go.Proofs.YtmcjgdajnppbhaaGreatDoor
open Go.RowKit Utf
/-- What was read, as a walk takes it. -/
def RunesAt (l : List Nat) (z : Int) (w : World) (e : Ending) (w' : World) : Prop :=
  ∃ A c, e = .returned (.tuple #[.slice A l.length c, .int .i64 z]) ∧ Runes (.slice A l.length c) (ints l) w' ∧ Below w.heap.size w w'
theorem runes_at (s : ByteArray) (w : World) (hs : s.size ≤ 100000) {l : List Nat} {z : Int} (h : rdOf s.data.toList = (l, z)) : Calls Tryz.prog 17 #[.string s] w (RunesAt l z w) :=
  (runes_any s w hs).mono fun _ _ ⟨v, he, hv, hb⟩ => by
    rw [h] at he hv
    obtain ⟨A, c, rfl, -, -⟩ := hv.form
    simp only [ints, List.length_map] at he hv ⊢
    exact ⟨A, c, he, hv, hb⟩
end Go.Proofs.YtmcjgdajnppbhaaGreatDoor
