/-
  Proved here: the document's own 'Width', 'Lower', 'Plain' and 'Fold' of layer 4. Conditions: slices can be read, and hold at most 10,000 numbers; strings have at most 200 bytes.
-/
import Derived.Test.YtocaiabbihampaaGreatFoldBytes
import Derived.Test.YtocaiabbihampaaGreatNormRef
import Derived.Test.YtocaiabbihampaaGreatPlainA
namespace Go.Proofs.YtocaiabbihampaaGreat
open Go.RowKit Utf
def halfB (L : List UInt8) (k : Nat) : List UInt8 := (L.take k).map smallB ++ L.drop k
theorem halfB_len (L : List UInt8) (k : Nat) : (halfB L k).length = L.length := by
  unfold halfB; rw [List.length_append, List.length_map, List.length_take, List.length_drop]; omega
theorem halfB_at (L : List UInt8) (k : Nat) (h : k < L.length) : (halfB L k)[k]! = L[k]! := by
  rw [getElem!_pos (halfB L k) k (by rw [halfB_len]; exact h), getElem!_pos L k h]
  unfold halfB
  rw [List.getElem_append_right (by rw [List.length_map, List.length_take]; omega)]
  simp only [List.length_map, List.length_take, List.getElem_drop]
  congr 1
  omega
theorem halfB_next (L : List UInt8) (k : Nat) (h : k < L.length) : halfB L (k + 1) = (halfB L k).set k (smallB L[k]!) := by
  unfold halfB
  rw [List.set_append_right _ _ (by rw [List.length_map, List.length_take]; omega), List.take_succ_eq_append_getElem h, List.map_append, getElem!_pos L k h, List.append_assoc, List.drop_eq_getElem_cons h]
  congr 1
  rw [List.length_map, List.length_take, show k - min k L.length = 0 by omega]
  rfl
theorem halfB_same (L : List UInt8) (k : Nat) (h : k < L.length) (hs : smallB L[k]! = L[k]!) : halfB L (k + 1) = halfB L k := by
  rw [halfB_next L k h, hs]
  apply List.ext_getElem
  · simp
  · intro j h1 h2
    by_cases e : k = j
    · subst e
      rw [List.getElem_set_self, ← halfB_at L k h, getElem!_pos (halfB L k) k h2]
    · rw [List.getElem_set_ne e]
theorem low_right : ∀ y ∈ lowers, ∀ i ∈ List.range (y.hi - y.lo + 1).toNat, rightZ (lowOf (y.lo + i)) = true := by decide +kernel
theorem wide_fo_right : ∀ i ∈ List.range 94, rightZ (Fold.fo (65281 + i)) = true := by decide +kernel
theorem fo_right {r : Int} (h : rightZ r = true) : rightZ (Fold.fo r) = true := by
  cases hw : wideOf r with
  | true =>
    simp only [wideOf, Bool.and_eq_true, decide_eq_true_eq] at hw
    have := wide_fo_right (r - 65281).toNat (by rw [List.mem_range]; omega)
    rwa [show (65281 : Int) + ((r - 65281).toNat : Int) = r by omega] at this
  | false =>
    have hn : Fold.narrow r = r := by unfold Fold.narrow; rw [hw]; rfl
    unfold Fold.fo
    rw [hn]
    cases hl : lowerOf r with
    | none => unfold lowOf; rw [hl]; exact h
    | some y =>
      obtain ⟨h1, h2, h3⟩ := seek_some hl
      have := low_right y h1 (r - y.lo).toNat (by rw [List.mem_range]; omega)
      rwa [show y.lo + ((r - y.lo).toNat : Int) = r by omega] at this
theorem map_fo_right {l : List Int} (h : rightsZ l = true) : rightsZ (l.map Fold.fo) = true := by
  unfold rightsZ at h ⊢
  rw [List.all_eq_true] at h ⊢
  intro c hc
  obtain ⟨d, hd, rfl⟩ := List.mem_map.1 hc
  exact fo_right (h d hd)
end Go.Proofs.YtocaiabbihampaaGreat
