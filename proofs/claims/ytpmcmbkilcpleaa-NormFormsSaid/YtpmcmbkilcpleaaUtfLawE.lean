/-
  Proved here: the statement UtfReads, as a call: it answers true at every string. Conditions: none beyond that the string has a length.
-/
import Derived.Test.YtpmcmbkilcpleaaUtfHead
import Derived.Test.YtpmcmbkilcpleaaUtfRefRunes
namespace Go.Proofs.Ytpmcmbkilcpleaa
open Go.RowKit Utf
theorem refRunes_at (s : ByteArray) (w : World) (hs : s.size ≤ 100000) {l : List Nat} {z : Int} (h : rdOf s.data.toList = (l, z)) : Calls Try.prog 43 #[.string s] w (RunesAt l z w) :=
  (refRunes_any s w hs).mono fun _ _ ⟨v, he, hv, hb⟩ => by
    rw [h] at he hv
    obtain ⟨A, c, rfl, -, -⟩ := hv.form
    simp only [ints, List.length_map] at he hv ⊢
    exact ⟨A, c, he, hv, hb⟩
theorem rd_len (s : List UInt8) : (rdOf s).1.length ≤ s.length := by
  have h := readAll_sound s.length s
  have h2 := congrArg List.length h.2
  rw [List.length_append] at h2
  have h3 := encAll_le (readAll s.length s).1
  unfold rdOf
  simp only
  omega
end Go.Proofs.Ytpmcmbkilcpleaa
