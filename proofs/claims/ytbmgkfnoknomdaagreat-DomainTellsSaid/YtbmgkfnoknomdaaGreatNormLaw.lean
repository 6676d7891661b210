/-
  Proved here: syllables and what they are made of are the same (NormHangul), at any three numbers: the law's call returns true, and nothing that lay has turned. Conditions: none.
  Proved here: what is split, ordered and joined is the document's own answer's, and is new memory (NormSteps), at any characters: the law's call returns true, and nothing that lay has turned. Conditions: the slice can be read.
  Proved here: a string's normal forms are the document's own (NormForms), at any string: the law's call returns true, and nothing that lay has turned. Conditions: none.
  Proved here: each form, done again, changes nothing, and the forms of forms are those of the string (NormSame), at any string: the law's call returns true, and nothing that lay has turned. Conditions: none.
-/
import Derived.Test.YtbmgkfnoknomdaaGreatNorm
namespace Go.Proofs.YtbmgkfnoknomdaaGreat
open Go.RowKit Utf
namespace Norm
end Norm
end Go.Proofs.YtbmgkfnoknomdaaGreat
namespace Go.Proofs.YtbmgkfnoknomdaaGreat
open Go.RowKit Utf
/-- A store into another row leaves this one. -/
theorem OwnR.other {base base2 g n c k : Nat} {v : Value} {l m : List Int} {w : World} (h : OwnR base v l w) (h2 : OwnR base2 (.slice (some ⟨g, 0, none⟩) n c) m w) (hne : v.ownBlock ≠ some g) (x : Int) : OwnR base v l (w.setCell ⟨g, k, none⟩ (.int .i32 x)) := by
  have hn : n = m.length := by
    rcases h2.2 with ⟨h0, -⟩ | ⟨g', cap, cur, h0, -⟩
    · cases h0
    · injection h0
  subst hn
  have hg := (World.ownsRow.stored h2 k (.int .i32 x)).2
  exact World.ownsRow.kept h hg (.inr hne)
end Go.Proofs.YtbmgkfnoknomdaaGreat
namespace Go.Proofs.YtbmgkfnoknomdaaGreat
open Go.RowKit Utf
end Go.Proofs.YtbmgkfnoknomdaaGreat
namespace Go.Proofs.YtbmgkfnoknomdaaGreat
open Go.RowKit Utf
theorem fits_enc {soft : Bool} {X : List Int} {s : ByteArray} (hs : s.data.toList = encZ X) (hX : rightsZ X = true) (hl : X.length ≤ 9600) (hd : (Norm.down soft X).length ≤ 9600) : Fits soft s (X.map Int.toNat) ∧ ints (X.map Int.toNat) = X := by
  obtain ⟨i1, -, -⟩ := ints_back hX
  have h1 := encZ_len X
  have h2 : s.size = (encZ X).length := by rw [← hs]; simp
  exact ⟨⟨by omega, by rw [hs]; exact rd_enc hX, by rw [List.length_map]; omega, by rw [i1]; omega⟩, i1⟩
theorem again {soft join : Bool} {X Y : List Int} (hX : rightsZ X = true) (hl : X.length ≤ 9600) (hd : (Norm.down soft X).length ≤ 9600) (hf : formOf soft join X = Y) :
    ∃ m, Fits soft ⟨(encZ X).toArray⟩ m ∧ encZ (formOf soft join (ints m)) = encZ Y := by
  obtain ⟨h1, h2⟩ := fits_enc (soft := soft) (s := ⟨(encZ X).toArray⟩) (by simp) hX hl hd
  exact ⟨_, h1, by rw [h2, hf]⟩
end Go.Proofs.YtbmgkfnoknomdaaGreat
