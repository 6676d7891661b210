/-
  Proved here: syllables and what they are made of are the same (NormHangul), at any three numbers: the law's call returns true, and nothing that lay has turned. Conditions: none.
  Proved here: what is split, ordered and joined is the document's own answer's, and is new memory (NormSteps), at any characters: the law's call returns true, and nothing that lay has turned. Conditions: the slice can be read.
  Proved here: a string's normal forms are the document's own (NormForms), at any string: the law's call returns true, and nothing that lay has turned. Conditions: none.
  Proved here: each form, done again, changes nothing, and the forms of forms are those of the string (NormSame), at any string: the law's call returns true, and nothing that lay has turned. Conditions: none.
  Proved here: marks of unlike classes that stand together may stand in any order (NormOrder), at any characters and any place: the law's call returns true, and nothing that lay has turned. Conditions: the slice can be read.
  Proved here: what is ASCII is in all forms (NormPlain), at any string: the law's call returns true, and nothing that lay has turned. Conditions: none.
-/
import Derived.Test.YtmbammhkkcnoaaaGreatNorm
import Derived.Test.YtmbammhkkcnoaaaGreatPlainA
import Derived.Test.YtmbammhkkcnoaaaGreatUtfB
namespace Go.Proofs.YtmbammhkkcnoaaaGreat
open Go.RowKit Utf
namespace Norm
theorem next_one {s x z : Int} (hs : clsOf s = 0) (h : make2 s x = some z) : next [s] x = [z] := by
  have := next_at (Q := []) (M := []) s x (fun y hy => by cases hy) (by omega)
  rw [List.nil_append] at this
  rw [this, h]
  rfl
theorem join_two {a b z : Int} (ha : clsOf a = 0) (h : make2 a b = some z) : join [a, b] = [z] := by
  have e : join [a, b] = next (next [] a) b := rfl
  rw [e, next_none a (M := []) (fun y hy => by cases hy), List.nil_append, next_one ha h]
theorem join_three {a b c y z : Int} (ha : clsOf a = 0) (h : make2 a b = some y) (hy : clsOf y = 0) (h2 : make2 y c = some z) : join [a, b, c] = [z] := by
  have e : join [a, b, c] = next (next (next [] a) b) c := by
    unfold next join joinR
    simp only [List.foldl_cons, List.foldl_nil, List.reverse_reverse, List.reverse_nil]
  rw [e, next_none a (M := []) (fun y hy => by cases hy), List.nil_append, next_one ha h, next_one hy h2]
/-- A syllable of two, and of three. -/
theorem hangul_two {i j : Int} (hi : 0 ≤ i ∧ i ≤ 18) (hj : 0 ≤ j ∧ j ≤ 20) : join [4352 + i, 4449 + j] = [44032 + (i * 21 + j) * 28] ∧ split false [44032 + (i * 21 + j) * 28] = [4352 + i, 4449 + j] := by
  have hm : make2 (4352 + i) (4449 + j) = some (44032 + (i * 21 + j) * 28) := by rw [mk_lv (by omega)]; congr 1; omega
  refine ⟨join_two (jamo_ok ((jamo_iff _).2 (by omega))).2.2 hm, ?_⟩
  have hsy : syl (44032 + (i * 21 + j) * 28) = true := (syl_iff _).2 (by omega)
  show pieces false _ ++ [] = _
  rw [List.append_nil, pieces_eq, if_pos hsy]
  unfold sylParts
  rw [if_pos (by omega), show 4352 + (44032 + (i * 21 + j) * 28 - 44032) / 588 = 4352 + i by omega, show 4449 + (44032 + (i * 21 + j) * 28 - 44032) % 588 / 28 = 4449 + j by omega]
  rfl
theorem hangul_three {i j k : Int} (hi : 0 ≤ i ∧ i ≤ 18) (hj : 0 ≤ j ∧ j ≤ 20) (hk : 0 < k ∧ k ≤ 27) : join [4352 + i, 4449 + j, 4519 + k] = [44032 + (i * 21 + j) * 28 + k] ∧ split false [44032 + (i * 21 + j) * 28 + k] = [4352 + i, 4449 + j, 4519 + k] := by
  have hm : make2 (4352 + i) (4449 + j) = some (44032 + (i * 21 + j) * 28) := by rw [mk_lv (by omega)]; congr 1; omega
  have hsy : syl (44032 + (i * 21 + j) * 28) = true := (syl_iff _).2 (by omega)
  have hm2 : make2 (44032 + (i * 21 + j) * 28) (4519 + k) = some (44032 + (i * 21 + j) * 28 + k) := by rw [mk_lvt (by omega)]; congr 1; omega
  refine ⟨join_three (jamo_ok ((jamo_iff _).2 (by omega))).2.2 hm (syl_cls hsy) hm2, ?_⟩
  have hs2 : syl (44032 + (i * 21 + j) * 28 + k) = true := (syl_iff _).2 (by omega)
  show pieces false _ ++ [] = _
  rw [List.append_nil, pieces_eq, if_pos hs2]
  unfold sylParts
  rw [if_neg (by omega), show 4352 + (44032 + (i * 21 + j) * 28 + k - 44032) / 588 = 4352 + i by omega, show 4449 + (44032 + (i * 21 + j) * 28 + k - 44032) % 588 / 28 = 4449 + j by omega, show 4519 + (44032 + (i * 21 + j) * 28 + k - 44032) % 28 = 4519 + k by omega]
  rfl
end Norm
end Go.Proofs.YtmbammhkkcnoaaaGreat
namespace Go.Proofs.YtmbammhkkcnoaaaGreat
open Go.RowKit Utf
/-- A store into another row leaves this one. -/
theorem OwnR.other {base base2 g n c k : Nat} {v : Value} {l m : List Int} {w : World} (h : OwnR base v l w) (h2 : OwnR base2 (.slice (some ⟨g, 0, none⟩) n c) m w) (hne : v.ownBlock ≠ some g) (x : Int) : OwnR base v l (w.setCell ⟨g, k, none⟩ (.int .i32 x)) := by
  have hn : n = m.length := by
    rcases h2.2 with ⟨h0, -⟩ | ⟨g', cap, cur, h0, -⟩
    · cases h0
    · injection h0
  subst hn
  have hg := (World.ownsRow.stored h2 k (.int .i32 x)).2
  exact World.ownsRow.kept h hg (.inr hne)
end Go.Proofs.YtmbammhkkcnoaaaGreat
namespace Go.Proofs.YtmbammhkkcnoaaaGreat
open Go.RowKit Utf
theorem fits_of {s : ByteArray} (hs : s.size ≤ 200) {m : List Nat} (h : rdOf s.data.toList = (m, -1)) (soft : Bool) : Fits soft s m := by
  have h1 := (rd_cases h).2.1
  have h2 : m.length ≤ 200 := by simp at h1; omega
  have h3 := down_len soft (ints m)
  have h4 : (ints m).length = m.length := by simp [ints]
  exact ⟨by omega, h, by omega, by omega⟩
end Go.Proofs.YtmbammhkkcnoaaaGreat
namespace Go.Proofs.YtmbammhkkcnoaaaGreat
open Go.RowKit Utf
theorem fits_enc {soft : Bool} {X : List Int} {s : ByteArray} (hs : s.data.toList = encZ X) (hX : rightsZ X = true) (hl : X.length ≤ 9600) (hd : (Norm.down soft X).length ≤ 9600) : Fits soft s (X.map Int.toNat) ∧ ints (X.map Int.toNat) = X := by
  obtain ⟨i1, -, -⟩ := ints_back hX
  have h1 := encZ_len X
  have h2 : s.size = (encZ X).length := by rw [← hs]; simp
  exact ⟨⟨by omega, by rw [hs]; exact rd_enc hX, by rw [List.length_map]; omega, by rw [i1]; omega⟩, i1⟩
theorem again {soft join : Bool} {X Y : List Int} (hX : rightsZ X = true) (hl : X.length ≤ 9600) (hd : (Norm.down soft X).length ≤ 9600) (hf : formOf soft join X = Y) :
    ∃ m, Fits soft ⟨(encZ X).toArray⟩ m ∧ encZ (formOf soft join (ints m)) = encZ Y := by
  obtain ⟨h1, h2⟩ := fits_enc (soft := soft) (s := ⟨(encZ X).toArray⟩) (by simp) hX hl hd
  exact ⟨_, h1, by rw [h2, hf]⟩
end Go.Proofs.YtmbammhkkcnoaaaGreat
namespace Go.Proofs.YtmbammhkkcnoaaaGreat
open Go.RowKit Utf
theorem cls_nonneg (x : Int) : 0 ≤ clsOf x := by
  unfold clsOf
  cases h : classOf x with
  | none => exact Int.le_refl _
  | some y =>
    obtain ⟨hy, h1, h2⟩ := seek_some h
    obtain ⟨g0, g1, g2, g3, g4, g5, g6⟩ := class_rows y hy
    simp only
    rcases (show y.step = 0 ∨ y.step = 1 by omega) with e | e <;> rw [e] <;> omega
theorem turn_mem (L : List Int) (k : Nat) (h : k + 1 < L.length) (c : Int) : c ∈ Norm.turn L k ↔ c ∈ L := by
  have e := Norm.cut_two L k h
  rw [Norm.turn_eq L k h]
  conv => rhs; rw [e]
  simp only [List.mem_append, List.mem_cons]
  constructor <;> (rintro (h | h | h | h) <;> simp [h])
theorem turn_right (L : List Int) (k : Nat) (h : k + 1 < L.length) : rightsZ (Norm.turn L k) = rightsZ L := by
  unfold rightsZ
  rw [Bool.eq_iff_iff, List.all_eq_true, List.all_eq_true]
  exact ⟨fun hh c hc => hh c ((turn_mem L k h c).2 hc), fun hh c hc => hh c ((turn_mem L k h c).1 hc)⟩
theorem turn_sim (L : List Int) (k : Nat) (h : k + 1 < L.length) (ha : clsOf L[k]! ≠ 0) (hb : clsOf L[k + 1]! ≠ 0) (hab : clsOf L[k]! ≠ clsOf L[k + 1]!) : Norm.Sim L (Norm.turn L k) := by
  have h1 := cls_nonneg L[k]!
  have h2 := cls_nonneg L[k + 1]!
  have := Norm.Sim.swap (L.take k) L[k]! L[k + 1]! (L.drop (k + 2)) (by omega) (by omega) hab
  rwa [← Norm.cut_two L k h, ← Norm.turn_eq L k h] at this
end Go.Proofs.YtmbammhkkcnoaaaGreat
namespace Go.Proofs.YtmbammhkkcnoaaaGreat
open Go.RowKit Utf
theorem bytes_ascii {t : List UInt8} (h : ∀ b ∈ t, b.toNat < 128) : Norm.ascii (t.map fun b => (b.toNat : Int)) := by
  intro c hc
  obtain ⟨b, hb, rfl⟩ := List.mem_map.1 hc
  have := h b hb
  omega
theorem ascii_right {l : List Int} (h : Norm.ascii l) : rightsZ l = true := by
  unfold rightsZ
  rw [List.all_eq_true]
  intro c hc
  have := h c hc
  exact (rightZ_iff c).2 (by omega)
theorem ascii_form (soft join : Bool) {l : List Int} (h : Norm.ascii l) : formOf soft join l = l := by
  unfold formOf
  rw [Norm.ascii_down soft h, Norm.ascii_join h]
  split <;> rfl
/-- What is ASCII is told by its bytes, and is in all forms. -/
theorem ascii_fits {s : ByteArray} (hs : s.size ≤ 9600) (h : ∀ b ∈ s.data.toList, b.toNat < 128) : ∃ m, (∀ soft, Fits soft s m) ∧ ∀ soft join, encZ (formOf soft join (ints m)) = s.data.toList := by
  have ha := bytes_ascii h
  have hl : (s.data.toList.map fun b => (b.toNat : Int)).length ≤ 9600 := by simp; omega
  have key := fun soft => fits_enc (soft := soft) (enc_bytes _ h).symm (ascii_right ha) hl (by rw [Norm.ascii_down soft ha]; exact hl)
  exact ⟨_, fun soft => (key soft).1, fun soft join => by rw [(key false).2, ascii_form soft join ha, enc_bytes _ h]⟩
end Go.Proofs.YtmbammhkkcnoaaaGreat
