/-
  PLAIN: labels: what the laws LabelBack, LabelFold and LabelWide ask of the two forms of a string. Conditions: as they stand in each.
  PLAIN: bytes of a string, and which characters a plain label may have. Conditions: as they stand in each.
  Proved here: strings that the label's calls are handed by the laws are short enough; what the laws ask of the program's six functions. Conditions: as they stand in each.
-/
import Derived.Test.YtmbammhkkcnoaaaGreatLabPl
import Derived.Test.YtmbammhkkcnoaaaGreatUtfA
import Derived.Test.YtmbammhkkcnoaaaGreatFoldAll
import Derived.Test.YtmbammhkkcnoaaaGreatUcdAll
namespace Go.Proofs.YtmbammhkkcnoaaaGreat
open Go.RowKit Utf
namespace Lab
theorem none_of {bs a u : List UInt8} {E : Int} (h : bothE bs = (E, a, u)) (hE : E ≠ 0) : a = [] ∧ u = [] := by
  unfold bothE at h
  split at h
  · generalize Fold.fold (ints (rdOf bs).1) = L at h
    unfold bothL at h
    split at h
    · split at h
      · injection h with e1 e2; exact absurd e1.symm hE
      · injection h with e1 e2; injection e2 with e2 e3; exact ⟨e2.symm, e3.symm⟩
    · split at h
      · split at h
        · injection h with e1 e2; injection e2 with e2 e3; exact ⟨e2.symm, e3.symm⟩
        · split at h
          · injection h with e1 e2; injection e2 with e2 e3; exact ⟨e2.symm, e3.symm⟩
          · split at h
            · injection h with e1 e2; injection e2 with e2 e3; exact ⟨e2.symm, e3.symm⟩
            · split at h
              · injection h with e1 e2; injection e2 with e2 e3; exact ⟨e2.symm, e3.symm⟩
              · injection h with e1 e2; exact absurd e1.symm hE
      · split at h
        · injection h with e1 e2; exact absurd e1.symm hE
        · injection h with e1 e2; injection e2 with e2 e3; exact ⟨e2.symm, e3.symm⟩
  · injection h with e1 e2; injection e2 with e2 e3; exact ⟨e2.symm, e3.symm⟩
/-- What has forms is all characters: of their folded ones. -/
theorem both_is {bs a u : List UInt8} (h : bothE bs = (0, a, u)) : ∃ L : List Int, rightsZ L = true ∧ Fold.fold L = L ∧ bothL L = (0, a, u) ∧ (rdOf bs).2 = -1 ∧ L = Fold.fold (ints (rdOf bs).1) := by
  unfold bothE at h
  split at h
  · rename_i hz
    exact ⟨_, fold_right (rd_is hz).1, Fold.fold_fold _, h, hz, rfl⟩
  · injection h with e1 e2
    exact absurd e1 (by decide)
theorem eight_ascii {bs : List UInt8} : ascii bs = decide (eightOf bs = -1) := by
  rw [Bool.eq_iff_iff, ascii_iff, decide_eq_true_eq]
  constructor
  · intro h
    unfold eightOf
    generalize 0 = k
    induction bs generalizing k with
    | nil => rfl
    | cons b t ih =>
      unfold eightFrom
      rw [if_pos (h b (by simp))]
      exact ih (fun c hc => h c (by simp [hc])) _
  · exact eight_all bs 0
theorem eight_cases (bs : List UInt8) : (ascii bs = true ∧ eightOf bs = -1) ∨ (ascii bs = false ∧ 0 ≤ eightOf bs) := by
  rw [eight_ascii]
  rcases eight_some bs 0 with h | h
  · exact .inl ⟨decide_eq_true h, h⟩
  · have h' : 0 ≤ eightOf bs := h
    exact .inr ⟨decide_eq_false (by omega), h'⟩
/-- LabelBack: what is right has its forms again. -/
theorem back_of {bs a u : List UInt8} (h : bothE bs = (0, a, u)) : ∃ U : List Int, u = encZ U ∧ rightsZ U = true ∧ Fold.fold U = U ∧ U.length ≤ 63 ∧ bothE u = (0, a, u) ∧ bothE a = (0, a, u) ∧ eightOf a = -1 ∧ 0 < a.length ∧ a.length ≤ 63 := by
  obtain ⟨L, hr, hf, hL, -, -⟩ := both_is h
  obtain ⟨U, hu, rU, fU, lU, bU, aA, fA, bA, l0, l1⟩ := back hr hf hL
  refine ⟨U, hu, rU, fU, lU, ?_, ?_, ?_, l0, l1⟩
  · rw [hu, bothE_enc rU, fU, bU, ← hu]
  · have : bothE (encZ (chars a)) = (0, a, u) := by rw [bothE_enc (chars_right aA), fA]; exact bA
    rwa [show encZ (chars a) = a from enc_bytes a aA] at this
  · rcases eight_cases a with ⟨-, h⟩ | ⟨h, -⟩
    · exact h
    · rw [ascii_iff.2 aA] at h; cases h
/-- LabelWide: what the forms of a right label are like, and its kind. -/
theorem wide_of' {bs a u : List UInt8} (h : bothE bs = (0, a, u)) :
    (ascii u = false ∧ 4 < a.length ∧ a.take 4 = sign ∧ wideE u = 0 ∧ ((ascii bs = true ∧ kindE bs = 2) ∨ (ascii bs = false ∧ kindE bs = 3))) ∨
    (ascii u = true ∧ ¬ (4 < a.length ∧ a.take 4 = sign) ∧ a = u ∧ plainE a = 0 ∧ (kindE bs = 1 ∨ kindE bs = 3)) := by
  obtain ⟨L, hr, hf, hL, hz, he⟩ := both_is h
  have hk : kindE bs = if ascii bs = false then 3 else if (bs.take 4).map smallB = sign then 2 else 1 := by
    unfold kindE
    rw [h, if_neg (by simp)]
  have hs : ascii bs = true → encZ L = bs.map smallB := by
    intro ha
    have ha := ascii_iff.1 ha
    have e : bs = encZ (chars bs) := (enc_bytes bs ha).symm
    have h1 := rd_enc (chars_right ha)
    rw [← e] at h1
    rw [he, h1]
    show encZ (Fold.fold (ints ((chars bs).map Int.toNat))) = _
    rw [(ints_back (chars_right ha)).1]
    have hA : Norm.ascii (chars bs) := by
      intro c hc
      obtain ⟨b, hb, rfl⟩ := List.mem_map.1 hc
      have := ha b hb
      omega
    rw [Norm.ascii_fold_is hA, show ((chars bs).map fun c => if 65 ≤ c ∧ c ≤ 90 then c + 32 else c) = chars (bs.map smallB) by
      unfold chars
      rw [List.map_map, List.map_map]
      refine List.map_congr_left fun b hb => ?_
      have hb1 := ha b hb
      show (if 65 ≤ (b.toNat : Int) ∧ (b.toNat : Int) ≤ 90 then (b.toNat : Int) + 32 else b.toNat) = ((smallB b).toNat : Int)
      unfold smallB
      by_cases hc : 65 ≤ b.toNat ∧ b.toNat ≤ 90
      · rw [if_pos (by omega), if_pos hc, u_toNat (by omega)]; omega
      · rw [if_neg (by omega), if_neg hc]]
    exact enc_bytes _ fun b hb => by
      obtain ⟨c, hc, rfl⟩ := List.mem_map.1 hb
      exact small_lt c (ha c hc)
  have htk : ascii bs = true → ((bs.take 4).map smallB = sign ↔ (encZ L).take 4 = sign) := fun ha => by rw [hs ha, List.map_take]
  rcases forms hr hL with ⟨f1, f2, f3, f4, f5⟩ | ⟨f1, f2, f3, f4, f5, f6⟩
  · refine .inl ⟨f1, f2, f3, f4, ?_⟩
    cases ha : ascii bs with
    | false => exact .inr ⟨rfl, by rw [hk, if_pos ha]⟩
    | true =>
      have hl : ascii (encZ L) = true := by
        rw [hs ha]
        refine ascii_iff.2 fun b hb => ?_
        obtain ⟨c, hc, rfl⟩ := List.mem_map.1 hb
        exact small_lt c (ascii_iff.1 ha c hc)
      exact .inl ⟨rfl, by rw [hk, if_neg (by rw [ha]; decide), if_pos ((htk ha).2 (f5 hl))]⟩
  · refine .inr ⟨f1, f2, f3, f4, ?_⟩
    cases ha : ascii bs with
    | false => exact .inr (by rw [hk, if_pos ha])
    | true => exact .inl (by rw [hk, if_neg (by rw [ha]; decide), if_neg (fun hc => f6 ((htk ha).1 hc))])
theorem kind_bad {bs a u : List UInt8} {E : Int} (h : bothE bs = (E, a, u)) (hE : E ≠ 0) : kindE bs = 0 := by
  unfold kindE
  rw [h, if_pos hE]
end Lab
end Go.Proofs.YtmbammhkkcnoaaaGreat
namespace Go.Proofs.YtmbammhkkcnoaaaGreat
open Go.RowKit Utf
namespace Lab
theorem dashed_nil : dashed [] = false := rfl
theorem byteAt_get {s : ByteArray} {k : Nat} (h : k < s.size) : byteAt s.data.toList k = (s[k].toNat : Int) := by
  rw [byteAt_in (by simpa using h)]
  rfl
theorem char_split {r : Int} (h45 : (r == 45) = false) : charOk r = (decide (2 ≤ catOf r) && decide (catOf r ≤ 5) && (!(splitOf r).isSome || (!((splitOf r).getD default).soft && !((splitOf r).getD default).out))) := by
  unfold charOk
  rw [h45, Bool.false_or]
  cases splitOf r <;> rfl
end Lab
theorem plain_all {bs : List UInt8} (h : ∀ k, k < bs.length → Bidi.plainC (Lab.byteAt bs k) = true) : (bs.all fun c => Bidi.plainC (c.toNat : Int)) = true := by
  rw [List.all_eq_true]
  intro c hc
  obtain ⟨k, hk, rfl⟩ := List.getElem_of_mem hc
  have := h k hk
  rwa [Lab.byteAt_in hk] at this
theorem plain_not {bs : List UInt8} {k : Nat} (hk : k < bs.length) (h : Bidi.plainC (Lab.byteAt bs k) = false) : (bs.all fun c => Bidi.plainC (c.toNat : Int)) = false := by
  rw [List.all_eq_false]
  exact ⟨bs[k], List.getElem_mem hk, by rw [← Lab.byteAt_in hk, h]; decide⟩
theorem plain_kinds {c : Int} (h0 : 0 ≤ c) : (Bidi.plainC c = false ∧ ((c < 45) ∨ (45 < c ∧ c < 48) ∨ (57 < c ∧ c < 65) ∨ (90 < c ∧ c < 97) ∨ 122 < c)) ∨ (Bidi.plainC c = true ∧ (c = 45 ∨ (48 ≤ c ∧ c ≤ 57) ∨ (65 ≤ c ∧ c ≤ 90) ∨ (97 ≤ c ∧ c ≤ 122))) := by
  unfold Bidi.plainC
  by_cases h : c = 45 ∨ (48 ≤ c ∧ c ≤ 57) ∨ (65 ≤ c ∧ c ≤ 90) ∨ (97 ≤ c ∧ c ≤ 122)
  · refine .inr ⟨?_, h⟩
    simp only [Bool.or_eq_true, Bool.and_eq_true, decide_eq_true_eq, beq_iff_eq]
    omega
  · refine .inl ⟨?_, by omega⟩
    rw [← Bool.not_eq_true]
    simp only [Bool.or_eq_true, Bool.and_eq_true, decide_eq_true_eq, beq_iff_eq]
    omega
end Go.Proofs.YtmbammhkkcnoaaaGreat
namespace Go.Proofs.YtmbammhkkcnoaaaGreat
open Go.RowKit Utf
namespace Lab
theorem rows_few : ∀ y ∈ splits, (Norm.pieces false y.rune).length ≤ 4 := by decide +kernel
theorem pieces_few (x : Int) : (Norm.pieces false x).length ≤ 4 := by
  cases ho : splitOf x with
  | some y =>
    rcases split_cases ho with ⟨h1, rfl⟩ | ⟨h1, hy⟩
    · exact rows_few y h1
    · rw [Norm.pieces_eq]
      cases hs : Norm.syl x with
      | true =>
        rw [if_pos rfl]
        unfold Norm.sylParts
        split <;> simp
      | false =>
        rw [wide_split h1]
        simp
  | none =>
    cases hs : Norm.syl x with
    | false => rw [pieces_alone hs ho]; simp
    | true =>
      rw [Norm.pieces_eq, hs, if_pos rfl]
      unfold Norm.sylParts
      split <;> simp
theorem down_few (l : List Int) : (Norm.down false l).length ≤ 4 * l.length := by
  have h := sim_len (Norm.sim_order (Norm.split false l))
  unfold Norm.down
  rw [← h]
  clear h
  unfold Norm.split
  induction l with
  | nil => simp
  | cons x l ih =>
    have := pieces_few x
    rw [List.flatMap_cons, List.length_append, List.length_cons]
    omega
theorem enc_two {x : Int} (h : 128 ≤ x) : 2 ≤ (enc x.toNat).length := by
  unfold enc
  rw [if_neg (by omega)]
  split
  · simp
  · split <;> simp
theorem fo_piece {x : Int} (h0 : 0 ≤ x) : (Norm.pieces false (Fold.fo x)).length ≤ 2 * (enc x.toNat).length := by
  by_cases h : x < 128
  · have hf := Norm.ascii_fo (c := x) ⟨h0, h⟩
    have h1 : 0 ≤ Fold.fo x ∧ Fold.fo x < 128 := by rw [hf]; split <;> omega
    rw [Norm.whole_iff.1 (Norm.ascii_whole h1 false)]
    have : 0 < (enc x.toNat).length := by
      unfold enc
      rw [if_pos (by omega)]
      simp
    simp only [List.length_cons, List.length_nil]
    omega
  · have := pieces_few (Fold.fo x)
    have := enc_two (x := x) (by omega)
    omega
theorem split_fo : ∀ {l : List Int}, rightsZ l = true → (Norm.split false (l.map Fold.fo)).length ≤ 2 * (encZ l).length
  | [], _ => by simp [Norm.split]
  | x :: l, h => by
    have h2 : rightZ x = true ∧ rightsZ l = true := by unfold rightsZ at h ⊢; simpa using h
    have ih := split_fo h2.2
    have hx := fo_piece (x := x) (by have := (rightZ_iff _).1 h2.1; omega)
    unfold Norm.split at ih ⊢
    unfold encZ at ih ⊢
    rw [List.map_cons, List.flatMap_cons, List.flatMap_cons, List.length_append, List.length_append]
    omega
theorem fold_short {l : List Int} (h : rightsZ l = true) : (Fold.fold l).length ≤ 2 * (encZ l).length := by
  have h1 := split_fo h
  have h2 := sim_len (Norm.sim_order (Norm.split false (l.map Fold.fo)))
  have h3 := join_len' (Norm.down false (l.map Fold.fo))
  unfold Norm.down at h3
  unfold Fold.fold Norm.down
  omega
end Lab
/-- A string that a label's forms can be asked of: its folded characters are not too many. -/
def LabFits (s : ByteArray) : Prop := s.size ≤ 100000 ∧ ∀ m, rdOf s.data.toList = (m, -1) → Folds s m ∧ (Fold.fold (ints m)).length ≤ 420
/-- A string of which it can be asked whether it is a right wide label. -/
def WideFits (s : ByteArray) : Prop := s.size ≤ 100000 ∧ ∀ m, rdOf s.data.toList = (m, -1) → Fits false s m ∧ m.length ≤ 420
theorem lab_of {s : ByteArray} (hs : s.size ≤ 150) : LabFits s := by
  refine ⟨by omega, fun m hm => ⟨folds_of (by omega) hm, ?_⟩⟩
  obtain ⟨h1, h2⟩ := Lab.rd_is (s := s.data.toList) (by rw [hm])
  rw [hm] at h1 h2
  have h3 : (Fold.fold (ints m)).length ≤ 2 * (encZ (ints m)).length := Lab.fold_short h1
  have h4 : s.data.toList = encZ (ints m) := h2
  rw [← h4] at h3
  have e : s.data.toList.length = s.size := by simp
  omega
theorem wide_of {s : ByteArray} (hs : s.size ≤ 200) : WideFits s := by
  refine ⟨by omega, fun m hm => ⟨fits_of hs hm false, ?_⟩⟩
  have := (rd_cases hm).2.1
  simp at this
  omega
theorem size_of (bs : List UInt8) : (⟨bs.toArray⟩ : ByteArray).size = bs.length := by simp [ByteArray.size]
/-- Characters, written. -/
theorem lab_enc {X : List Int} (hX : rightsZ X = true) (hl : X.length ≤ 9600) (hd : (Norm.down false (X.map Fold.fo)).length ≤ 9600) (hf : (Fold.fold X).length ≤ 420) : LabFits ⟨(encZ X).toArray⟩ := by
  obtain ⟨i1, -, -⟩ := ints_back hX
  have h1 := encZ_len X
  refine ⟨by rw [size_of]; omega, fun m hm => ?_⟩
  have h2 := rd_enc hX
  rw [show (⟨(encZ X).toArray⟩ : ByteArray).data.toList = encZ X from rfl, h2] at hm
  obtain ⟨rfl, -⟩ := Prod.mk.inj hm
  exact ⟨⟨by rw [size_of]; omega, rd_enc hX, by rw [List.length_map]; omega, by rw [i1]; omega⟩, by rw [i1]; exact hf⟩
theorem wide_enc' {X : List Int} (hX : rightsZ X = true) (hl : X.length ≤ 420) : WideFits ⟨(encZ X).toArray⟩ := by
  obtain ⟨i1, -, -⟩ := ints_back hX
  have h1 := encZ_len X
  have h3 := Lab.down_few X
  refine ⟨by rw [size_of]; omega, fun m hm => ?_⟩
  have h2 := rd_enc hX
  rw [show (⟨(encZ X).toArray⟩ : ByteArray).data.toList = encZ X from rfl, h2] at hm
  obtain ⟨rfl, -⟩ := Prod.mk.inj hm
  exact ⟨⟨by rw [size_of]; omega, rd_enc hX, by rw [List.length_map]; omega, by rw [i1]; omega⟩, by rw [List.length_map]; exact hl⟩
/-- What Fold answers of what can be asked of. -/
theorem LabFits.fold {s : ByteArray} (h : LabFits s) : FoldIs s (if (rdOf s.data.toList).2 = -1 then encZ (Fold.fold (ints (rdOf s.data.toList).1)) else []) (decide ((rdOf s.data.toList).2 = -1)) := by
  obtain ⟨⟨m, z⟩, hrd⟩ : ∃ p, rdOf s.data.toList = p := ⟨_, rfl⟩
  rcases (rd_cases hrd).2.2 with ⟨rfl, -⟩ | ⟨k, rfl, -, -⟩
  · rw [hrd, if_pos rfl, decide_eq_true rfl]
    exact (h.2 m hrd).1.is
  · have hk : ¬ (k : Int) = -1 := by omega
    rw [hrd, if_neg hk, decide_eq_false hk]
    exact foldIs_no h.1 hrd
end Go.Proofs.YtmbammhkkcnoaaaGreat
