/-
  PLAIN: labels: which are right, their two forms, and that these tell of each other. Conditions: as they stand in each.
  PLAIN: labels: what LabelChars, LabelPlain, LabelWide and LabelFold say. Conditions: as they stand in each.
-/
import Derived.Test.YtmbammhkkcnoaaaGreatFoldRef
import Derived.Test.YtmbammhkkcnoaaaGreatPlainA
import Derived.Test.YtmbammhkkcnoaaaGreatPunyB
import Derived.Test.YtmbammhkkcnoaaaGreatCtxPlain
import Derived.Test.YtmbammhkkcnoaaaGreatBidiPlain
import Derived.Test.YtmbammhkkcnoaaaGreatUtfB
namespace Go.Proofs.YtmbammhkkcnoaaaGreat
open Go.RowKit Utf
theorem fold_right {l : List Int} (h : rightsZ l = true) : rightsZ (Fold.fold l) = true := join_right (down_right false (map_fo_right h))
namespace Lab
/-- May this character stand in a wide label? -/
def charOk (r : Int) : Bool := r == 45 || (decide (2 ≤ catOf r) && decide (catOf r ≤ 5) && match splitOf r with | none => true | some y => !y.soft && !y.out)
def ascii (bs : List UInt8) : Bool := bs.all fun c => decide (c.toNat < 128)
def byteAt (bs : List UInt8) (i : Nat) : Int := (((bs[i]?).getD 0).toNat : Int)
/-- Has it a bad dash? -/
def dashed (bs : List UInt8) : Bool := byteAt bs 0 == 45 || byteAt bs (bs.length - 1) == 45 || (decide (3 < bs.length) && byteAt bs 2 == 45 && byteAt bs 3 == 45)
/-- The error of a plain label. -/
def plainE (bs : List UInt8) : Int :=
  if bs.length = 0 then 13 else if 63 < bs.length then 5 else if (bs.all fun c => Bidi.plainC (c.toNat : Int)) = false then 8 else if dashed bs then 11 else 0
def nfc (l : List Int) : List Int := Norm.join (Norm.down false l)
/-- Is there one that may not stand there? -/
def badAt (l : List Int) : Bool := (List.range l.length).any fun i => Ctx.need l (i : Nat) == 2 || (Ctx.need l (i : Nat) == 0 && !charOk l[i]!)
/-- The error of a wide label, by its characters. -/
def wideL (l : List Int) : Int :=
  if ascii (encZ l) = true ∨ nfc l ≠ l then 4 else if dashed (encZ l) then 11 else if catOf l[0]! = 4 then 10 else if badAt l then 8 else if Bidi.has l && !Bidi.rule l then 9 else if 59 < (Puny.encB l).length then 5 else 0
def wideE (bs : List UInt8) : Int := if (rdOf bs).2 = -1 then wideL (ints (rdOf bs).1) else 7
def sign : List UInt8 := [120, 110, 45, 45]
/-- What folded characters come to: the error, and the two forms. -/
def bothL (L : List Int) : Int × List UInt8 × List UInt8 :=
  if ascii (encZ L) = false then (if wideL L = 0 then (0, sign ++ Puny.encB L, encZ L) else (wideL L, [], []))
  else if (encZ L).take 4 = sign then match Puny.decB ((encZ L).drop 4) with
    | none => (12, [], [])
    | some l => if 63 < (encZ L).length then (5, [], []) else if wideL l ≠ 0 then (wideL l, [], []) else if Puny.encB l ≠ (encZ L).drop 4 then (12, [], []) else (0, encZ L, encZ l)
  else if plainE (encZ L) = 0 then (0, encZ L, encZ L) else (plainE (encZ L), [], [])
def bothE (bs : List UInt8) : Int × List UInt8 × List UInt8 := if (rdOf bs).2 = -1 then bothL (Fold.fold (ints (rdOf bs).1)) else (7, [], [])
theorem wideE_enc {l : List Int} (h : rightsZ l = true) : wideE (encZ l) = wideL l := by
  unfold wideE
  rw [rd_enc h, if_pos rfl, (ints_back h).1]
theorem bothE_enc {l : List Int} (h : rightsZ l = true) : bothE (encZ l) = bothL (Fold.fold l) := by
  unfold bothE
  rw [rd_enc h, if_pos rfl, (ints_back h).1]
theorem encZ_inj {a b : List Int} (ha : rightsZ a = true) (hb : rightsZ b = true) (h : encZ a = encZ b) : a = b := by
  have h1 := rd_enc ha
  rw [h, rd_enc hb] at h1
  have h2 := (Prod.mk.inj h1).1
  rw [← (ints_back ha).1, ← (ints_back hb).1, h2]
/-! What characters of a right wide label are -/
def needOk (x : Int) : Bool := decide (Fold.fo x = x) && decide (splitOf x = none) && !Norm.syl x && decide (catOf x ≠ 0 ∧ catOf x ≠ 1 ∧ catOf x ≠ 8)
theorem rows_need : ∀ x ∈ [8204, 8205, 183, 885, 1523, 1524, 12539] ++ (List.range 10).map (fun i : Nat => (1632 : Int) + i) ++ (List.range 10).map (fun i : Nat => (1776 : Int) + i), needOk x = true := by decide +kernel
theorem needs_ok {x : Int} (h : Ctx.needs x = true) : needOk x = true := by
  apply rows_need
  unfold Ctx.needs at h
  simp only [Bool.or_eq_true, beq_iff_eq, Bool.and_eq_true, decide_eq_true_eq] at h
  simp only [List.mem_append, List.mem_cons, List.mem_map, List.mem_range, List.not_mem_nil, or_false]
  rcases h with (((((((h | h) | h) | h) | h) | h) | h) | ⟨h1, h2⟩) | ⟨h1, h2⟩
  · exact .inl (.inl (.inl h))
  · exact .inl (.inl (.inr (.inl h)))
  · exact .inl (.inl (.inr (.inr (.inl h))))
  · exact .inl (.inl (.inr (.inr (.inr (.inl h)))))
  · exact .inl (.inl (.inr (.inr (.inr (.inr (.inl h))))))
  · exact .inl (.inl (.inr (.inr (.inr (.inr (.inr (.inl h)))))))
  · exact .inl (.inl (.inr (.inr (.inr (.inr (.inr (.inr h)))))))
  · exact .inl (.inr ⟨(x - 1632).toNat, by omega, by omega⟩)
  · exact .inr ⟨(x - 1776).toNat, by omega, by omega⟩
theorem rows_hard : ∀ y ∈ splits, y.soft = false → Norm.pieces true y.rune = Norm.pieces false y.rune := by decide +kernel
theorem rows_slim : ∀ y ∈ splits, wideOf y.rune = false := by decide +kernel
theorem wide_split {x : Int} (h : wideOf x = true) : splitOf x = some ⟨x, x - 65248, 0, true, true⟩ := by
  unfold splitOf rowOf
  cases ho : seek Sp.rune Sp.rune splits x with
  | none => simp [h]
  | some y =>
    obtain ⟨h1, h2, h3⟩ := seek_some ho
    have := rows_slim y h1
    rw [show y.rune = x by omega, h] at this
    cases this
/-- What a character of a right label is like. -/
def Still (x : Int) : Prop := Fold.fo x = x ∧ Norm.pieces true x = Norm.pieces false x ∧ catOf x ≠ 0 ∧ catOf x ≠ 1 ∧ catOf x ≠ 8
theorem pieces_alone {x : Int} (hs : Norm.syl x = false) (h : splitOf x = none) (soft : Bool) : Norm.pieces soft x = [x] := by
  rw [Norm.pieces_eq, hs, h]
  rfl
theorem needs_still {x : Int} (h : Ctx.needs x = true) : Still x := by
  have := needs_ok h
  unfold needOk at this
  simp only [Bool.and_eq_true, decide_eq_true_eq, Bool.not_eq_true'] at this
  obtain ⟨⟨⟨h1, h2⟩, h3⟩, h4⟩ := this
  exact ⟨h1, by rw [pieces_alone h3 h2, pieces_alone h3 h2], h4⟩
theorem dash_still : Still 45 := by
  have h := Norm.ascii_ok (c := 45) (by omega)
  refine ⟨by rw [Norm.ascii_fo (by omega)]; rfl, ?_, by decide +kernel⟩
  rw [Norm.whole_iff.1 (Norm.ascii_whole (by omega) true), Norm.whole_iff.1 (Norm.ascii_whole (by omega) false)]
theorem char_still {x : Int} (h : charOk x = true) : Still x := by
  by_cases h45 : x = 45
  · subst h45; exact dash_still
  · unfold charOk at h
    rw [beq_eq_false_iff_ne.2 h45, Bool.false_or, Bool.and_eq_true, Bool.and_eq_true, decide_eq_true_eq, decide_eq_true_eq] at h
    obtain ⟨⟨c1, c2⟩, hsp⟩ := h
    have hw : wideOf x = false := by
      cases hw : wideOf x with
      | false => rfl
      | true => rw [wide_split hw] at hsp; cases hsp
    have hlow : lowOf x = x := by
      rcases low_cases x with h | h
      · exact h
      · unfold lowOk at h
        have := (of_decide_eq_true h).2.1
        omega
    refine ⟨?_, ?_, by omega, by omega, by omega⟩
    · unfold Fold.fo Fold.narrow
      rw [hw]
      exact hlow
    · cases ho : splitOf x with
      | some y =>
        rw [ho] at hsp
        simp only [Bool.and_eq_true, Bool.not_eq_true'] at hsp
        rcases split_cases ho with ⟨h1, rfl⟩ | ⟨h1, -⟩
        · exact rows_hard y h1 hsp.1
        · rw [hw] at h1; cases h1
      | none =>
        cases hs : Norm.syl x with
        | false => rw [pieces_alone hs ho, pieces_alone hs ho]
        | true => rw [Norm.pieces_eq, Norm.pieces_eq, hs]; rfl
theorem bad_not {l : List Int} (h : badAt l = false) : ∀ x ∈ l, Still x := by
  intro x hx
  obtain ⟨k, hk, rfl⟩ := List.getElem_of_mem hx
  unfold badAt at h
  rw [List.any_eq_false] at h
  have h1 := h k (List.mem_range.2 hk)
  rw [Bool.or_eq_true, not_or] at h1
  rw [getElem!_pos l k hk] at h1
  cases hn : Ctx.needs l[k] with
  | true => exact needs_still hn
  | false =>
    have h0 : Ctx.need l (k : Nat) = 0 := by rw [Ctx.need_in hk, getElem!_pos l k hk, hn]; rfl
    apply char_still
    cases hc : charOk l[k] with
    | true => rfl
    | false => exact absurd (by rw [h0, hc]; rfl) h1.2
theorem map_still {l : List Int} (h : ∀ x ∈ l, Still x) : l.map Fold.fo = l := Fold.map_fix fun c hc => (h c hc).1
theorem down_still {l : List Int} (h : ∀ x ∈ l, Still x) : Norm.down true l = Norm.down false l := by
  unfold Norm.down Norm.split
  congr 1
  induction l with
  | nil => rfl
  | cons x l ih =>
    rw [List.flatMap_cons, List.flatMap_cons, (h x (by simp)).2.1, ih fun y hy => h y (by simp [hy])]
/-- What a right wide label is. -/
structure Right (l : List Int) : Prop where
  still : ∀ x ∈ l, Still x
  wide : ascii (encZ l) = false
  same : nfc l = l
  fold : Fold.fold l = l
  soft : Norm.join (Norm.down true l) = l
  dash : dashed (encZ l) = false
  mark : catOf l[0]! ≠ 4
  short : (Puny.encB l).length ≤ 59
theorem right_of {l : List Int} (h : wideL l = 0) : Right l := by
  unfold wideL at h
  split at h
  · omega
  · rename_i h1
    rw [not_or, Decidable.not_not] at h1
    split at h
    · omega
    · rename_i h2
      split at h
      · omega
      · rename_i h3
        split at h
        · omega
        · rename_i h4
          split at h
          · omega
          · split at h
            · omega
            · rename_i h6
              have hs := bad_not (Bool.not_eq_true _ ▸ h4)
              refine ⟨hs, by simpa using h1.1, h1.2, ?_, ?_, by simpa using h2, h3, by omega⟩
              · unfold Fold.fold
                rw [map_still hs]
                exact h1.2
              · rw [down_still hs]
                exact h1.2
theorem ascii_iff {bs : List UInt8} : ascii bs = true ↔ ∀ c ∈ bs, c.toNat < 128 := by
  unfold ascii
  rw [List.all_eq_true]
  constructor
  · intro h c hc; exact of_decide_eq_true (h c hc)
  · intro h c hc; exact decide_eq_true (h c hc)
theorem right_ne {l : List Int} (h : Right l) : l ≠ [] := fun e => by
  subst e
  have := h.wide
  cases this
/-- As many bytes as characters at least. -/
theorem enc_ge {l : List Int} (h : rightsZ l = true) : l.length ≤ (Puny.encB l).length := by
  have h1 := Puny.deltas_len h
  have h2 := Puny.emit_len (Puny.deltas l) 72 (Puny.lt 128 l).length true
  unfold Puny.encB Puny.tailB Puny.plainB
  rw [List.length_append, List.length_append, List.length_map, List.length_map]
  omega
theorem small_fix {x : Int} (h0 : 0 ≤ x) (h1 : x < 128) (h : Fold.fo x = x) : smallB (UInt8.ofNat x.toNat) = UInt8.ofNat x.toNat := by
  rw [Norm.ascii_fo ⟨h0, h1⟩] at h
  have hn : (UInt8.ofNat x.toNat).toNat = x.toNat := UInt8.toNat_ofNat_of_lt' (by show x.toNat < 256; omega)
  unfold smallB
  rw [if_neg]
  rw [hn]
  intro hc
  rw [if_pos (by omega)] at h
  omega
/-- Folded characters are written without great letters. -/
theorem enc_small {l : List Int} (hr : rightsZ l = true) (h : ∀ x ∈ l, Fold.fo x = x) : (Puny.encB l).map smallB = Puny.encB l := by
  refine (List.map_congr_left fun c hc => ?_).trans (List.map_id _)
  show smallB c = c
  unfold Puny.encB at hc
  rcases List.mem_append.1 hc with hc | hc
  · rcases List.mem_append.1 hc with hc | hc
    · unfold Puny.plainB at hc
      obtain ⟨x, hx, rfl⟩ := List.mem_map.1 hc
      have h1 := Puny.lt_mem hx
      exact small_fix (Puny.rights_nn hr x h1.1) h1.2 (h x h1.1)
    · unfold Puny.dashB at hc
      split at hc
      · cases hc
      · rw [List.mem_singleton] at hc; subst hc; decide
  · obtain ⟨v, hv, rfl⟩ := List.mem_map.1 hc
    exact Puny.small_digB (Puny.emit_bd _ _ _ _ (Puny.deltas_nn (rights_lt hr)) v hv)
def chars (a : List UInt8) : List Int := a.map fun b => (b.toNat : Int)
theorem chars_right {a : List UInt8} (h : ∀ c ∈ a, c.toNat < 128) : rightsZ (chars a) = true := by
  unfold rightsZ chars
  rw [List.all_eq_true]
  intro c hc
  obtain ⟨b, hb, rfl⟩ := List.mem_map.1 hc
  have := h b hb
  exact (rightZ_iff _).2 (by omega)
theorem chars_fold {a : List UInt8} (h : ∀ c ∈ a, c.toNat < 128) (hs : a.map smallB = a) : Fold.fold (chars a) = chars a := by
  have ha : Norm.ascii (chars a) := by
    intro c hc
    obtain ⟨b, hb, rfl⟩ := List.mem_map.1 hc
    have := h b hb
    omega
  rw [Norm.ascii_fold_is ha]
  unfold chars
  rw [List.map_map]
  refine List.map_congr_left fun b hb => ?_
  have h1 : smallB b = b := by
    have h2 : ∀ (t : List UInt8), t.map smallB = t → ∀ b ∈ t, smallB b = b := by
      intro t
      induction t with
      | nil => intro _ b hb; cases hb
      | cons x t ih =>
        intro e b hb
        rw [List.map_cons] at e
        injection e with e1 e2
        rcases List.mem_cons.1 hb with rfl | hb
        · exact e1
        · exact ih e2 b hb
    exact h2 a hs b hb
  have hb1 := h b hb
  show (if 65 ≤ (b.toNat : Int) ∧ (b.toNat : Int) ≤ 90 then (b.toNat : Int) + 32 else b.toNat) = b.toNat
  rw [if_neg]
  intro hc
  unfold smallB at h1
  rw [if_pos (by omega)] at h1
  have := congrArg UInt8.toNat h1
  rw [u_toNat (by omega)] at this
  omega
theorem sign_lt : ∀ c ∈ sign, c.toNat < 128 := by decide
theorem sign_small : sign.map smallB = sign := by decide
/-- The two forms of what is right tell of each other: by folded characters. -/
theorem back {L : List Int} (hr : rightsZ L = true) (hf : Fold.fold L = L) {a u : List UInt8} (h : bothL L = (0, a, u)) :
    ∃ U : List Int, u = encZ U ∧ rightsZ U = true ∧ Fold.fold U = U ∧ U.length ≤ 63 ∧ bothL U = (0, a, u) ∧ (∀ c ∈ a, c.toNat < 128) ∧ Fold.fold (chars a) = chars a ∧ bothL (chars a) = (0, a, u) ∧ 0 < a.length ∧ a.length ≤ 63 := by
  have hfix : ∀ x ∈ L, Fold.fo x = x := by rw [← hf]; exact Fold.fold_all_fix L
  unfold bothL at h
  by_cases h1 : ascii (encZ L) = false
  · rw [if_pos h1] at h
    by_cases h2 : wideL L = 0
    · rw [if_pos h2] at h
      obtain ⟨-, rfl, rfl⟩ : (0 : Int) = 0 ∧ sign ++ Puny.encB L = a ∧ encZ L = u := by
        injection h with e1 e2
        injection e2 with e2 e3
        exact ⟨e1, e2, e3⟩
      have R := right_of h2
      have hge := enc_ge hr
      have hsh := R.short
      have hlt : ∀ c ∈ sign ++ Puny.encB L, c.toNat < 128 := fun c hc => by
        rcases List.mem_append.1 hc with hc | hc
        · exact sign_lt c hc
        · exact Puny.encB_lt hr c hc
      have hsm : (sign ++ Puny.encB L).map smallB = sign ++ Puny.encB L := by rw [List.map_append, sign_small, enc_small hr hfix]
      refine ⟨L, rfl, hr, hf, by omega, ?_, hlt, chars_fold hlt hsm, ?_, by rw [List.length_append]; show 0 < 4 + _; omega, by rw [List.length_append]; show 4 + _ ≤ 63; omega⟩
      · unfold bothL
        rw [if_pos h1, if_pos h2]
      · unfold bothL
        rw [show encZ (chars (sign ++ Puny.encB L)) = sign ++ Puny.encB L from enc_bytes _ hlt]
        rw [if_neg (by rw [ascii_iff.2 hlt]; decide), if_pos (by rw [List.take_append_of_le_length (by decide)]; rfl)]
        rw [show (sign ++ Puny.encB L).drop 4 = Puny.encB L from List.drop_left' rfl, Puny.dec_enc hr (by omega)]
        simp only
        rw [if_neg (by rw [List.length_append]; show ¬ 63 < 4 + _; omega), if_neg (by rw [h2]; decide), if_neg (by simp)]
    · rw [if_neg h2] at h
      injection h with e1 e2
      exact absurd e1 h2
  · rw [if_neg h1] at h
    have ha : ∀ c ∈ encZ L, c.toNat < 128 := ascii_iff.1 (by simpa using h1)
    have hch : chars (encZ L) = L := encZ_inj (chars_right ha) hr (enc_bytes _ ha)
    by_cases h3 : (encZ L).take 4 = sign
    · rw [if_pos h3] at h
      cases hd : Puny.decB ((encZ L).drop 4) with
      | none =>
        rw [hd] at h
        simp only at h
        injection h with e1 e2
        exact absurd e1 (by decide)
      | some l =>
        rw [hd] at h
        simp only at h
        by_cases h4 : 63 < (encZ L).length
        · rw [if_pos h4] at h
          injection h with e1 e2
          exact absurd e1 (by decide)
        · rw [if_neg h4] at h
          by_cases h5 : wideL l ≠ 0
          · rw [if_pos h5] at h
            injection h with e1 e2
            exact absurd e1 h5
          · rw [if_neg h5] at h
            rw [Decidable.not_not] at h5
            by_cases h6 : Puny.encB l ≠ (encZ L).drop 4
            · rw [if_pos h6] at h
              injection h with e1 e2
              exact absurd e1 (by decide)
            · rw [if_neg h6] at h
              obtain ⟨-, rfl, rfl⟩ : (0 : Int) = 0 ∧ encZ L = a ∧ encZ l = u := by
                injection h with e1 e2
                injection e2 with e2 e3
                exact ⟨e1, e2, e3⟩
              rw [Decidable.not_not] at h6
              have R := right_of h5
              obtain ⟨hrl, -, hll⟩ := Puny.enc_dec hd
              have hge := enc_ge hrl
              have hsh := R.short
              have hcat : sign ++ Puny.encB l = encZ L := by rw [h6, ← h3, List.take_append_drop]
              refine ⟨l, rfl, hrl, R.fold, by omega, ?_, ha, by rw [hch]; exact hf, ?_, ?_, by omega⟩
              · unfold bothL
                rw [if_pos R.wide, if_pos h5, hcat]
              · rw [hch]
                unfold bothL
                rw [if_neg h1, if_pos h3, hd]
                simp only
                rw [if_neg h4, if_neg (by rw [h5]; decide), if_neg (by rw [h6]; simp)]
              · rw [← hcat, List.length_append]
                show 0 < 4 + _
                omega
    · rw [if_neg h3] at h
      by_cases h4 : plainE (encZ L) = 0
      · rw [if_pos h4] at h
        obtain ⟨-, rfl, rfl⟩ : (0 : Int) = 0 ∧ encZ L = a ∧ encZ L = u := by
          injection h with e1 e2
          injection e2 with e2 e3
          exact ⟨e1, e2, e3⟩
        have hb : bothL L = (0, encZ L, encZ L) := by
          unfold bothL
          rw [if_neg h1, if_neg h3, if_pos h4]
        have hl : 0 < (encZ L).length ∧ (encZ L).length ≤ 63 := by
          unfold plainE at h4
          split at h4
          · omega
          · split at h4
            · omega
            · omega
        have hLL : L.length = (encZ L).length := by
          have := congrArg List.length hch
          unfold chars at this
          rw [List.length_map] at this
          exact this.symm
        refine ⟨L, rfl, hr, hf, by omega, hb, ha, by rw [hch]; exact hf, by rw [hch]; exact hb, hl.1, hl.2⟩
      · rw [if_neg h4] at h
        injection h with e1 e2
        exact absurd e1 h4
end Lab
end Go.Proofs.YtmbammhkkcnoaaaGreat
namespace Go.Proofs.YtmbammhkkcnoaaaGreat
open Go.RowKit Utf
namespace Lab
/-- What is all characters is told by them. -/
theorem rd_is {s : List UInt8} (h : (rdOf s).2 = -1) : rightsZ (ints (rdOf s).1) = true ∧ s = encZ (ints (rdOf s).1) := by
  obtain ⟨h1, -, h3⟩ := rd_cases (s := s) (m := (rdOf s).1) (z := (rdOf s).2) rfl
  obtain ⟨h4, h5⟩ := ints_right _ h1
  refine ⟨h4, ?_⟩
  rcases h3 with ⟨-, h3⟩ | ⟨k, hk, -⟩
  · rw [h5, h3]
  · omega
theorem enc_first (x : Int) (t : List Int) (h : 0 ≤ x ∧ x < 128) : encZ (x :: t) = UInt8.ofNat x.toNat :: encZ t := by
  unfold encZ
  rw [List.flatMap_cons]
  unfold enc
  rw [if_pos (by omega)]
  rfl
/-- LabelChars: what a right wide label is made of. -/
theorem chars_of {s : List UInt8} (h : wideE s = 0) : ∃ l, rdOf s = (l.map Int.toNat, -1) ∧ rightsZ l = true ∧ s = encZ l ∧ Right l ∧ l[0]! ≠ 45 ∧ clsOf l[0]! = 0 ∧ ∀ x ∈ l, catOf x ≠ 0 ∧ catOf x ≠ 1 ∧ catOf x ≠ 8 := by
  unfold wideE at h
  by_cases hz : (rdOf s).2 = -1
  · rw [if_pos hz] at h
    obtain ⟨h1, h2⟩ := rd_is hz
    have R := right_of h
    refine ⟨ints (rdOf s).1, ?_, h1, h2, R, ?_, ?_, fun x hx => (R.still x hx).2.2⟩
    · have := rd_enc h1
      rw [← h2] at this
      exact this
    · intro e
      have hne := right_ne R
      have hd := R.dash
      cases hl : ints (rdOf s).1 with
      | nil => exact hne hl
      | cons x t =>
        rw [hl] at e hd
        have e' : x = 45 := e
        subst e'
        rw [enc_first 45 t (by omega)] at hd
        unfold dashed byteAt at hd
        simp at hd
    · rcases mark_cases (ints (rdOf s).1)[0]! with hm | hm
      · unfold markOk at hm
        exact absurd (of_decide_eq_true hm).2.1 R.mark
      · exact hm.1
  · rw [if_neg hz] at h
    exact absurd h (by decide)
/-- A byte of a plain label, at its place. -/
def okAt (bs : List UInt8) (i : Nat) : Bool :=
  (Bidi.plainC (byteAt bs i) && byteAt bs i != 45) || (byteAt bs i == 45 && decide (0 < i) && decide (i + 1 < bs.length) && (i != 2 || byteAt bs 3 != 45))
theorem byteAt_in {bs : List UInt8} {i : Nat} (h : i < bs.length) : byteAt bs i = (bs[i].toNat : Int) := by
  unfold byteAt
  rw [List.getElem?_eq_getElem h]
  rfl
theorem plain_iff (bs : List UInt8) : plainE bs = 0 ↔ 0 < bs.length ∧ bs.length ≤ 63 ∧ ∀ i, i < bs.length → okAt bs i = true := by
  unfold plainE
  by_cases h0 : bs.length = 0
  · rw [if_pos h0]
    constructor
    · intro h; exact absurd h (by decide)
    · rintro ⟨h, -⟩; omega
  · rw [if_neg h0]
    by_cases h1 : 63 < bs.length
    · rw [if_pos h1]
      constructor
      · intro h; exact absurd h (by decide)
      · rintro ⟨-, h, -⟩; omega
    · rw [if_neg h1]
      cases ha : (bs.all fun c => Bidi.plainC (c.toNat : Int)) with
      | false =>
        rw [if_pos rfl]
        constructor
        · intro h; exact absurd h (by decide)
        · rintro ⟨-, -, h⟩
          exfalso
          rw [List.all_eq_false] at ha
          obtain ⟨c, hc, hp⟩ := ha
          obtain ⟨k, hk, rfl⟩ := List.getElem_of_mem hc
          have := h k hk
          unfold okAt at this
          rw [byteAt_in hk] at this
          simp only [Bool.or_eq_true, Bool.and_eq_true] at this
          rcases this with h2 | h2
          · exact hp h2.1
          · have : (bs[k].toNat : Int) = 45 := by simpa using h2.1.1.1
            rw [this] at hp
            exact hp (by decide)
      | true =>
        rw [if_neg (by decide)]
        rw [List.all_eq_true] at ha
        cases hd : dashed bs with
        | true =>
          rw [if_pos rfl]
          constructor
          · intro h; exact absurd h (by decide)
          · rintro ⟨-, -, h⟩
            exfalso
            unfold dashed at hd
            simp only [Bool.or_eq_true, Bool.and_eq_true, decide_eq_true_eq, beq_iff_eq] at hd
            rcases hd with (hd | hd) | ⟨⟨h3, hd2⟩, hd3⟩
            · have := h 0 (by omega)
              unfold okAt at this
              rw [hd] at this
              simp at this
            · have := h (bs.length - 1) (by omega)
              unfold okAt at this
              rw [hd] at this
              simp at this
              omega
            · have := h 2 (by omega)
              unfold okAt at this
              rw [hd2, hd3] at this
              simp at this
        | false =>
          rw [if_neg (by decide)]
          refine ⟨fun _ => ⟨by omega, by omega, fun i hi => ?_⟩, fun _ => rfl⟩
          unfold dashed at hd
          simp only [Bool.or_eq_false_iff, Bool.and_eq_false_iff, decide_eq_false_iff_not, beq_eq_false_iff_ne] at hd
          obtain ⟨⟨d0, d1⟩, d2⟩ := hd
          have hp := ha bs[i] (List.getElem_mem hi)
          rw [← byteAt_in hi] at hp
          unfold okAt
          rw [hp]
          by_cases h45 : byteAt bs i = 45
          · have i0 : i ≠ 0 := fun e => d0 (by rw [← e]; exact h45)
            have i1 : i ≠ bs.length - 1 := fun e => d1 (by rw [← e]; exact h45)
            rw [h45]
            have h2 : (i != 2 || byteAt bs 3 != 45) = true := by
              by_cases i2 : i = 2
              · subst i2
                rcases d2 with (d2 | d2) | d2
                · exact absurd (by omega) d2
                · exact absurd h45 d2
                · simp [d2]
              · simp [i2]
            rw [h2, decide_eq_true (show 0 < i by omega), decide_eq_true (show i + 1 < bs.length by omega)]
            rfl
          · simp [h45]
/-- The kind of a label. -/
def kindE (bs : List UInt8) : Int := if (bothE bs).1 ≠ 0 then 0 else if ascii bs = false then 3 else if (bs.take 4).map smallB = sign then 2 else 1
theorem small_lt (b : UInt8) (h : b.toNat < 128) : (smallB b).toNat < 128 := by
  unfold smallB
  split
  · rw [u_toNat (by omega)]; omega
  · exact h
/-- What is ASCII is folded byte by byte. -/
theorem ascii_fold {s : List UInt8} (h : ∀ c ∈ s, c.toNat < 128) : bothE s = bothL (chars (s.map smallB)) := by
  have e : s = encZ (chars s) := (enc_bytes s h).symm
  rw [e, bothE_enc (chars_right h), ← e]
  congr 1
  have ha : Norm.ascii (chars s) := by
    intro c hc
    obtain ⟨b, hb, rfl⟩ := List.mem_map.1 hc
    have := h b hb
    omega
  rw [Norm.ascii_fold_is ha]
  unfold chars
  rw [List.map_map, List.map_map]
  refine List.map_congr_left fun b hb => ?_
  have hb1 := h b hb
  show (if 65 ≤ (b.toNat : Int) ∧ (b.toNat : Int) ≤ 90 then (b.toNat : Int) + 32 else b.toNat) = ((smallB b).toNat : Int)
  unfold smallB
  by_cases hc : 65 ≤ b.toNat ∧ b.toNat ≤ 90
  · rw [if_pos (by omega), if_pos hc, u_toNat (by omega)]; omega
  · rw [if_neg (by omega), if_neg hc]
/-- LabelWide, of folded characters. -/
theorem forms {L : List Int} (hr : rightsZ L = true) {a u : List UInt8} (h : bothL L = (0, a, u)) :
    (ascii u = false ∧ 4 < a.length ∧ a.take 4 = sign ∧ wideE u = 0 ∧ (ascii (encZ L) = true → (encZ L).take 4 = sign)) ∨
    (ascii u = true ∧ ¬ (4 < a.length ∧ a.take 4 = sign) ∧ a = u ∧ plainE a = 0 ∧ ascii (encZ L) = true ∧ (encZ L).take 4 ≠ sign) := by
  unfold bothL at h
  by_cases h1 : ascii (encZ L) = false
  · rw [if_pos h1] at h
    by_cases h2 : wideL L = 0
    · rw [if_pos h2] at h
      injection h with e1 e2
      injection e2 with e2 e3
      subst e2 e3
      have R := right_of h2
      have hge := enc_ge hr
      have hne : 0 < L.length := List.length_pos_iff.2 (right_ne R)
      refine .inl ⟨h1, by rw [List.length_append]; show 4 < 4 + _; omega, by rw [List.take_append_of_le_length (by decide)]; rfl, by rw [wideE_enc hr]; exact h2, fun h => by rw [h1] at h; cases h⟩
    · rw [if_neg h2] at h
      injection h with e1 e2
      exact absurd e1 h2
  · rw [if_neg h1] at h
    have hA : ascii (encZ L) = true := by simpa using h1
    by_cases h3 : (encZ L).take 4 = sign
    · rw [if_pos h3] at h
      cases hd : Puny.decB ((encZ L).drop 4) with
      | none =>
        rw [hd] at h
        simp only at h
        injection h with e1 e2
        exact absurd e1 (by decide)
      | some l =>
        rw [hd] at h
        simp only at h
        by_cases h4 : 63 < (encZ L).length
        · rw [if_pos h4] at h
          injection h with e1 e2
          exact absurd e1 (by decide)
        · rw [if_neg h4] at h
          by_cases h5 : wideL l ≠ 0
          · rw [if_pos h5] at h
            injection h with e1 e2
            exact absurd e1 h5
          · rw [if_neg h5] at h
            rw [Decidable.not_not] at h5
            by_cases h6 : Puny.encB l ≠ (encZ L).drop 4
            · rw [if_pos h6] at h
              injection h with e1 e2
              exact absurd e1 (by decide)
            · rw [if_neg h6] at h
              rw [Decidable.not_not] at h6
              injection h with e1 e2
              injection e2 with e2 e3
              subst e2 e3
              have R := right_of h5
              obtain ⟨hrl, -, -⟩ := Puny.enc_dec hd
              have hge := enc_ge hrl
              have hne : 0 < l.length := List.length_pos_iff.2 (right_ne R)
              have hl := congrArg List.length h6
              rw [List.length_drop] at hl
              exact .inl ⟨R.wide, by omega, h3, by rw [wideE_enc hrl]; exact h5, fun _ => h3⟩
    · rw [if_neg h3] at h
      by_cases h4 : plainE (encZ L) = 0
      · rw [if_pos h4] at h
        injection h with e1 e2
        injection e2 with e2 e3
        subst e2 e3
        exact .inr ⟨hA, fun h => h3 h.2, rfl, h4, hA, h3⟩
      · rw [if_neg h4] at h
        injection h with e1 e2
        exact absurd e1 h4
/-- LabelFold: what is folded alike is one label. -/
theorem fold_one {l : List Int} (h : rightsZ l = true) : bothE (encZ (Fold.fold l)) = bothE (encZ l) ∧ bothE (encZ (Norm.down false l)) = bothE (encZ l) := by
  rw [bothE_enc (fold_right h), bothE_enc h, bothE_enc (down_right false h), Fold.fold_fold, Fold.fold_down]
  exact ⟨rfl, rfl⟩
end Lab
end Go.Proofs.YtmbammhkkcnoaaaGreat
