/-
  PLAIN: names of users: what the laws of layer 10 ask of them. Conditions: as they stand in each.
-/
import Derived.Test.YtmbammhkkcnoaaaGreatPrecPlain
import Derived.Test.YtmbammhkkcnoaaaGreatLabFine
namespace Go.Proofs.YtmbammhkkcnoaaaGreat
open Go.RowKit Utf
theorem lab_of' {s : ByteArray} (hs : s.size ≤ 200) : LabFits s := by
  refine ⟨by omega, fun m hm => ⟨folds_of (by omega) hm, ?_⟩⟩
  obtain ⟨h1, h2⟩ := Lab.rd_is (s := s.data.toList) (by rw [hm])
  rw [hm] at h1 h2
  have h3 : (Fold.fold (ints m)).length ≤ 2 * (encZ (ints m)).length := Lab.fold_short h1
  have h4 : s.data.toList = encZ (ints m) := h2
  rw [← h4] at h3
  have e : s.data.toList.length = s.size := by simp
  omega
namespace Prec
/-! Bad characters -/
theorem bad_at {l : List Int} {k : Nat} (hk : k < l.length) (hn : Ctx.needs l[k]! = false) (hc : charOk l[k]! = false) : badAt l = true := by
  unfold badAt
  rw [List.any_eq_true]
  refine ⟨k, List.mem_range.2 hk, ?_⟩
  rw [Ctx.need_in hk, hn, hc]
  rfl
theorem bad_wall {p q : List Int} {d : Int} (hd : isWall d = true) : badAt (p ++ d :: q) = true := by
  have hk : p.length < (p ++ d :: q).length := by rw [List.length_append, List.length_cons]; omega
  have he : (p ++ d :: q)[p.length]! = d := by rw [getElem!_pos (p ++ d :: q) p.length hk, List.getElem_append_right (Nat.le_refl _)]; simp
  exact bad_at hk (by rw [he]; exact (wall_all hd).2.2.2.2) (by rw [he]; exact (wall_all hd).2.2.2.1)
theorem wall_name {l : List Int} {d : Int} (hd : isWall d = true) (hm : d ∈ l) : (nameL (Fold.fold l)).1 = 8 := by
  obtain ⟨p, q, rfl⟩ := List.append_of_mem hm
  rw [fold_at hd]
  have hb : badAt (Fold.fold p ++ d :: Fold.fold q) = true := bad_wall hd
  have hc : classL (Fold.fold p ++ d :: Fold.fold q) = 8 := by
    unfold classL
    rw [if_neg (by simp), if_pos hb]
  unfold nameL
  rw [hc, if_pos (by decide)]
theorem enc_high {r : Nat} (h : 128 ≤ r) (hr : r ≤ 1114111) : ∀ c ∈ enc r, 128 ≤ c.toNat := by
  intro c hc
  unfold enc at hc
  rw [if_neg (by omega)] at hc
  split at hc
  · simp only [List.mem_cons, List.not_mem_nil, or_false] at hc
    rcases hc with rfl | rfl <;> rw [u_toNat (by omega)] <;> omega
  · split at hc
    · simp only [List.mem_cons, List.not_mem_nil, or_false] at hc
      rcases hc with rfl | rfl | rfl <;> rw [u_toNat (by omega)] <;> omega
    · simp only [List.mem_cons, List.not_mem_nil, or_false] at hc
      rcases hc with rfl | rfl | rfl | rfl <;> rw [u_toNat (by omega)] <;> omega
/-- A byte of ASCII is a character. -/
theorem byte_in : ∀ {l : List Int} {c : UInt8}, rightsZ l = true → c ∈ encZ l → c.toNat < 128 → (c.toNat : Int) ∈ l
  | [], _, _, h, _ => by cases h
  | x :: l, c, hr, h, hc => by
    have h2 : rightZ x = true ∧ rightsZ l = true := by unfold rightsZ at hr ⊢; simpa using hr
    unfold encZ at h
    rw [List.flatMap_cons, List.mem_append] at h
    rcases h with h | h
    · have hx := (rightZ_iff _).1 h2.1
      by_cases h128 : x < 128
      · unfold enc at h
        rw [if_pos (by omega)] at h
        have hcx : c = u x.toNat := by simpa using h
        have : c.toNat = x.toNat := by rw [hcx, u_toNat (by omega)]
        rw [List.mem_cons]
        exact .inl (by omega)
      · have := enc_high (by omega : 128 ≤ x.toNat) (by omega) c h
        omega
    · exact List.mem_cons_of_mem _ (byte_in h2.2 h hc)
theorem blank_is {bs : List UInt8} {c : UInt8} (hc : c.toNat ≤ 32 ∨ c.toNat = 127) (hm : c ∈ bs) : (nameE bs).1 = 8 ∨ (nameE bs).1 = 7 := by
  unfold nameE
  by_cases hz : (rdOf bs).2 = -1
  · rw [if_pos hz]
    obtain ⟨h1, h2⟩ := Lab.rd_is hz
    refine .inl (wall_name (d := (c.toNat : Int)) ?_ (byte_in h1 (h2 ▸ hm) (by omega)))
    unfold isWall
    rcases hc with h | h
    · rw [decide_eq_true (show (0 : Int) ≤ (c.toNat : Int) by omega), decide_eq_true (show (c.toNat : Int) ≤ 32 by omega)]; rfl
    · rw [h]; decide
  · rw [if_neg hz]
    exact .inr rfl
/-! A name of a name -/
theorem name_err {bs n : List UInt8} {E : Int} (h : nameE bs = (E, n)) (hE : E ≠ 0) : n = [] := by
  unfold nameE nameL at h
  split at h
  · split at h
    · injection h with h1 h2; exact h2.symm
    · split at h
      · injection h with h1 h2; exact h2.symm
      · injection h with h1 h2; exact absurd h1.symm hE
  · injection h with h1 h2; exact h2.symm
theorem name_ok {bs n : List UInt8} (h : nameE bs = (0, n)) : ∃ L : List Int, rightsZ L = true ∧ Fold.fold L = L ∧ n = encZ L ∧ nameL L = (0, encZ L) ∧ classL L = 0 ∧ (rdOf bs).2 = -1 ∧ L = Fold.fold (ints (rdOf bs).1) := by
  unfold nameE at h
  split at h
  · rename_i hz
    obtain ⟨h1, -⟩ := Lab.rd_is hz
    refine ⟨Fold.fold (ints (rdOf bs).1), fold_right h1, Fold.fold_fold _, ?_⟩
    generalize Fold.fold (ints (rdOf bs).1) = L at h
    have h0 := h
    unfold nameL at h
    split at h
    · rename_i hc
      injection h with h1 h2
      exact absurd h1 hc
    · rename_i hc
      split at h
      · injection h with h1 h2
        exact absurd h1 (by decide)
      · injection h with h1 h2
        subst h2
        exact ⟨rfl, h0, Decidable.not_not.1 hc, hz, rfl⟩
  · injection h with h1 h2
    exact absurd h1 (by decide)
theorem name_fold {bs : List UInt8} (hz : (rdOf bs).2 = -1) : nameE (encZ (Fold.fold (ints (rdOf bs).1))) = nameE bs := by
  obtain ⟨h1, -⟩ := Lab.rd_is hz
  rw [nameE_enc (fold_right h1), Fold.fold_fold]
  unfold nameE
  rw [if_pos hz]
theorem name_again {L : List Int} (hr : rightsZ L = true) (hf : Fold.fold L = L) (h : nameL L = (0, encZ L)) : nameE (encZ L) = (0, encZ L) := by
  rw [nameE_enc hr, hf, h]
theorem name_empty : nameE [] = (13, []) := by decide +kernel
/-! A wide label is a name -/
theorem char_lab {r : Int} (h : Lab.charOk r = true) : charOk r = true := by
  unfold charOk
  rw [h, Bool.or_true]
theorem bad_lab {l : List Int} (h : Lab.badAt l = false) : badAt l = false := by
  unfold Lab.badAt at h
  unfold badAt
  rw [List.any_eq_false] at h ⊢
  intro k hk
  have := h k hk
  rw [Bool.or_eq_true, not_or] at this ⊢
  refine ⟨this.1, fun h2 => this.2 ?_⟩
  rw [Bool.and_eq_true, Bool.not_eq_true'] at h2 ⊢
  refine ⟨h2.1, ?_⟩
  cases hc : Lab.charOk l[k]! with
  | false => rfl
  | true => rw [char_lab hc] at h2; exact absurd h2.2 (by decide)
theorem wide_name {l : List Int} (h : Lab.wideL l = 0) : Fold.fold l = l ∧ classL l = 0 ∧ nameL l = (0, encZ l) := by
  have R := Lab.right_of h
  have hne := Lab.right_ne R
  unfold Lab.wideL at h
  split at h
  · exact absurd h (by decide)
  · split at h
    · exact absurd h (by decide)
    · split at h
      · exact absurd h (by decide)
      · split at h
        · exact absurd h (by decide)
        · rename_i hb
          split at h
          · exact absurd h (by decide)
          · rename_i hr
            have hc : classL l = 0 := by
              unfold classL
              rw [if_neg hne, bad_lab (by simpa using hb)]
              rfl
            refine ⟨R.fold, hc, ?_⟩
            unfold nameL
            rw [hc, if_neg (by decide), if_neg hr]
theorem wide_is {bs : List UInt8} (h : Lab.wideE bs = 0) : nameE bs = (0, bs) ∧ classE bs = 0 := by
  unfold Lab.wideE at h
  by_cases hz : (rdOf bs).2 = -1
  · rw [if_pos hz] at h
    obtain ⟨h1, h2⟩ := wide_name h |>.imp_right id
    obtain ⟨-, hs⟩ := Lab.rd_is hz
    refine ⟨?_, ?_⟩
    · unfold nameE
      rw [if_pos hz, h1, h2.2, ← hs]
    · unfold classE
      rw [if_pos hz]
      exact h2.1
  · rw [if_neg hz] at h
    exact absurd h (by decide)
/-! ASCII -/
def printed (c : Int) : Bool := decide (32 < c) && decide (c < 127)
def asciiOk (x : Int) : Bool := !Ctx.needs x && (charOk x == printed x) && !Bidi.strong (bidiOf x)
theorem rows_ascii : ∀ i ∈ List.range 128, asciiOk (i : Nat) = true := by decide +kernel
theorem ascii_ok {x : Int} (h0 : 0 ≤ x) (h1 : x < 128) : Ctx.needs x = false ∧ charOk x = printed x ∧ Bidi.strong (bidiOf x) = false := by
  have := rows_ascii x.toNat (List.mem_range.2 (by omega))
  rw [show ((x.toNat : Nat) : Int) = x by omega] at this
  unfold asciiOk at this
  simp only [Bool.and_eq_true, Bool.not_eq_true', beq_iff_eq] at this
  exact ⟨this.1.1, this.1.2, this.2⟩
def fineB (bs : List UInt8) : Bool := decide (0 < bs.length) && bs.all fun c => printed (c.toNat : Int)
theorem class_ascii {bs : List UInt8} (h : ∀ c ∈ bs, c.toNat < 128) : classL (Lab.chars bs) = if bs = [] then 13 else if fineB bs then 0 else 8 := by
  by_cases he : bs = []
  · subst he; rfl
  have hln : (Lab.chars bs).length = bs.length := by unfold Lab.chars; rw [List.length_map]
  have hpos : 0 < bs.length := List.length_pos_iff.2 he
  unfold classL
  rw [if_neg (by intro e; rw [e] at hln; simp at hln; omega), if_neg he]
  have hat : ∀ k, k < bs.length → (Lab.chars bs)[k]! = ((bs[k]!).toNat : Int) := fun k hk => by
    rw [getElem!_pos (Lab.chars bs) k (by omega), getElem!_pos bs k hk]
    unfold Lab.chars
    rw [List.getElem_map]
  have hb : badAt (Lab.chars bs) = !fineB bs := by
    unfold fineB
    rw [decide_eq_true hpos, Bool.true_and]
    cases hf : bs.all fun c => printed (c.toNat : Int) with
    | false =>
      rw [List.all_eq_false] at hf
      obtain ⟨c, hc, hp⟩ := hf
      obtain ⟨k, hk, rfl⟩ := List.getElem_of_mem hc
      have ho := ascii_ok (x := (bs[k].toNat : Int)) (by omega) (by have := h bs[k] (List.getElem_mem hk); omega)
      refine bad_at (k := k) (by omega) ?_ ?_
      · rw [hat k hk, getElem!_pos bs k hk]; exact ho.1
      · rw [hat k hk, getElem!_pos bs k hk, ho.2.1]; simpa using hp
    | true =>
      rw [List.all_eq_true] at hf
      show badAt (Lab.chars bs) = false
      unfold badAt
      rw [List.any_eq_false]
      intro k hk
      have hk := List.mem_range.1 hk
      rw [hln] at hk
      have ho := ascii_ok (x := (bs[k].toNat : Int)) (by omega) (by have := h bs[k] (List.getElem_mem hk); omega)
      rw [Ctx.need_in (by omega), hat k hk, getElem!_pos bs k hk, ho.1, ho.2.1, hf _ (List.getElem_mem hk)]
      simp
  rw [hb]
  cases fineB bs <;> rfl
theorem small_fine (bs : List UInt8) : fineB (bs.map smallB) = fineB bs := by
  unfold fineB
  rw [List.length_map, List.all_map]
  congr 1
  congr 1
  funext c
  have hs : ((smallB c).toNat : Int) = if 65 ≤ c.toNat ∧ c.toNat ≤ 90 then (c.toNat : Int) + 32 else c.toNat := by
    unfold smallB
    by_cases hc : 65 ≤ c.toNat ∧ c.toNat ≤ 90
    · rw [if_pos hc, if_pos hc, u_toNat (by omega)]; omega
    · rw [if_neg hc, if_neg hc]
  show printed ((smallB c).toNat : Int) = printed (c.toNat : Int)
  rw [hs]
  unfold printed
  by_cases hc : 65 ≤ c.toNat ∧ c.toNat ≤ 90
  · rw [if_pos hc, decide_eq_true (show (32 : Int) < (c.toNat : Int) + 32 by omega), decide_eq_true (show (c.toNat : Int) + 32 < 127 by omega), decide_eq_true (show (32 : Int) < (c.toNat : Int) by omega), decide_eq_true (show (c.toNat : Int) < 127 by omega)]
  · rw [if_neg hc]
theorem has_ascii {bs : List UInt8} (h : ∀ c ∈ bs, c.toNat < 128) : Bidi.has (Lab.chars bs) = false := by
  unfold Bidi.has
  rw [List.any_eq_false]
  intro x hx
  obtain ⟨b, hb, rfl⟩ := List.mem_map.1 hx
  rw [(ascii_ok (x := (b.toNat : Int)) (by omega) (by have := h b hb; omega)).2.2]
  decide
theorem plain_is {bs : List UInt8} (h : ∀ c ∈ bs, c.toNat < 128) : nameE bs = (if bs = [] then 13 else if fineB bs then 0 else 8, if fineB bs then bs.map smallB else []) ∧ classE bs = if bs = [] then 13 else if fineB bs then 0 else 8 := by
  have hs : ∀ c ∈ bs.map smallB, c.toNat < 128 := fun c hc => by
    obtain ⟨b, hb, rfl⟩ := List.mem_map.1 hc
    exact Lab.small_lt b (h b hb)
  have hfe : fineB [] = false := rfl
  have e : bs = encZ (Lab.chars bs) := (enc_bytes bs h).symm
  have ha : Norm.ascii (Lab.chars bs) := by
    intro c hc
    obtain ⟨b, hb, rfl⟩ := List.mem_map.1 hc
    have := h b hb
    omega
  have hfo : Fold.fold (Lab.chars bs) = Lab.chars (bs.map smallB) := by
    rw [Norm.ascii_fold_is ha]
    unfold Lab.chars
    rw [List.map_map, List.map_map]
    refine List.map_congr_left fun b hb => ?_
    have hb1 := h b hb
    show (if 65 ≤ (b.toNat : Int) ∧ (b.toNat : Int) ≤ 90 then (b.toNat : Int) + 32 else b.toNat) = ((smallB b).toNat : Int)
    unfold smallB
    by_cases hc : 65 ≤ b.toNat ∧ b.toNat ≤ 90
    · rw [if_pos (by omega), if_pos hc, u_toNat (by omega)]; omega
    · rw [if_neg (by omega), if_neg hc]
  have hcl : classE bs = classL (Lab.chars bs) := by
    have := classE_enc (Lab.chars_right h)
    rwa [← e] at this
  have hnm : nameE bs = nameL (Lab.chars (bs.map smallB)) := by
    have := nameE_enc (Lab.chars_right h)
    rwa [← e, hfo] at this
  rw [hcl, hnm, class_ascii h]
  refine ⟨?_, rfl⟩
  unfold nameL
  rw [class_ascii hs, has_ascii hs, small_fine, show encZ (Lab.chars (bs.map smallB)) = bs.map smallB from enc_bytes _ hs]
  have hnil : (bs.map smallB = []) ↔ bs = [] := List.map_eq_nil_iff
  by_cases he : bs = []
  · subst he
    rfl
  · rw [if_neg (fun h => he (hnil.1 h)), if_neg he]
    cases fineB bs <;> rfl
end Prec
end Go.Proofs.YtmbammhkkcnoaaaGreat
