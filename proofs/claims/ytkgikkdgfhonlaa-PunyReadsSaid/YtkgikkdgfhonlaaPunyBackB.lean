/-
  PLAIN: Encode and Decode, by bytes, tell of each other. Conditions: as they stand in each.
-/
import Derived.Test.YtkgikkdgfhonlaaPunyBack
namespace Go.Proofs.Ytkgikkdgfhonlaa
open Go.RowKit Utf
namespace Puny
/-- A byte's small one (as XFoldRef's smallB). -/
def smallU (b : UInt8) : UInt8 := if 65 ≤ b.toNat ∧ b.toNat ≤ 90 then UInt8.ofNat (b.toNat + 32) else b
theorem dashFrom_no : ∀ (t : List UInt8) (k a : Nat), (∀ c ∈ t, c.toNat ≠ 45) → dashFrom t k a = a
  | [], _, _, _ => rfl
  | c :: t, k, a, h => by
    unfold dashFrom
    rw [if_neg (h c (by simp)), dashFrom_no t _ _ fun x hx => h x (by simp [hx])]
theorem dashFrom_append : ∀ (x y : List UInt8) (k a : Nat), dashFrom (x ++ y) k a = dashFrom y (k + x.length) (dashFrom x k a)
  | [], y, k, a => rfl
  | c :: x, y, k, a => by
    rw [List.cons_append, dashFrom, dashFrom, dashFrom_append x y, List.length_cons]
    congr 1
    omega
theorem dashFrom_is : ∀ (t : List UInt8) (k a : Nat), dashFrom t k a = a ∨ ∃ j, dashFrom t k a = k + j ∧ ∃ h : j < t.length, (t[j]).toNat = 45
  | [], _, _ => .inl rfl
  | c :: t, k, a => by
    unfold dashFrom
    by_cases hc : c.toNat = 45
    · rw [if_pos hc]
      rcases dashFrom_is t (k + 1) k with h | ⟨j, h1, h2, h3⟩
      · exact .inr ⟨0, by rw [h]; rfl, by simp, hc⟩
      · exact .inr ⟨j + 1, by rw [h1]; omega, by simp only [List.length_cons]; omega, by simpa using h3⟩
    · rw [if_neg hc]
      rcases dashFrom_is t (k + 1) a with h | ⟨j, h1, h2, h3⟩
      · exact .inl h
      · exact .inr ⟨j + 1, by rw [h1]; omega, by simp only [List.length_cons]; omega, by simpa using h3⟩
/-- Behind a dash that is not the first byte, and ahead of it. -/
theorem at_dash {bs : List UInt8} (h : dashAt bs ≠ 0) : bs = bs.take (dashAt bs) ++ [45] ++ bs.drop (dashAt bs + 1) := by
  rcases dashFrom_is bs 0 0 with h0 | ⟨j, h1, h2, h3⟩
  · exact absurd h0 h
  · have e : dashAt bs = j := by unfold dashAt; rw [h1]; omega
    have e45 : bs[j] = 45 := by
      apply UInt8.toNat_inj.1
      rw [h3]
      rfl
    rw [e]
    rw [List.append_assoc, List.singleton_append, ← e45, ← List.drop_eq_getElem_cons h2, List.take_append_drop]
theorem digB_plain {n : Int} (h : 0 ≤ n ∧ n ≤ 35) : (digB n).toNat ≠ 45 ∧ (digB n).toNat < 128 := by
  have := digB_val h
  unfold digN at this
  split at this <;> omega
theorem tailB_plain {ds : List Int} (b c : Int) (f : Bool) (h : ∀ d ∈ ds, 0 ≤ d) : ∀ x ∈ tailB ds b c f, x.toNat ≠ 45 ∧ x.toNat < 128 := by
  intro x hx
  obtain ⟨v, hv, rfl⟩ := List.mem_map.1 hx
  exact digB_plain (emit_bd ds b c f h v hv)
theorem lt_mem {m : Int} {l : List Int} {x : Int} (h : x ∈ lt m l) : x ∈ l ∧ x < m := by
  unfold lt at h
  have := List.mem_filter.1 h
  exact ⟨this.1, by simpa using this.2⟩
theorem plainB_back {l : List Int} (h : ∀ x ∈ l, 0 ≤ x) : (plainB l).map byteZ = lt 128 l := by
  unfold plainB
  rw [List.map_map]
  refine (List.map_congr_left fun x hx => ?_).trans (List.map_id _)
  have := lt_mem hx
  have h0 := h x this.1
  show ((UInt8.ofNat x.toNat).toNat : Int) = x
  rw [UInt8.toNat_ofNat_of_lt' (by show x.toNat < 256; omega)]
  omega
theorem plainB_lt {l : List Int} (h : ∀ x ∈ l, 0 ≤ x) : ∀ c ∈ plainB l, c.toNat < 128 := by
  intro c hc
  unfold plainB at hc
  obtain ⟨x, hx, rfl⟩ := List.mem_map.1 hc
  have := lt_mem hx
  have h0 := h x this.1
  rw [UInt8.toNat_ofNat_of_lt' (by show x.toNat < 256; omega)]
  omega
theorem rights_mem {l : List Int} (h : rightsZ l = true) : ∀ x ∈ l, rightZ x = true := by
  unfold rightsZ at h
  rwa [List.all_eq_true] at h
theorem rights_nn {l : List Int} (h : rightsZ l = true) : ∀ x ∈ l, 0 ≤ x := fun x hx => ((rightZ_iff x).1 (rights_mem h x hx)).1
theorem deltas_nn {l : List Int} (h : ∀ x ∈ l, x < 1114112) : ∀ d ∈ deltas l, 0 ≤ d := rows_nonneg l _ _ _ (deltas_rises l h) (by decide)
/-- The deltas of characters tell them. -/
theorem deltas_read {l : List Int} (h : rightsZ l = true) : (rall (start (lt 128 l)) (deltas l)).out = l := write_read l _ (deltas_rises l (rights_lt h))
theorem deltas_len {l : List Int} (h : rightsZ l = true) : (lt 128 l).length + (deltas l).length = l.length := by
  have h1 := rall_len (deltas l) (start (lt 128 l)) (start_kept fun x hx => (lt_mem hx).2) (deltas_nn (rights_lt h))
  rw [deltas_read h] at h1
  exact h1.symm
theorem wide_no {bs : List UInt8} (h : ∀ c ∈ bs, c.toNat < 128) : wideB bs = false := by
  unfold wideB
  rw [List.any_eq_false]
  intro c hc
  have := h c hc
  simp
  omega
theorem encB_lt {l : List Int} (h : rightsZ l = true) : ∀ c ∈ encB l, c.toNat < 128 := by
  intro c hc
  unfold encB at hc
  rcases List.mem_append.1 hc with hc | hc
  · rcases List.mem_append.1 hc with hc | hc
    · exact plainB_lt (rights_nn h) c hc
    · unfold dashB at hc
      split at hc
      · cases hc
      · rw [List.mem_singleton] at hc; subst hc; decide
  · exact (tailB_plain _ _ _ (deltas_nn (rights_lt h)) c hc).2
theorem encB_dash {l : List Int} (h : rightsZ l = true) : dashAt (encB l) = (plainB l).length ∧ (encB l).drop (tailAt (encB l)) = tailB (deltas l) 72 (lt 128 l).length true := by
  have hno := fun c hc => (tailB_plain 72 (lt 128 l).length true (deltas_nn (rights_lt h)) c hc).1
  have hpl : (plainB l).length = (lt 128 l).length := by unfold plainB; rw [List.length_map]
  by_cases h0 : (lt 128 l).length = 0
  · have hp : plainB l = [] := List.eq_nil_of_length_eq_zero (by omega)
    have he : encB l = tailB (deltas l) 72 (lt 128 l).length true := by unfold encB dashB; rw [hp, if_pos h0]; rfl
    have hd : dashAt (encB l) = 0 := by rw [he]; exact dashFrom_no _ _ _ hno
    refine ⟨by rw [hd, hp]; rfl, ?_⟩
    unfold tailAt
    rw [hd, if_pos rfl, he, List.drop_zero]
  · have he : encB l = plainB l ++ [45] ++ tailB (deltas l) 72 (lt 128 l).length true := by unfold encB dashB; rw [if_neg h0]
    have hd : dashAt (encB l) = (plainB l).length := by
      unfold dashAt
      rw [he, dashFrom_append, dashFrom_no _ _ _ hno, dashFrom_append]
      rw [dashFrom, dashFrom, if_pos (by decide)]
      omega
    refine ⟨hd, ?_⟩
    unfold tailAt
    rw [hd, if_neg (by omega), he]
    rw [show (plainB l).length + 1 = (plainB l ++ [45]).length by simp, List.drop_left]
/-- What is encoded is decoded as it was. -/
theorem dec_enc {l : List Int} (h : rightsZ l = true) (hn : l.length ≤ 110) : decB (encB l) = some l := by
  obtain ⟨h1, h2⟩ := encB_dash h
  have hl := deltas_len h
  have htk : (encB l).take (plainB l).length = plainB l := by unfold encB; rw [List.append_assoc, List.take_left]
  have hfu : (deltas l).length ≤ (encB l).length := by
    have : (tailB (deltas l) 72 (lt 128 l).length true).length ≤ (encB l).length := by unfold encB; rw [List.length_append]; omega
    have h3 := emit_len (deltas l) 72 (lt 128 l).length true
    unfold tailB at this
    rw [List.length_map] at this
    omega
  unfold decB
  rw [wide_no (encB_lt h), if_neg (by decide), h2, h1, htk, plainB_back (rights_nn h)]
  have key := decL_emit (deltas l) (start (lt 128 l)) 72 true (encB l).length (deltas_nn (rights_lt h)) (show (0 : Int) ≤ 128 by decide) (Int.le_refl 0) (by show (lt 128 l).length + _ ≤ 112; omega) (by rw [deltas_read h]; exact rights_mem h) hfu
  rw [deltas_read h] at key
  exact key
theorem enc_inj {a b : List Int} (ha : rightsZ a = true) (hb : rightsZ b = true) (hna : a.length ≤ 110) (hnb : b.length ≤ 110) (h : encB a = encB b) : a = b := by
  have h1 := dec_enc ha hna
  rw [h, dec_enc hb hnb] at h1
  exact (Option.some.inj h1).symm
/-- What was read: its deltas. -/
theorem decL_back : ∀ (fuel : Nat) (bs : List UInt8) (b : Int) (f : Bool) (r : Rd) (out : List Int), decL fuel bs b f r = some out → 128 ≤ r.n → 0 ≤ r.i → (∀ x ∈ r.out, rightZ x = true) →
    ∃ ds : List Int, (∀ d ∈ ds, 0 ≤ d) ∧ out = (rall r ds).out ∧ bs.map valB = (emit adapt ds b r.out.length f).map some ∧ (∀ x ∈ out, rightZ x = true) ∧ lt 128 out = lt 128 r.out
  | fuel, [], b, f, r, out, h, _, _, hr => by
    have : some r.out = some out := by cases fuel <;> exact h
    have := Option.some.inj this
    subst this
    exact ⟨[], (fun d hd => by cases hd), rfl, rfl, hr, rfl⟩
  | 0, _ :: _, _, _, _, _, h, _, _, _ => by cases h
  | k + 1, x :: l, b, f, r, out, h, hn, hi, hr => by
    cases hN : numB b (x :: l) 36 1 0 0 with
    | none => rw [decL_none hN] at h; cases h
    | some p =>
      obtain ⟨d, m⟩ := p
      cases hok : okStep r d with
      | false => rw [decL_bad hN hok] at h; cases h
      | true =>
        rw [decL_more hN hok] at h
        obtain ⟨hd0, hm1, hml, hdig⟩ := numB_back hN
        have hq : (rstep r d).n = r.n + (r.i + d) / (r.out.length + 1) := rfl
        have hqn : 0 ≤ (r.i + d) / (r.out.length + 1) := Int.ediv_nonneg (by omega) (by omega)
        have hm0 := Int.emod_nonneg (r.i + d) (b := r.out.length + 1) (by omega)
        have hnr : rightZ (rstep r d).n = true := by
          unfold okStep at hok
          rw [Bool.and_eq_true] at hok
          rw [hq]
          exact hok.2
        have hout := rstep_out r d
        have hmem : ∀ y ∈ (rstep r d).out, y = (rstep r d).n ∨ y ∈ r.out := by
          intro y hy
          rw [hout] at hy
          rcases List.mem_append.1 hy with hy | hy
          · exact .inr (List.mem_of_mem_take hy)
          · rcases List.mem_cons.1 hy with hy | hy
            · exact .inl hy
            · exact .inr (List.mem_of_mem_drop hy)
        have hlt : lt 128 (rstep r d).out = lt 128 r.out := by
          rw [hout]
          unfold lt
          rw [List.filter_append, List.filter_cons_of_neg (by simp; omega), ← List.filter_append, List.take_append_drop]
        obtain ⟨ds, h1, h2, h3, h4, h5⟩ := decL_back k _ _ _ (rstep r d) out h (by omega) (by show 0 ≤ (r.i + d) % (r.out.length + 1) + 1; omega) (fun y hy => by rcases hmem y hy with rfl | hy; exact hnr; exact hr y hy)
        refine ⟨d :: ds, ?_, h2, ?_, h4, by rw [h5, hlt]⟩
        · intro e he
          rcases List.mem_cons.1 he with rfl | he
          · exact hd0
          · exact h1 e he
        · rw [emit_one, List.map_append, ← hdig]
          rw [rstep_len] at h3
          rw [show ((r.out.length + 1 : Nat) : Int) = (r.out.length : Int) + 1 by omega] at h3
          rw [← h3, ← List.map_append, List.take_append_drop]
theorem smallB_digit {c : UInt8} {v : Int} (h : valB c = some v) : smallU c = digB v := by
  have hc := lt256 c
  have hv := valB_bd h
  have hd := digB_val (n := v) (by omega)
  apply UInt8.toNat_inj.1
  unfold valB valOf byteZ at h
  unfold digN at hd
  unfold smallU
  split at h
  · have := Option.some.inj h
    rw [if_neg (by omega)]
    split at hd <;> omega
  · split at h
    · have := Option.some.inj h
      rw [if_pos (by omega), UInt8.toNat_ofNat_of_lt' (by show c.toNat + 32 < 256; omega)]
      split at hd <;> omega
    · split at h
      · have := Option.some.inj h
        rw [if_neg (by omega)]
        split at hd <;> omega
      · cases h
theorem small_digB {v : Int} (h : 0 ≤ v ∧ v ≤ 35) : smallU (digB v) = digB v := smallB_digit (valB_digB h)
theorem small_tail {bs : List UInt8} {vs : List Int} (h : bs.map valB = vs.map some) : bs.map smallU = vs.map digB := by
  induction bs generalizing vs with
  | nil =>
    cases vs with
    | nil => rfl
    | cons v vs => cases h
  | cons c bs ih =>
    cases vs with
    | nil => cases h
    | cons v vs =>
      rw [List.map_cons, List.map_cons] at h
      injection h with h1 h2
      rw [List.map_cons, List.map_cons, smallB_digit h1, ih h2]
theorem lt_lt_all {m : Int} {l : List Int} (h : ∀ x ∈ l, x < m) : lt m l = l := lt_all h
/-- What is decoded is encoded so, but for the case of digits. -/
theorem enc_dec {bs : List UInt8} {l : List Int} (h : decB bs = some l) : rightsZ l = true ∧ (encB l).map smallU = bs.map smallU ∧ l.length ≤ bs.length := by
  unfold decB at h
  cases hw : wideB bs with
  | true => rw [hw] at h; cases h
  | false =>
    rw [hw, if_neg (by decide)] at h
    have hb : ∀ c ∈ bs, c.toNat < 128 := by
      intro c hc
      unfold wideB at hw
      rw [List.any_eq_false] at hw
      have := hw c hc
      simp at this
      omega
    have hp : ∀ x ∈ (bs.take (dashAt bs)).map byteZ, 0 ≤ x ∧ x < 128 := by
      intro x hx
      obtain ⟨c, hc, rfl⟩ := List.mem_map.1 hx
      have := hb c (List.mem_of_mem_take hc)
      unfold byteZ
      omega
    obtain ⟨ds, h1, h2, h3, h4, h5⟩ := decL_back _ _ _ _ _ _ h (Int.le_refl 128) (Int.le_refl 0) (fun x hx => (rightZ_iff x).2 (by have := hp x hx; omega))
    have hR : rightsZ l = true := by unfold rightsZ; rw [List.all_eq_true]; exact h4
    have hpl : lt 128 l = (bs.take (dashAt bs)).map byteZ := by rw [h5]; exact lt_all fun x hx => (hp x hx).2
    have hds : deltas l = ds := read_write (fun x hx => (hp x hx).2) h1 h2.symm hpl (deltas_rises l (rights_lt hR))
    have hlen : (lt 128 l).length = (bs.take (dashAt bs)).length := by rw [hpl, List.length_map]
    have hpb : plainB l = bs.take (dashAt bs) := by
      unfold plainB
      rw [hpl, List.map_map]
      refine (List.map_congr_left fun c _ => ?_).trans (List.map_id _)
      show UInt8.ofNat ((c.toNat : Int)).toNat = c
      rw [Int.toNat_natCast]
      exact UInt8.ofNat_toNat
    have hso : (start ((bs.take (dashAt bs)).map byteZ)).out.length = (lt 128 l).length := by rw [hpl]; rfl
    rw [hso] at h3
    have htl : (tailB (deltas l) 72 (lt 128 l).length true).map smallU = (bs.drop (tailAt bs)).map smallU := by
      rw [small_tail h3, hds]
      unfold tailB
      rw [List.map_map]
      exact List.map_congr_left fun v hv => small_digB (emit_bd ds _ _ _ h1 v hv)
    have hdl := deltas_len hR
    have hll : ds.length ≤ (bs.drop (tailAt bs)).length := by
      have e1 := congrArg List.length h3
      rw [List.length_map, List.length_map] at e1
      have := emit_len ds 72 (lt 128 l).length true
      omega
    refine ⟨hR, ?_, ?_⟩
    · unfold encB
      rw [List.map_append, htl, List.map_append, hpb]
      by_cases h0 : dashAt bs = 0
      · have : (lt 128 l).length = 0 := by rw [hlen, h0]; rfl
        unfold dashB tailAt
        rw [if_pos this, if_pos h0, h0]
        rfl
      · have h7 : ¬ (lt 128 l).length = 0 := by
          have := dashAt_lt bs
          rw [hlen, List.length_take]
          omega
        unfold dashB tailAt
        rw [if_neg h7, if_neg h0, ← List.map_append, ← List.map_append, ← at_dash h0]
    · have h8 := tailAt_le bs
      have h9 := dashAt_lt bs
      rw [List.length_drop] at hll
      rw [List.length_take] at hlen
      rw [hds] at hdl
      unfold tailAt at hll h8
      split at hll <;> omega
/-- Plain characters are written as they are, with a dash behind. -/
theorem enc_plain {bs : List UInt8} (h : ∀ c ∈ bs, c.toNat < 128) (hn : bs ≠ []) : encB (bs.map byteZ) = bs ++ [45] := by
  have hl : lt 128 (bs.map byteZ) = bs.map byteZ := lt_all fun x hx => by
    obtain ⟨c, hc, rfl⟩ := List.mem_map.1 hx
    have := h c hc
    unfold byteZ
    omega
  have hR : rightsZ (bs.map byteZ) = true := by
    unfold rightsZ
    rw [List.all_eq_true]
    intro x hx
    obtain ⟨c, hc, rfl⟩ := List.mem_map.1 hx
    have := h c hc
    rw [rightZ_iff]
    unfold byteZ
    omega
  have hd := deltas_len hR
  rw [hl] at hd
  have h0 : deltas (bs.map byteZ) = [] := List.eq_nil_of_length_eq_zero (by omega)
  have hpos : 0 < bs.length := List.length_pos_iff.2 hn
  unfold encB dashB plainB
  rw [hl, h0, if_neg (by rw [List.length_map]; omega), List.map_map]
  have : bs.map ((fun x : Int => UInt8.ofNat x.toNat) ∘ byteZ) = bs := by
    refine (List.map_congr_left fun c _ => ?_).trans (List.map_id _)
    show UInt8.ofNat ((c.toNat : Int)).toNat = c
    rw [Int.toNat_natCast]
    exact UInt8.ofNat_toNat
  rw [this]
  simp [tailB, emit]
/-- Others are written by letters and digits alone. -/
theorem enc_wide {l : List Int} (hR : rightsZ l = true) (h : ∀ x ∈ l, 127 < x) : (∀ c ∈ encB l, (valB c).isSome = true ∧ ¬ (65 ≤ c.toNat ∧ c.toNat ≤ 90)) ∧ l.length ≤ (encB l).length := by
  have hl : lt 128 l = [] := by
    unfold lt
    rw [List.filter_eq_nil_iff]
    intro x hx
    have := h x hx
    simp
    omega
  have hd := deltas_len hR
  rw [hl] at hd
  have he : encB l = tailB (deltas l) 72 0 true := by unfold encB dashB plainB; rw [hl]; rfl
  rw [he]
  refine ⟨fun c hc => ?_, ?_⟩
  · obtain ⟨v, hv, rfl⟩ := List.mem_map.1 hc
    have hb := emit_bd _ _ _ _ (deltas_nn (rights_lt hR)) v hv
    refine ⟨by rw [valB_digB hb]; rfl, ?_⟩
    have := digB_val hb
    unfold digN at this
    split at this <;> omega
  · have h3 := emit_len (deltas l) 72 0 true
    unfold tailB
    rw [List.length_map]
    simp only [List.length_nil] at hd
    omega
end Puny
end Go.Proofs.Ytkgikkdgfhonlaa
