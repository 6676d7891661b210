/-
  Proved here: norm.Join: what makes one is put together. Conditions: the table is one that New made; the slice can be read, and holds at most 10,000 numbers.
-/
import Derived.Test.YtpmcmbkilcpleaaNormMake
namespace Go.Proofs.Ytpmcmbkilcpleaa
open Go.RowKit Utf
namespace Norm
/-- The greatest class of a row of marks. -/
def big (M : List Int) : Int := M.foldl (fun b y => max b (clsOf y)) 0
theorem big_snoc (M : List Int) (x : Int) : big (M ++ [x]) = max (big M) (clsOf x) := by unfold big; rw [List.foldl_append]; rfl
theorem fold_lt : ∀ (M : List Int) (b c : Int), M.foldl (fun b y => max b (clsOf y)) b < c ↔ b < c ∧ ∀ y ∈ M, clsOf y < c
  | [], b, c => by simp
  | y :: M, b, c => by
    rw [List.foldl_cons, fold_lt M]
    simp only [List.mem_cons, forall_eq_or_imp]
    constructor
    · rintro ⟨h1, h2⟩; exact ⟨by omega, by omega, h2⟩
    · rintro ⟨h1, h2, h3⟩; exact ⟨by omega, h3⟩
theorem big_lt {M : List Int} {c : Int} (hM : ∀ y ∈ M, 0 < clsOf y) (hne : M ≠ []) : big M < c ↔ M.all (fun y => decide (clsOf y < c)) = true := by
  unfold big
  rw [fold_lt, List.all_eq_true]
  constructor
  · rintro ⟨_, h⟩ y hy; exact decide_eq_true (h y hy)
  · intro h
    refine ⟨?_, fun y hy => of_decide_eq_true (h y hy)⟩
    cases M with
    | nil => exact absurd rfl hne
    | cons y t => have := hM y (by simp); have := of_decide_eq_true (h y (by simp)); omega
theorem big_nonneg (M : List Int) : 0 ≤ big M := by
  rcases Int.lt_or_le (big M) 0 with h | h
  · exact absurd ((fold_lt M 0 0).1 h).1 (by omega)
  · exact h
theorem make2_cls {a b z : Int} (h : make2 a b = some z) : ¬ 0 < clsOf z := by
  intro hc
  have := mark_whole false hc
  cases hs : syl z with
  | true => rw [syl_cls hs] at hc; omega
  | false =>
    unfold make2 at h
    by_cases h1 : 4352 ≤ a ∧ a ≤ 4370 ∧ 4449 ≤ b ∧ b ≤ 4469
    · rw [if_pos h1] at h
      have hx := (Option.some.inj h).symm
      rw [(syl_iff z).2 (by omega)] at hs; cases hs
    · rw [if_neg h1] at h
      by_cases h2 : syl a = true ∧ (a - 44032) % 28 = 0 ∧ 4520 ≤ b ∧ b ≤ 4546
      · rw [if_pos h2] at h
        have hx := (Option.some.inj h).symm
        have ha := (syl_iff a).1 h2.1
        rw [(syl_iff z).2 (by omega)] at hs; cases hs
      · rw [if_neg h2] at h
        obtain ⟨y, hy, -⟩ := pair_split h
        have := split_parts hy
        simp only [partsOk, decide_eq_true_eq] at this
        omega
/-- What Join knows of what is made by then: where the last one that is no mark stands, and the greatest class behind it. -/
inductive At : List Int → Int → Int → Prop
  | none (o : List Int) (bw : Int) : (∀ y ∈ o, 0 < clsOf y) → At o (-1) bw
  | some (o Q : List Int) (s : Int) (M : List Int) : o = Q ++ s :: M → ¬ 0 < clsOf s → (∀ y ∈ M, 0 < clsOf y) → At o Q.length (big M)
theorem At.plain {o : List Int} (x : Int) (hx : ¬ 0 < clsOf x) : At (o ++ [x]) o.length 0 := At.some _ o x [] rfl hx (fun y hy => by cases hy)
theorem At.mark {Q M : List Int} {s : Int} (x : Int) (hs : ¬ 0 < clsOf s) (hM : ∀ y ∈ M, 0 < clsOf y) (hx : 0 < clsOf x) : At ((Q ++ s :: M) ++ [x]) Q.length (max (big M) (clsOf x)) := by
  rw [← big_snoc, List.append_assoc]
  refine At.some _ Q s (M ++ [x]) rfl hs fun y hy => ?_
  rcases List.mem_append.1 hy with h | h
  · exact hM y h
  · rw [List.mem_singleton] at h; rw [h]; exact hx
theorem At.marks {o : List Int} (x : Int) (bw : Int) (ho : ∀ y ∈ o, 0 < clsOf y) (hx : 0 < clsOf x) : At (o ++ [x]) (-1) bw := by
  refine At.none _ bw fun y hy => ?_
  rcases List.mem_append.1 hy with h | h
  · exact ho y h
  · rw [List.mem_singleton] at h; rw [h]; exact hx
theorem At.made {Q M : List Int} {s x z : Int} (hM : ∀ y ∈ M, 0 < clsOf y) (h : make2 s x = Option.some z) : At (Q ++ z :: M) Q.length (big M) := At.some _ Q z M rfl (make2_cls h) hM
end Norm
theorem Grew.put (g n c k : Nat) (x : Value) (w : World) : Grew (.slice (some ⟨g, 0, none⟩) n c) (.slice (some ⟨g, 0, none⟩) n c) w (w.setCell ⟨g, k, none⟩ x) := by
  have hb : Below g w (w.setCell ⟨g, k, none⟩ x) := (Below.refl g w).setCell (p := ⟨g, k, none⟩) (Nat.le_refl _) x
  refine ⟨hb.os, hb.tape, hb.output, hb.size, fun j hj hne => ?_, fun _ h => .inl h⟩
  exact Below.heap_setCell _ _ _ _ (fun e => hne (by rw [e]; rfl))
set_option maxHeartbeats 8000000 in
set_option maxRecDepth 100000 in
theorem joinAll_any (t v : Value) (l : List Int) (w : World) (hT : Table w t) (hl : Runes v l w) (hn : l.length ≤ 10000) : Calls Try.prog 14 #[t, v] w (PiecesPost (Norm.join l) w) := by
  have hT' := hT
  obtain ⟨b0, b1, b2, b3, rfl, -, -, -, -⟩ := hT'
  obtain ⟨A, c, rfl, hc, hcell⟩ := hl.form
  have HC := Lib.hid hcell
  have HT := Lib.hid (show Tabled w.heap.size _ w from fun W hW => hT.below hW)
  obtain ⟨i0, hi0, hz0, hs0, hb0⟩ := info_parts info_i32
  have hby : i0.bytes * l.length ≤ 281474976710656 := by rw [hb0]; omega
  clear hT hl hcell
  go_enter Try.func14, Try.ntmps14
  go_wp2_with (at_make; refine wpList_make_own _ rfl _ _ 22 rfl w.heap.size 21 i0 (.int .i32 0) 1 Try.underlying22 hi0 hz0 hs0 _ _ _ l.length rfl rfl rfl hby (by simp only [maxLen]; omega) (by simp) ?_; intro w1 ho1 hg1)
  have hb1 := made_grew hg1
  obtain ⟨hz1, e0, e1, e2, e3⟩ := boxTable hb1
  have hsz1 : w.heap.size + 1 < w1.heap.size := by have := (World.ownsRow.lt ho1 (w.heap.size + 1) (by simp [Value.ownBlock])).2; omega
  have E := Lib.hid (And.intro e0 (And.intro e1 (And.intro e2 e3)))
  have B1 := Lib.hid (below_then (below_one w _) hb1)
  have O1 : Hid (OwnR w.heap.size (.slice (some ⟨w.heap.size + 1, 0, none⟩) 0 l.length) [] w1) := Lib.hid (by simpa [OwnR] using ho1)
  clear hb1 hg1 ho1 e0 e1 e2 e3 hby hb0 hs0 hz0 hi0
  go_loopg [5, 6, 7, 9, 10, 11, 12, 18] (l.length + 1) (fun gk v sb sw _ _ _ _ i wr => ∃ (k : Nat) (bs bw : Int), k ≤ l.length ∧ i = .int .i64 k ∧ sb = .int .i64 bs ∧ sw = .int .i64 bw ∧ l.length - k < gk ∧ Hid (OwnR w.heap.size v (Norm.join (l.take k)) wr ∧ Grew (.slice (some ⟨w.heap.size + 1, 0, none⟩) 0 l.length) v w1 wr ∧ Norm.At (Norm.join (l.take k)) bs bw))
  case atStart => exact ⟨0, -1, 0, Nat.zero_le _, rfl, rfl, rfl, by omega, ⟨O1.out, Grew.refl _ _, Norm.At.none _ _ (fun y hy => by cases hy)⟩⟩
  case round =>
    obtain ⟨k, bs, bw, hk, rfl, rfl, rfl, hg, I⟩ := hrel
    have hBW := B1.out.trans (I.out.2.1.below (base := w.heap.size) (by omega) (fun j hj => by simp [Value.ownBlock] at hj; omega))
    have BW := Lib.hid hBW
    by_cases hlt : k < l.length
    · obtain ⟨ad, rfl, hb, hx⟩ := HC.out k hlt
      have hx' := (hBW.cell (by rw [add_block]; exact hb)).trans hx
      obtain ⟨x, hxe⟩ : ∃ x, x = l[k]! := ⟨_, rfl⟩
      rw [← hxe] at hx'
      have hol := Norm.join_len l k hk
      have hjt := Norm.join_take l k hlt
      rw [← hxe] at hjt
      generalize Norm.join (l.take k) = o at I hol hjt
      have HJ := Lib.hid hjt
      have hkz : (k : Int) < (l.length : Int) := by omega
      have hwz : w.heap.size < wr.heap.size := by have := I.out.2.1.size; omega
      have f0 := (I.out.2.1.cell (p := ⟨w.heap.size, 0, none⟩) hz1 (by simp [Value.ownBlock])).trans E.out.1
      have f1 := (I.out.2.1.cell (p := ⟨w.heap.size, 1, none⟩) hz1 (by simp [Value.ownBlock])).trans E.out.2.1
      have f2 := (I.out.2.1.cell (p := ⟨w.heap.size, 2, none⟩) hz1 (by simp [Value.ownBlock])).trans E.out.2.2.1
      have f3 := (I.out.2.1.cell (p := ⟨w.heap.size, 3, none⟩) hz1 (by simp [Value.ownBlock])).trans E.out.2.2.2
      have KC := Lib.hid (class_any _ x wr (HT.out.next hBW).now)
      obtain ⟨cx, hcx⟩ : ∃ cx, cx = clsOf x := ⟨_, rfl⟩
      rw [← hcx] at KC
      have HCX := Lib.hid hcx
      have HI := Lib.hid (And.intro I.out.1 I.out.2.1)
      have hAt := I.out.2.2
      obtain ⟨A2, c2, hsl, hA2⟩ := HI.out.1.shape
      have HA2 := Lib.hid hA2
      subst hsl
      have hol2 : o.length ≤ 900000 := by omega
      clear hx hb hxe hBW hjt hcx I hA2
      cases hAt with
      | none _ hm =>
        have NX := Lib.hid (Norm.next_none x hm)
        have HMM := Lib.hid hm
        clear hm
        go_wp2_with fail
        refine KC.out.mono ?_
        rintro e w3 ⟨rfl, hb3⟩
        have B3 := Lib.hid hb3
        have O3 := Lib.hid (HI.out.1.keep hb3)
        have G3 := Lib.hid (HI.out.2.trans (Grew.of_below hb3 _))
        clear hb3 KC
        by_cases hp : 0 < cx
        · have HPX := Lib.hid (show 0 < clsOf x by rw [← HCX.out]; exact hp)
          go_wp2_with (at_builtin; refine append_lit w3 22 21 (.int .i32 0) 4 Try.underlying22 info_i32 rfl (by omega) w.heap.size _ _ _ O3.out (Nat.le_trans (Nat.le_of_lt hwz) B3.out.size) (by omega) 1 (by omega) _ rfl rfl _ rfl rfl _ _ rfl rfl rfl ?_; intro v5 w5 ho5 hg5; have O5 := Lib.hid ho5; have G5 := Lib.hid (G3.out.trans hg5); clear ho5 hg5)
          all_goals
            have I2 : Hid (OwnR w.heap.size v5 (Norm.join (l.take (k + 1))) w5 ∧ Grew (.slice (some ⟨w.heap.size + 1, 0, none⟩) 0 l.length) v5 w1 w5 ∧ Norm.At (Norm.join (l.take (k + 1))) (-1) (max bw cx)) := by
              refine ⟨?_, G5.out, ?_⟩
              · rw [HJ.out, NX.out]; exact OwnR.more O5.out rfl rfl
              · rw [HJ.out, NX.out]; exact Norm.At.marks x _ HMM.out HPX.out
            go_roundg (l.length - k)
            case measure => omega
            case rel => exact ⟨k + 1, (-1), (max bw cx), by omega, by go_num, rfl, by first | rfl | (congr 1; omega), by omega, I2⟩
        · have hp0 : cx ≤ 0 := by omega
          have HPX := Lib.hid (show ¬ 0 < clsOf x by rw [← HCX.out]; exact hp)
          go_wp2_with (at_builtin; refine append_lit w3 22 21 (.int .i32 0) 4 Try.underlying22 info_i32 rfl (by omega) w.heap.size _ _ _ O3.out (Nat.le_trans (Nat.le_of_lt hwz) B3.out.size) (by omega) 1 (by omega) _ rfl rfl _ rfl rfl _ _ rfl rfl rfl ?_; intro v5 w5 ho5 hg5; have O5 := Lib.hid ho5; have G5 := Lib.hid (G3.out.trans hg5); clear ho5 hg5)
          all_goals
            have I2 : Hid (OwnR w.heap.size v5 (Norm.join (l.take (k + 1))) w5 ∧ Grew (.slice (some ⟨w.heap.size + 1, 0, none⟩) 0 l.length) v5 w1 w5 ∧ Norm.At (Norm.join (l.take (k + 1))) o.length 0) := by
              refine ⟨?_, G5.out, ?_⟩
              · rw [HJ.out, NX.out]; exact OwnR.more O5.out rfl rfl
              · rw [HJ.out, NX.out]; exact Norm.At.plain x (by have := HPX.out; omega)
            go_roundg (l.length - k)
            case measure => omega
            case rel => exact ⟨k + 1, o.length, 0, by omega, by go_num, rfl, rfl, by omega, I2⟩
      | some Q s M hoe hs hm =>
        have hlen : o.length = Q.length + 1 + M.length := by rw [hoe, List.length_append, List.length_cons]; omega
        obtain ⟨g, rfl, -, -⟩ := HA2.out (by omega)
        clear HA2
        have hql : Q.length < o.length := by omega
        have NA := Lib.hid (Norm.next_at (Q := Q) s x hm hs)
        rw [← hoe] at NA
        have HMM := Lib.hid hm
        have HSS := Lib.hid hs
        have hbb := Norm.big_nonneg M
        have HOE := Lib.hid hoe
        have hq0 : (0 : Int) ≤ (Q.length : Int) := by omega
        have hqz : (Q.length : Int) < (o.length : Int) := by omega
        have BL := Lib.hid (fun (c : Int) (h : M ≠ []) => Norm.big_lt (c := c) hm h)
        have HAM := Lib.hid (fun (h : 0 < clsOf x) => Norm.At.mark (Q := Q) x hs hm h)
        obtain ⟨bg, hbg⟩ : ∃ bg, bg = Norm.big M := ⟨_, rfl⟩
        rw [← hbg] at hbb ⊢
        have HBG := Lib.hid hbg
        by_cases hM0 : M = []
        · have hbe : ((Q.length : Int) == (o.length : Int) - 1) = true := by rw [beq_iff_eq, hlen, hM0]; simp
          have FR := Lib.hid (show M.all (fun y => decide (clsOf y < clsOf x)) = true by rw [hM0]; rfl)
          have HM0 := Lib.hid hM0
          clear hs hm hoe hlen hbg hM0
          by_cases hp : 0 < cx
          · go_wp2_with fail
            refine KC.out.mono ?_
            rintro e w3 ⟨rfl, hb3⟩
            have B3 := Lib.hid hb3
            have O3 := Lib.hid (HI.out.1.keep hb3)
            have G3 := Lib.hid (HI.out.2.trans (Grew.of_below hb3 _))
            clear hb3 KC
            have hz3 : w.heap.size < w3.heap.size := Nat.lt_of_lt_of_le hwz B3.out.size
            have k0 := (B3.out.cell (p := ⟨w.heap.size, 0, none⟩) hwz).trans f0
            have k1 := (B3.out.cell (p := ⟨w.heap.size, 1, none⟩) hwz).trans f1
            have k2 := (B3.out.cell (p := ⟨w.heap.size, 2, none⟩) hwz).trans f2
            have k3 := (B3.out.cell (p := ⟨w.heap.size, 3, none⟩) hwz).trans f3
            have cs := O3.out.cell Q.length hql
            rw [show o[Q.length]! = s by rw [HOE.out, Norm.at_end]] at cs
            have KM := Lib.hid (makeOne_any _ s x w3.drew ((HT.out.next (BW.out.trans (B3.out.mono BW.out.size))).now.below (Below.refl _ w3).drew))
            clear f0 f1 f2 f3
            cases hmk : Norm.make2 s x with
            | none =>
              have NX := Lib.hid (show Norm.next o x = o ++ [x] by rw [NA.out, if_pos FR.out, hmk, HOE.out])
              rw [hmk] at KM
              clear hmk
              go_wp2
              go_region_held3 (fun w' => w'.cell? ⟨g, Q.length, none⟩ = some (.int .i32 s) ∧ w'.cell? ⟨w.heap.size, 0, none⟩ = some (.slice (some ⟨b0, 0, none⟩) 74 74) ∧ w'.cell? ⟨w.heap.size, 1, none⟩ = some (.slice (some ⟨b1, 0, none⟩) 10 10) ∧ w'.cell? ⟨w.heap.size, 2, none⟩ = some (.slice (some ⟨b2, 0, none⟩) 11 11) ∧ w'.cell? ⟨w.heap.size, 3, none⟩ = some (.slice (some ⟨b3, 0, none⟩) 42 42)) (go_keep) ((go_at_call 37; (with_reducible refine KM.out.mono ?_); rintro e1 w4 ⟨rfl, hb4⟩; have HB4 := Lib.hid (below_of_drew hb4); have B4 := Lib.hid (B3.out.trans (HB4.out.mono B3.out.size)); have O4 := Lib.hid (O3.out.keep HB4.out); have G4 := Lib.hid (G3.out.trans (Grew.of_below HB4.out _)); have q1 := O4.out.cell Q.length hql; (rw [show o[Q.length]! = s by rw [HOE.out, Norm.at_end]] at q1); have fr4 := O4.out.free Q.length; have q2 := (HB4.out.cell (p := ⟨w.heap.size, 0, none⟩) hz3).trans k0; have q3 := (HB4.out.cell (p := ⟨w.heap.size, 1, none⟩) hz3).trans k1; have q4 := (HB4.out.cell (p := ⟨w.heap.size, 2, none⟩) hz3).trans k2; have q5 := (HB4.out.cell (p := ⟨w.heap.size, 3, none⟩) hz3).trans k3; clear hb4 cs k0 k1 k2 k3))
              all_goals
                have HPX := Lib.hid (show 0 < clsOf x by rw [← HCX.out]; exact hp)
                go_wp2_with (at_builtin; refine append_lit w4 22 21 (.int .i32 0) 4 Try.underlying22 info_i32 rfl (by omega) w.heap.size _ _ _ O4.out (Nat.le_trans (Nat.le_of_lt hwz) B4.out.size) (by omega) 1 (by omega) _ rfl rfl _ rfl rfl _ _ rfl rfl rfl ?_; intro v5 w5 ho5 hg5; have O5 := Lib.hid ho5; have G5 := Lib.hid (G4.out.trans hg5); clear ho5 hg5)
                all_goals
                  have I2 : Hid (OwnR w.heap.size v5 (Norm.join (l.take (k + 1))) w5 ∧ Grew (.slice (some ⟨w.heap.size + 1, 0, none⟩) 0 l.length) v5 w1 w5 ∧ Norm.At (Norm.join (l.take (k + 1))) Q.length (max bg cx)) := by
                    refine ⟨?_, G5.out, ?_⟩
                    · rw [HJ.out, NX.out]; exact OwnR.more O5.out rfl rfl
                    · rw [HJ.out, NX.out]; rw [HOE.out, HBG.out, HCX.out]; exact HAM.out HPX.out
                  go_roundg (l.length - k)
                  case measure => omega
                  case rel => exact ⟨k + 1, Q.length, (max bg cx), by omega, by go_num, rfl, by first | rfl | (congr 1; omega), by omega, I2⟩
            | some z =>
              have NX := Lib.hid (show Norm.next o x = Q ++ z :: M by rw [NA.out, if_pos FR.out, hmk])
              have HMK := Lib.hid (Norm.At.made (Q := Q) HMM.out hmk)
              rw [hmk] at KM
              clear hmk
              go_wp2
              go_region_held3 (fun w' => w'.cell? ⟨g, Q.length, none⟩ = some (.int .i32 s) ∧ w'.cell? ⟨w.heap.size, 0, none⟩ = some (.slice (some ⟨b0, 0, none⟩) 74 74) ∧ w'.cell? ⟨w.heap.size, 1, none⟩ = some (.slice (some ⟨b1, 0, none⟩) 10 10) ∧ w'.cell? ⟨w.heap.size, 2, none⟩ = some (.slice (some ⟨b2, 0, none⟩) 11 11) ∧ w'.cell? ⟨w.heap.size, 3, none⟩ = some (.slice (some ⟨b3, 0, none⟩) 42 42)) (go_keep) ((go_at_call 37; (with_reducible refine KM.out.mono ?_); rintro e1 w4 ⟨rfl, hb4⟩; have HB4 := Lib.hid (below_of_drew hb4); have B4 := Lib.hid (B3.out.trans (HB4.out.mono B3.out.size)); have O4 := Lib.hid (O3.out.keep HB4.out); have G4 := Lib.hid (G3.out.trans (Grew.of_below HB4.out _)); have q1 := O4.out.cell Q.length hql; (rw [show o[Q.length]! = s by rw [HOE.out, Norm.at_end]] at q1); have fr4 := O4.out.free Q.length; have q2 := (HB4.out.cell (p := ⟨w.heap.size, 0, none⟩) hz3).trans k0; have q3 := (HB4.out.cell (p := ⟨w.heap.size, 1, none⟩) hz3).trans k1; have q4 := (HB4.out.cell (p := ⟨w.heap.size, 2, none⟩) hz3).trans k2; have q5 := (HB4.out.cell (p := ⟨w.heap.size, 3, none⟩) hz3).trans k3; clear hb4 cs k0 k1 k2 k3))
              all_goals
                have I2 : Hid (OwnR w.heap.size (.slice (some ⟨g, 0, none⟩) o.length c2) (Norm.join (l.take (k + 1))) (w4.setCell ⟨g, Q.length, none⟩ (.int .i32 z)) ∧ Grew (.slice (some ⟨w.heap.size + 1, 0, none⟩) 0 l.length) (.slice (some ⟨g, 0, none⟩) o.length c2) w1 (w4.setCell ⟨g, Q.length, none⟩ (.int .i32 z)) ∧ Norm.At (Norm.join (l.take (k + 1))) Q.length bg) := by
                  refine ⟨?_, G4.out.trans (Grew.put _ _ _ _ _ _), ?_⟩
                  · rw [HJ.out, NX.out]
                    have h := O4.out.put Q.length z
                    rwa [show o.set Q.length z = Q ++ z :: M by rw [HOE.out, Norm.set_end]] at h
                  · rw [HJ.out, NX.out, HBG.out]; exact HMK.out
                go_wp2
                go_roundg (l.length - k)
                case measure => omega
                case rel => exact ⟨k + 1, Q.length, bg, by omega, by go_num, rfl, rfl, by omega, I2⟩
          · have hp0 : cx ≤ 0 := by omega
            go_wp2_with fail
            refine KC.out.mono ?_
            rintro e w3 ⟨rfl, hb3⟩
            have B3 := Lib.hid hb3
            have O3 := Lib.hid (HI.out.1.keep hb3)
            have G3 := Lib.hid (HI.out.2.trans (Grew.of_below hb3 _))
            clear hb3 KC
            have hz3 : w.heap.size < w3.heap.size := Nat.lt_of_lt_of_le hwz B3.out.size
            have k0 := (B3.out.cell (p := ⟨w.heap.size, 0, none⟩) hwz).trans f0
            have k1 := (B3.out.cell (p := ⟨w.heap.size, 1, none⟩) hwz).trans f1
            have k2 := (B3.out.cell (p := ⟨w.heap.size, 2, none⟩) hwz).trans f2
            have k3 := (B3.out.cell (p := ⟨w.heap.size, 3, none⟩) hwz).trans f3
            have cs := O3.out.cell Q.length hql
            rw [show o[Q.length]! = s by rw [HOE.out, Norm.at_end]] at cs
            have KM := Lib.hid (makeOne_any _ s x w3.drew ((HT.out.next (BW.out.trans (B3.out.mono BW.out.size))).now.below (Below.refl _ w3).drew))
            clear f0 f1 f2 f3
            cases hmk : Norm.make2 s x with
            | none =>
              have NX := Lib.hid (show Norm.next o x = o ++ [x] by rw [NA.out, if_pos FR.out, hmk, HOE.out])
              rw [hmk] at KM
              clear hmk
              go_wp2
              go_region_held3 (fun w' => w'.cell? ⟨g, Q.length, none⟩ = some (.int .i32 s) ∧ w'.cell? ⟨w.heap.size, 0, none⟩ = some (.slice (some ⟨b0, 0, none⟩) 74 74) ∧ w'.cell? ⟨w.heap.size, 1, none⟩ = some (.slice (some ⟨b1, 0, none⟩) 10 10) ∧ w'.cell? ⟨w.heap.size, 2, none⟩ = some (.slice (some ⟨b2, 0, none⟩) 11 11) ∧ w'.cell? ⟨w.heap.size, 3, none⟩ = some (.slice (some ⟨b3, 0, none⟩) 42 42)) (go_keep) ((go_at_call 37; (with_reducible refine KM.out.mono ?_); rintro e1 w4 ⟨rfl, hb4⟩; have HB4 := Lib.hid (below_of_drew hb4); have B4 := Lib.hid (B3.out.trans (HB4.out.mono B3.out.size)); have O4 := Lib.hid (O3.out.keep HB4.out); have G4 := Lib.hid (G3.out.trans (Grew.of_below HB4.out _)); have q1 := O4.out.cell Q.length hql; (rw [show o[Q.length]! = s by rw [HOE.out, Norm.at_end]] at q1); have fr4 := O4.out.free Q.length; have q2 := (HB4.out.cell (p := ⟨w.heap.size, 0, none⟩) hz3).trans k0; have q3 := (HB4.out.cell (p := ⟨w.heap.size, 1, none⟩) hz3).trans k1; have q4 := (HB4.out.cell (p := ⟨w.heap.size, 2, none⟩) hz3).trans k2; have q5 := (HB4.out.cell (p := ⟨w.heap.size, 3, none⟩) hz3).trans k3; clear hb4 cs k0 k1 k2 k3))
              all_goals
                have HPX := Lib.hid (show ¬ 0 < clsOf x by rw [← HCX.out]; omega)
                go_wp2_with (at_builtin; refine append_lit w4 22 21 (.int .i32 0) 4 Try.underlying22 info_i32 rfl (by omega) w.heap.size _ _ _ O4.out (Nat.le_trans (Nat.le_of_lt hwz) B4.out.size) (by omega) 1 (by omega) _ rfl rfl _ rfl rfl _ _ rfl rfl rfl ?_; intro v5 w5 ho5 hg5; have O5 := Lib.hid ho5; have G5 := Lib.hid (G4.out.trans hg5); clear ho5 hg5)
                all_goals
                  have I2 : Hid (OwnR w.heap.size v5 (Norm.join (l.take (k + 1))) w5 ∧ Grew (.slice (some ⟨w.heap.size + 1, 0, none⟩) 0 l.length) v5 w1 w5 ∧ Norm.At (Norm.join (l.take (k + 1))) o.length 0) := by
                    refine ⟨?_, G5.out, ?_⟩
                    · rw [HJ.out, NX.out]; exact OwnR.more O5.out rfl rfl
                    · rw [HJ.out, NX.out]; exact Norm.At.plain x (by have := HPX.out; omega)
                  go_roundg (l.length - k)
                  case measure => omega
                  case rel => exact ⟨k + 1, o.length, 0, by omega, by go_num, rfl, by first | rfl | (congr 1; omega), by omega, I2⟩
            | some z =>
              have NX := Lib.hid (show Norm.next o x = Q ++ z :: M by rw [NA.out, if_pos FR.out, hmk])
              have HMK := Lib.hid (Norm.At.made (Q := Q) HMM.out hmk)
              rw [hmk] at KM
              clear hmk
              go_wp2
              go_region_held3 (fun w' => w'.cell? ⟨g, Q.length, none⟩ = some (.int .i32 s) ∧ w'.cell? ⟨w.heap.size, 0, none⟩ = some (.slice (some ⟨b0, 0, none⟩) 74 74) ∧ w'.cell? ⟨w.heap.size, 1, none⟩ = some (.slice (some ⟨b1, 0, none⟩) 10 10) ∧ w'.cell? ⟨w.heap.size, 2, none⟩ = some (.slice (some ⟨b2, 0, none⟩) 11 11) ∧ w'.cell? ⟨w.heap.size, 3, none⟩ = some (.slice (some ⟨b3, 0, none⟩) 42 42)) (go_keep) ((go_at_call 37; (with_reducible refine KM.out.mono ?_); rintro e1 w4 ⟨rfl, hb4⟩; have HB4 := Lib.hid (below_of_drew hb4); have B4 := Lib.hid (B3.out.trans (HB4.out.mono B3.out.size)); have O4 := Lib.hid (O3.out.keep HB4.out); have G4 := Lib.hid (G3.out.trans (Grew.of_below HB4.out _)); have q1 := O4.out.cell Q.length hql; (rw [show o[Q.length]! = s by rw [HOE.out, Norm.at_end]] at q1); have fr4 := O4.out.free Q.length; have q2 := (HB4.out.cell (p := ⟨w.heap.size, 0, none⟩) hz3).trans k0; have q3 := (HB4.out.cell (p := ⟨w.heap.size, 1, none⟩) hz3).trans k1; have q4 := (HB4.out.cell (p := ⟨w.heap.size, 2, none⟩) hz3).trans k2; have q5 := (HB4.out.cell (p := ⟨w.heap.size, 3, none⟩) hz3).trans k3; clear hb4 cs k0 k1 k2 k3))
              all_goals
                have I2 : Hid (OwnR w.heap.size (.slice (some ⟨g, 0, none⟩) o.length c2) (Norm.join (l.take (k + 1))) (w4.setCell ⟨g, Q.length, none⟩ (.int .i32 z)) ∧ Grew (.slice (some ⟨w.heap.size + 1, 0, none⟩) 0 l.length) (.slice (some ⟨g, 0, none⟩) o.length c2) w1 (w4.setCell ⟨g, Q.length, none⟩ (.int .i32 z)) ∧ Norm.At (Norm.join (l.take (k + 1))) Q.length bg) := by
                  refine ⟨?_, G4.out.trans (Grew.put _ _ _ _ _ _), ?_⟩
                  · rw [HJ.out, NX.out]
                    have h := O4.out.put Q.length z
                    rwa [show o.set Q.length z = Q ++ z :: M by rw [HOE.out, Norm.set_end]] at h
                  · rw [HJ.out, NX.out, HBG.out]; exact HMK.out
                go_wp2
                go_roundg (l.length - k)
                case measure => omega
                case rel => exact ⟨k + 1, Q.length, bg, by omega, by go_num, rfl, rfl, by omega, I2⟩
        · have hMl : 0 < M.length := by rcases Nat.eq_zero_or_pos M.length with h | h; exact absurd (List.eq_nil_of_length_eq_zero h) hM0; exact h
          have hbe : ((Q.length : Int) == (o.length : Int) - 1) = false := by rw [beq_eq_false_iff_ne, hlen]; omega
          have HM0 := Lib.hid hM0
          by_cases hbw : bg < cx
          · have FR := Lib.hid (show M.all (fun y => decide (clsOf y < clsOf x)) = true by rw [← HCX.out]; exact (BL.out cx hM0).1 (by rw [← hbg]; exact hbw))
            have hp : 0 < cx := by omega
            clear hs hm hoe hlen hbg hM0
            go_wp2_with fail
            refine KC.out.mono ?_
            rintro e w3 ⟨rfl, hb3⟩
            have B3 := Lib.hid hb3
            have O3 := Lib.hid (HI.out.1.keep hb3)
            have G3 := Lib.hid (HI.out.2.trans (Grew.of_below hb3 _))
            clear hb3 KC
            have hz3 : w.heap.size < w3.heap.size := Nat.lt_of_lt_of_le hwz B3.out.size
            have k0 := (B3.out.cell (p := ⟨w.heap.size, 0, none⟩) hwz).trans f0
            have k1 := (B3.out.cell (p := ⟨w.heap.size, 1, none⟩) hwz).trans f1
            have k2 := (B3.out.cell (p := ⟨w.heap.size, 2, none⟩) hwz).trans f2
            have k3 := (B3.out.cell (p := ⟨w.heap.size, 3, none⟩) hwz).trans f3
            have cs := O3.out.cell Q.length hql
            rw [show o[Q.length]! = s by rw [HOE.out, Norm.at_end]] at cs
            have KM := Lib.hid (makeOne_any _ s x w3.drew ((HT.out.next (BW.out.trans (B3.out.mono BW.out.size))).now.below (Below.refl _ w3).drew))
            clear f0 f1 f2 f3
            cases hmk : Norm.make2 s x with
            | none =>
              have NX := Lib.hid (show Norm.next o x = o ++ [x] by rw [NA.out, if_pos FR.out, hmk, HOE.out])
              rw [hmk] at KM
              clear hmk
              go_wp2
              go_region_held3 (fun w' => w'.cell? ⟨g, Q.length, none⟩ = some (.int .i32 s) ∧ w'.cell? ⟨w.heap.size, 0, none⟩ = some (.slice (some ⟨b0, 0, none⟩) 74 74) ∧ w'.cell? ⟨w.heap.size, 1, none⟩ = some (.slice (some ⟨b1, 0, none⟩) 10 10) ∧ w'.cell? ⟨w.heap.size, 2, none⟩ = some (.slice (some ⟨b2, 0, none⟩) 11 11) ∧ w'.cell? ⟨w.heap.size, 3, none⟩ = some (.slice (some ⟨b3, 0, none⟩) 42 42)) (go_keep) ((go_at_call 37; (with_reducible refine KM.out.mono ?_); rintro e1 w4 ⟨rfl, hb4⟩; have HB4 := Lib.hid (below_of_drew hb4); have B4 := Lib.hid (B3.out.trans (HB4.out.mono B3.out.size)); have O4 := Lib.hid (O3.out.keep HB4.out); have G4 := Lib.hid (G3.out.trans (Grew.of_below HB4.out _)); have q1 := O4.out.cell Q.length hql; (rw [show o[Q.length]! = s by rw [HOE.out, Norm.at_end]] at q1); have fr4 := O4.out.free Q.length; have q2 := (HB4.out.cell (p := ⟨w.heap.size, 0, none⟩) hz3).trans k0; have q3 := (HB4.out.cell (p := ⟨w.heap.size, 1, none⟩) hz3).trans k1; have q4 := (HB4.out.cell (p := ⟨w.heap.size, 2, none⟩) hz3).trans k2; have q5 := (HB4.out.cell (p := ⟨w.heap.size, 3, none⟩) hz3).trans k3; clear hb4 cs k0 k1 k2 k3))
              all_goals
                have HPX := Lib.hid (show 0 < clsOf x by rw [← HCX.out]; exact hp)
                go_wp2_with (at_builtin; refine append_lit w4 22 21 (.int .i32 0) 4 Try.underlying22 info_i32 rfl (by omega) w.heap.size _ _ _ O4.out (Nat.le_trans (Nat.le_of_lt hwz) B4.out.size) (by omega) 1 (by omega) _ rfl rfl _ rfl rfl _ _ rfl rfl rfl ?_; intro v5 w5 ho5 hg5; have O5 := Lib.hid ho5; have G5 := Lib.hid (G4.out.trans hg5); clear ho5 hg5)
                all_goals
                  have I2 : Hid (OwnR w.heap.size v5 (Norm.join (l.take (k + 1))) w5 ∧ Grew (.slice (some ⟨w.heap.size + 1, 0, none⟩) 0 l.length) v5 w1 w5 ∧ Norm.At (Norm.join (l.take (k + 1))) Q.length (max bg cx)) := by
                    refine ⟨?_, G5.out, ?_⟩
                    · rw [HJ.out, NX.out]; exact OwnR.more O5.out rfl rfl
                    · rw [HJ.out, NX.out]; rw [HOE.out, HBG.out, HCX.out]; exact HAM.out HPX.out
                  go_roundg (l.length - k)
                  case measure => omega
                  case rel => exact ⟨k + 1, Q.length, (max bg cx), by omega, by go_num, rfl, by first | rfl | (congr 1; omega), by omega, I2⟩
            | some z =>
              have NX := Lib.hid (show Norm.next o x = Q ++ z :: M by rw [NA.out, if_pos FR.out, hmk])
              have HMK := Lib.hid (Norm.At.made (Q := Q) HMM.out hmk)
              rw [hmk] at KM
              clear hmk
              go_wp2
              go_region_held3 (fun w' => w'.cell? ⟨g, Q.length, none⟩ = some (.int .i32 s) ∧ w'.cell? ⟨w.heap.size, 0, none⟩ = some (.slice (some ⟨b0, 0, none⟩) 74 74) ∧ w'.cell? ⟨w.heap.size, 1, none⟩ = some (.slice (some ⟨b1, 0, none⟩) 10 10) ∧ w'.cell? ⟨w.heap.size, 2, none⟩ = some (.slice (some ⟨b2, 0, none⟩) 11 11) ∧ w'.cell? ⟨w.heap.size, 3, none⟩ = some (.slice (some ⟨b3, 0, none⟩) 42 42)) (go_keep) ((go_at_call 37; (with_reducible refine KM.out.mono ?_); rintro e1 w4 ⟨rfl, hb4⟩; have HB4 := Lib.hid (below_of_drew hb4); have B4 := Lib.hid (B3.out.trans (HB4.out.mono B3.out.size)); have O4 := Lib.hid (O3.out.keep HB4.out); have G4 := Lib.hid (G3.out.trans (Grew.of_below HB4.out _)); have q1 := O4.out.cell Q.length hql; (rw [show o[Q.length]! = s by rw [HOE.out, Norm.at_end]] at q1); have fr4 := O4.out.free Q.length; have q2 := (HB4.out.cell (p := ⟨w.heap.size, 0, none⟩) hz3).trans k0; have q3 := (HB4.out.cell (p := ⟨w.heap.size, 1, none⟩) hz3).trans k1; have q4 := (HB4.out.cell (p := ⟨w.heap.size, 2, none⟩) hz3).trans k2; have q5 := (HB4.out.cell (p := ⟨w.heap.size, 3, none⟩) hz3).trans k3; clear hb4 cs k0 k1 k2 k3))
              all_goals
                have I2 : Hid (OwnR w.heap.size (.slice (some ⟨g, 0, none⟩) o.length c2) (Norm.join (l.take (k + 1))) (w4.setCell ⟨g, Q.length, none⟩ (.int .i32 z)) ∧ Grew (.slice (some ⟨w.heap.size + 1, 0, none⟩) 0 l.length) (.slice (some ⟨g, 0, none⟩) o.length c2) w1 (w4.setCell ⟨g, Q.length, none⟩ (.int .i32 z)) ∧ Norm.At (Norm.join (l.take (k + 1))) Q.length bg) := by
                  refine ⟨?_, G4.out.trans (Grew.put _ _ _ _ _ _), ?_⟩
                  · rw [HJ.out, NX.out]
                    have h := O4.out.put Q.length z
                    rwa [show o.set Q.length z = Q ++ z :: M by rw [HOE.out, Norm.set_end]] at h
                  · rw [HJ.out, NX.out, HBG.out]; exact HMK.out
                go_wp2
                go_roundg (l.length - k)
                case measure => omega
                case rel => exact ⟨k + 1, Q.length, bg, by omega, by go_num, rfl, rfl, by omega, I2⟩
          · have FR := Lib.hid (show ¬ M.all (fun y => decide (clsOf y < clsOf x)) = true by rw [← HCX.out]; exact fun h => hbw (by rw [hbg]; exact (BL.out cx hM0).2 h))
            have NX := Lib.hid (show Norm.next o x = o ++ [x] by rw [NA.out, if_neg FR.out, HOE.out])
            clear hs hm hoe hlen hbg hM0
            go_wp2_with fail
            refine KC.out.mono ?_
            rintro e w3 ⟨rfl, hb3⟩
            have B3 := Lib.hid hb3
            have O3 := Lib.hid (HI.out.1.keep hb3)
            have G3 := Lib.hid (HI.out.2.trans (Grew.of_below hb3 _))
            clear hb3 KC
            by_cases hp : 0 < cx
            · have HPX := Lib.hid (show 0 < clsOf x by rw [← HCX.out]; exact hp)
              go_wp2_with (at_builtin; refine append_lit w3 22 21 (.int .i32 0) 4 Try.underlying22 info_i32 rfl (by omega) w.heap.size _ _ _ O3.out (Nat.le_trans (Nat.le_of_lt hwz) B3.out.size) (by omega) 1 (by omega) _ rfl rfl _ rfl rfl _ _ rfl rfl rfl ?_; intro v5 w5 ho5 hg5; have O5 := Lib.hid ho5; have G5 := Lib.hid (G3.out.trans hg5); clear ho5 hg5)
              all_goals
                have I2 : Hid (OwnR w.heap.size v5 (Norm.join (l.take (k + 1))) w5 ∧ Grew (.slice (some ⟨w.heap.size + 1, 0, none⟩) 0 l.length) v5 w1 w5 ∧ Norm.At (Norm.join (l.take (k + 1))) Q.length (max bg cx)) := by
                  refine ⟨?_, G5.out, ?_⟩
                  · rw [HJ.out, NX.out]; exact OwnR.more O5.out rfl rfl
                  · rw [HJ.out, NX.out]; rw [HOE.out, HBG.out, HCX.out]; exact HAM.out HPX.out
                go_roundg (l.length - k)
                case measure => omega
                case rel => exact ⟨k + 1, Q.length, (max bg cx), by omega, by go_num, rfl, by first | rfl | (congr 1; omega), by omega, I2⟩
            · have hp0 : cx ≤ 0 := by omega
              have HPX := Lib.hid (show ¬ 0 < clsOf x by rw [← HCX.out]; exact hp)
              go_wp2_with (at_builtin; refine append_lit w3 22 21 (.int .i32 0) 4 Try.underlying22 info_i32 rfl (by omega) w.heap.size _ _ _ O3.out (Nat.le_trans (Nat.le_of_lt hwz) B3.out.size) (by omega) 1 (by omega) _ rfl rfl _ rfl rfl _ _ rfl rfl rfl ?_; intro v5 w5 ho5 hg5; have O5 := Lib.hid ho5; have G5 := Lib.hid (G3.out.trans hg5); clear ho5 hg5)
              all_goals
                have I2 : Hid (OwnR w.heap.size v5 (Norm.join (l.take (k + 1))) w5 ∧ Grew (.slice (some ⟨w.heap.size + 1, 0, none⟩) 0 l.length) v5 w1 w5 ∧ Norm.At (Norm.join (l.take (k + 1))) o.length 0) := by
                  refine ⟨?_, G5.out, ?_⟩
                  · rw [HJ.out, NX.out]; exact OwnR.more O5.out rfl rfl
                  · rw [HJ.out, NX.out]; exact Norm.At.plain x (by have := HPX.out; omega)
                go_roundg (l.length - k)
                case measure => omega
                case rel => exact ⟨k + 1, o.length, 0, by omega, by go_num, rfl, rfl, by omega, I2⟩
    · obtain rfl : k = l.length := by omega
      clear hBW
      go_wp2
      go_ret
      have h := I.out.1
      rw [List.take_length] at h
      exact ⟨_, rfl, h, BW.out⟩
end Go.Proofs.Ytpmcmbkilcpleaa
