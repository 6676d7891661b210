/-
  Proved here: the document's own Char, Class and Name of layer 10. Conditions: strings of at most 1000 bytes, whose folded characters are at most 420.
-/
import Derived.Test.YtmbammhkkcnoaaaGreatLabRefB
import Derived.Test.YtmbammhkkcnoaaaGreatPrecFits
namespace Go.Proofs.YtmbammhkkcnoaaaGreat
open Go.RowKit Utf
namespace Prec
theorem char_split {r : Int} (h : ¬ (33 ≤ r ∧ r ≤ 126)) : charOk r = ((catOf r == 1 && (!(splitOf r).isSome || (!((splitOf r).getD default).soft && !((splitOf r).getD default).out))) || Lab.charOk r) := by
  unfold charOk
  rw [show (decide (33 ≤ r) && decide (r ≤ 126)) = false by rw [Bool.and_eq_false_iff, decide_eq_false_iff_not, decide_eq_false_iff_not]; omega, Bool.false_or]
  cases splitOf r <;> rfl
end Prec
theorem split_cell3 (w : World) (a b c d e : Value) (T : TypeId) : (w.alloc (.cells #[a, b, c, d, e] T)).cell? ⟨w.heap.size, 3, none⟩ = some d := by
  unfold World.cell?
  rw [show (w.alloc (.cells #[a, b, c, d, e] T)).heap[(⟨w.heap.size, 3, none⟩ : Addr).block]? = some (.cells #[a, b, c, d, e] T (0, 0)) from heap_alloc_new w _]
  rfl
theorem split_cell4 (w : World) (a b c d e : Value) (T : TypeId) : (w.alloc (.cells #[a, b, c, d, e] T)).cell? ⟨w.heap.size, 4, none⟩ = some e := by
  unfold World.cell?
  rw [show (w.alloc (.cells #[a, b, c, d, e] T)).heap[(⟨w.heap.size, 4, none⟩ : Addr).block]? = some (.cells #[a, b, c, d, e] T (0, 0)) from heap_alloc_new w _]
  rfl
set_option maxHeartbeats 4000000 in
set_option maxRecDepth 100000 in
theorem char10_ref (r : Int) (w : World) : Calls Tryz.prog 15 #[.int .i32 r] w fun e w' => e = .returned (.bool (Prec.charOk r)) ∧ Below w.heap.size w w' := by
  by_cases hr : 33 ≤ r ∧ r ≤ 126
  · have : Prec.charOk r = true := by unfold Prec.charOk; rw [decide_eq_true hr.1, decide_eq_true hr.2]; rfl
    rw [this]
    clear this
    obtain ⟨h1, h2⟩ := hr
    go_enter Tryz.func15, Tryz.ntmps15
    go_wp2
    go_ret
    exact ⟨rfl, Below.refl _ _⟩
  · have KC := Lib.hid (fun W => refCat_any r W)
    have KS := fun W => refSplit_any r W
    have KL := fun W => char8_any r W
    rw [Prec.char_split hr]
    generalize catOf r = c at KC ⊢
    unfold TellsSp at KS
    generalize (splitOf r).getD default = y at KS ⊢
    generalize (splitOf r).isSome = is at KS ⊢
    generalize Lab.charOk r = ok at KL ⊢
    obtain ⟨v0, v1, v2, v3, v4⟩ := y
    simp only [encSp] at KS ⊢
    have KS := Lib.hid KS
    have KL := Lib.hid KL
    have hcs : decide (33 ≤ r) = false ∨ (decide (33 ≤ r) = true ∧ decide (r ≤ 126) = false) := by
      by_cases h : 33 ≤ r
      · exact .inr ⟨decide_eq_true h, decide_eq_false (by omega)⟩
      · exact .inl (decide_eq_false h)
    clear hr
    by_cases hc : c = 1
    · subst hc
      rw [show ((1 : Int) == 1) = true from rfl, Bool.true_and]
      rcases hcs with h | ⟨h, h'⟩ <;> cases is <;> cases v3 <;> cases v4 <;> cases ok
      all_goals
        go_enter Tryz.func15, Tryz.ntmps15
        go_wp2_with fail
        refine (KS.out w).mono ?_
        rintro e w3 ⟨rfl, hb3⟩
        have B3 := Lib.hid hb3
        clear hb3
        go_wp2_with fail
        refine (KC.out _).mono ?_
        rintro e w2 ⟨rfl, hb2⟩
        have B2 := Lib.hid (below_new B3.out (Nat.le_refl _) _ |>.trans (hb2.mono (by have := B3.out.size; simp; omega)))
        have d3 := hb2.cell (p := ⟨w3.heap.size, 3, none⟩) (by simp)
        have d4 := hb2.cell (p := ⟨w3.heap.size, 4, none⟩) (by simp)
        rw [split_cell3] at d3
        rw [split_cell4] at d4
        clear hb2
        go_wp2_with (go_at_call 41; (with_reducible refine (KL.out _).mono ?_); rintro e w5 ⟨rfl, hb5⟩; have B5 := Lib.hid (below_then B2.out hb5); clear hb5)
        go_ret
        first | exact ⟨rfl, B5.out⟩ | exact ⟨rfl, B2.out⟩
    · have ec : (c == 1) = false := by simpa using hc
      rw [ec, Bool.false_and, Bool.false_or]
      clear hc
      rcases hcs with h | ⟨h, h'⟩ <;> cases ok
      all_goals
        go_enter Tryz.func15, Tryz.ntmps15
        go_wp2_with fail
        refine (KS.out w).mono ?_
        rintro e w3 ⟨rfl, hb3⟩
        have B3 := Lib.hid hb3
        clear hb3
        go_wp2_with fail
        refine (KC.out _).mono ?_
        rintro e w2 ⟨rfl, hb2⟩
        have B2 := Lib.hid (below_new B3.out (Nat.le_refl _) _ |>.trans (hb2.mono (by have := B3.out.size; simp; omega)))
        clear hb2
        go_wp2_with fail
        refine (KL.out _).mono ?_
        rintro e w5 ⟨rfl, hb5⟩
        have B5 := Lib.hid (below_then B2.out hb5)
        clear hb5
        go_wp2
        go_ret
        exact ⟨rfl, B5.out⟩
/-- Is none up to k one that may not stand there? -/
def FineP (l : List Int) (k : Nat) : Prop := ∀ i, i < k → ¬ (Ctx.need l (i : Nat) = 2 ∨ (Ctx.need l (i : Nat) = 0 ∧ Prec.charOk l[i]! = false))
theorem badP_yes {l : List Int} {k : Nat} (hk : k < l.length) (h : Ctx.need l (k : Nat) = 2 ∨ (Ctx.need l (k : Nat) = 0 ∧ Prec.charOk l[k]! = false)) : Prec.badAt l = true := by
  unfold Prec.badAt
  rw [List.any_eq_true]
  refine ⟨k, List.mem_range.2 hk, ?_⟩
  rcases h with h | ⟨h, h'⟩
  · rw [h]; rfl
  · rw [h, h']; rfl
theorem badP_no {l : List Int} (h : FineP l l.length) : Prec.badAt l = false := by
  unfold Prec.badAt
  rw [List.any_eq_false]
  intro k hk
  have h1 := h k (List.mem_range.1 hk)
  rw [not_or] at h1
  rw [Bool.or_eq_true, Bool.and_eq_true, beq_iff_eq, beq_iff_eq, Bool.not_eq_true']
  intro h2
  rcases h2 with h2 | h2
  · exact h1.1 h2
  · exact h1.2 h2
set_option maxHeartbeats 8000000 in
set_option maxRecDepth 100000 in
theorem class10_ref (s : ByteArray) (w : World) (hs : s.size ≤ 100000) (hm : ∀ m, rdOf s.data.toList = (m, -1) → m.length ≤ 420) :
    Calls Tryz.prog 13 #[.string s] w fun e w' => e = .returned (.int .i64 (Prec.classE s.data.toList)) ∧ Below w.heap.size w w' := by
  obtain ⟨⟨m, z⟩, hrd⟩ : ∃ p, rdOf s.data.toList = p := ⟨_, rfl⟩
  have KR := Lib.hid (refRunes_at s w (by omega) hrd)
  rcases (rd_cases hrd).2.2 with ⟨rfl, -⟩ | ⟨k, rfl, -, -⟩
  case inr =>
    have hE : Prec.classE s.data.toList = 7 := by unfold Prec.classE; rw [hrd, if_neg (by show ¬ (k : Int) = -1; omega)]
    rw [hE]
    have hkz : (0 : Int) ≤ (k : Int) := by omega
    clear hE hrd hm
    go_enter Tryz.func13, Tryz.ntmps13
    go_wp2_with fail
    refine KR.out.mono ?_
    rintro e w2 ⟨A, c, rfl, -, hb2⟩
    have B2 := Lib.hid hb2
    clear hb2
    go_wp2
    go_ret
    exact ⟨rfl, B2.out⟩
  have hml := hm m hrd
  have hE : Prec.classE s.data.toList = Prec.classL (ints m) := by unfold Prec.classE; rw [hrd, if_pos rfl]
  rw [hE]
  obtain ⟨l, hl⟩ : ∃ l, ints m = l := ⟨_, rfl⟩
  have hln : l.length = m.length := by rw [← hl]; unfold ints; rw [List.length_map]
  rw [hl]
  have KL : Calls Tryz.prog 29 #[.string s] w (RunesL l w) := KR.out.mono fun e w' ⟨A, c, h1, h2, h3⟩ => ⟨A, c, by rw [h1, hln], by rw [hln, ← hl]; exact h2, h3⟩
  obtain ⟨p, hp⟩ : ∃ p, p = Prec.classL l := ⟨_, rfl⟩
  rw [← hp]
  unfold Prec.classL at hp
  have HP := Lib.hid hp
  have KL := Lib.hid KL
  rw [← hln] at hml
  clear hp hE hrd hm hl hln KR
  by_cases hne : l = []
  · subst hne
    have R := Lib.hid (show p = 13 by rw [HP.out, if_pos rfl])
    go_enter Tryz.func13, Tryz.ntmps13
    go_wp2_with fail
    refine KL.out.mono ?_
    rintro e w2 ⟨A, c, rfl, -, hb2⟩
    have B2 := Lib.hid hb2
    clear hb2
    go_wp2
    go_ret
    exact ⟨by rw [R.out]; rfl, B2.out⟩
  have HP4 := Lib.hid (show p = if Prec.badAt l then 8 else 0 by rw [HP.out, if_neg hne])
  have hpos : 0 < l.length := List.length_pos_iff.2 hne
  have hnz : ((l.length : Int) == 0) = false := by rw [beq_eq_false_iff_ne]; omega
  clear hne HP
  go_enter Tryz.func13, Tryz.ntmps13
  go_wp2_with fail
  refine KL.out.mono ?_
  rintro e w5 ⟨A, c, rfl, hv5, hb5⟩
  have B5 := Lib.hid hb5
  have V5 := Lib.hid hv5
  obtain ⟨A', c', e', -, hx⟩ := V5.out.form
  injection e' with e1 e2 e3
  subst e1 e3
  obtain ⟨ad, rfl, -, -⟩ := hx 0 hpos
  have HX5 : Hid (∀ k, k < l.length → ad.block < w5.heap.size ∧ w5.cell? (ad.add k) = some (.int .i32 l[k]!)) := Lib.hid (fun k hk => by
    obtain ⟨ad', e, hb', hc'⟩ := hx k hk
    obtain rfl : ad = ad' := by injection e
    exact ⟨hb', hc'⟩)
  clear hb5 hv5 hx
  go_wp2
  go_loopg [5, 6, 7] (l.length + 1) (fun gk i _ _ wr => ∃ k : Nat, k ≤ l.length ∧ i = .int .i64 k ∧ l.length - k < gk ∧ Hid (FineP l k ∧ Below w5.heap.size w5 wr))
  case atStart => exact ⟨0, Nat.zero_le _, rfl, by omega, ⟨fun j hj => absurd hj (Nat.not_lt_zero _), Below.refl _ _⟩⟩
  case round =>
    obtain ⟨k, hk, rfl, hg, I⟩ := hrel
    have BW := Lib.hid (below_then B5.out I.out.2)
    have VW := Lib.hid (V5.out.keep I.out.2)
    by_cases hlt : k < l.length
    · have hcell := (I.out.2.cell (by rw [add_block]; exact (HX5.out k hlt).1)).trans (HX5.out k hlt).2
      have KN := need7_any _ l k wr VW.out (by omega)
      have hfew := need_few l k hlt
      have hbad := fun h => badP_yes hlt h
      have hgood : ¬ (Ctx.need l (k : Nat) = 2 ∨ (Ctx.need l (k : Nat) = 0 ∧ Prec.charOk l[k]! = false)) → FineP l (k + 1) := fun h j hj => by
        by_cases e : j = k
        · subst e; exact h
        · exact I.out.1 j (by omega)
      have KC := fun W => char10_ref l[k]! W
      generalize l[k]! = x at hcell hbad hgood KC
      generalize Ctx.need l (k : Nat) = nd at KN hfew hbad hgood
      generalize Prec.charOk x = ok at hbad hgood KC
      have KN := Lib.hid KN
      have KC := Lib.hid KC
      have HBAD := Lib.hid hbad
      have HGOOD := Lib.hid hgood
      have hkz : (k : Int) < (l.length : Int) := by omega
      clear hbad hgood
      have hstep : (nd = 2 ∨ (nd = 0 ∧ ok = false)) ∨ (nd = 1 ∨ (nd = 0 ∧ ok = true)) := by
        rcases hfew with h | h | h <;> cases ok <;> simp [h]
      clear hfew
      rcases hstep with (h | ⟨h, h'⟩) | (h | ⟨h, h'⟩)
      · have R := Lib.hid (show p = 8 by rw [HP4.out, if_pos (HBAD.out (.inl h))])
        subst h
        go_wp2_with fail
        refine KN.out.mono ?_
        rintro e w6 ⟨rfl, hb6⟩
        have B6 := Lib.hid (below_then BW.out hb6)
        have hcell6 := (hb6.cell (p := ad.add k) (by rw [add_block]; exact Nat.lt_of_lt_of_le (HX5.out k hlt).1 I.out.2.size)).trans hcell
        clear hb6 hcell
        go_wp2_with fail
        refine (KC.out w6).mono ?_
        rintro e w7 ⟨rfl, hb7⟩
        have B7 := Lib.hid (below_then B6.out hb7)
        clear hb7 hcell6
        go_wp2
        go_ret
        exact ⟨by rw [R.out]; rfl, B7.out⟩
      · have R := Lib.hid (show p = 8 by rw [HP4.out, if_pos (HBAD.out (.inr ⟨h, h'⟩))])
        subst h h'
        go_wp2_with fail
        refine KN.out.mono ?_
        rintro e w6 ⟨rfl, hb6⟩
        have B6 := Lib.hid (below_then BW.out hb6)
        have hcell6 := (hb6.cell (p := ad.add k) (by rw [add_block]; exact Nat.lt_of_lt_of_le (HX5.out k hlt).1 I.out.2.size)).trans hcell
        clear hb6 hcell
        go_wp2_with fail
        refine (KC.out w6).mono ?_
        rintro e w7 ⟨rfl, hb7⟩
        have B7 := Lib.hid (below_then B6.out hb7)
        clear hb7 hcell6
        go_wp2
        go_ret
        exact ⟨by rw [R.out]; rfl, B7.out⟩
      · have I2 := Lib.hid (HGOOD.out (by omega))
        subst h
        go_wp2_with fail
        refine KN.out.mono ?_
        rintro e w6 ⟨rfl, hb6⟩
        have B6 := Lib.hid (I.out.2.trans (hb6.mono I.out.2.size))
        have hcell6 := (hb6.cell (p := ad.add k) (by rw [add_block]; exact Nat.lt_of_lt_of_le (HX5.out k hlt).1 I.out.2.size)).trans hcell
        clear hb6 hcell
        go_wp2_with fail
        refine (KC.out w6).mono ?_
        rintro e w7 ⟨rfl, hb7⟩
        have B7 := Lib.hid (B6.out.trans (hb7.mono B6.out.size))
        clear hb7 hcell6
        go_wp2
        go_roundg (l.length - k)
        case measure => omega
        case rel => exact ⟨k + 1, by omega, by go_num, by omega, ⟨I2.out, B7.out⟩⟩
      · have I2 := Lib.hid (HGOOD.out (by rw [h, h']; decide))
        subst h h'
        go_wp2_with fail
        refine KN.out.mono ?_
        rintro e w6 ⟨rfl, hb6⟩
        have B6 := Lib.hid (I.out.2.trans (hb6.mono I.out.2.size))
        have hcell6 := (hb6.cell (p := ad.add k) (by rw [add_block]; exact Nat.lt_of_lt_of_le (HX5.out k hlt).1 I.out.2.size)).trans hcell
        clear hb6 hcell
        go_wp2_with fail
        refine (KC.out w6).mono ?_
        rintro e w7 ⟨rfl, hb7⟩
        have B7 := Lib.hid (B6.out.trans (hb7.mono B6.out.size))
        clear hb7 hcell6
        go_wp2
        go_roundg (l.length - k)
        case measure => omega
        case rel => exact ⟨k + 1, by omega, by go_num, by omega, ⟨I2.out, B7.out⟩⟩
    · obtain rfl : k = l.length := by omega
      have R := Lib.hid (show p = 0 by rw [HP4.out, badP_no I.out.1]; rfl)
      have hkz : ¬ (l.length : Int) < (l.length : Int) := by omega
      go_wp2
      go_ret
      exact ⟨by rw [R.out]; rfl, BW.out⟩
def NamePost (P : Int × List UInt8) (w : World) (e : Ending) (w' : World) : Prop := e = .returned (.tuple #[.string ⟨P.2.toArray⟩, .int .i64 P.1]) ∧ Below w.heap.size w w'
set_option maxHeartbeats 8000000 in
set_option maxRecDepth 100000 in
theorem name10_ref (s : ByteArray) (w : World) (hs : s.size ≤ 100000) (hm : ∀ m, rdOf s.data.toList = (m, -1) → m.length ≤ 420 ∧ (Fold.fold (ints m)).length ≤ 420) :
    Calls Tryz.prog 11 #[.string s] w (NamePost (Prec.nameE s.data.toList) w) := by
  obtain ⟨⟨m, z⟩, hrd⟩ : ∃ p, rdOf s.data.toList = p := ⟨_, rfl⟩
  rcases (rd_cases hrd).2.2 with ⟨rfl, -⟩ | ⟨k, rfl, -, -⟩
  case inr =>
    have hE : Prec.nameE s.data.toList = (7, []) := by unfold Prec.nameE; rw [hrd, if_neg (by show ¬ (k : Int) = -1; omega)]
    have KF := fold4_no s w hs hrd
    rw [hE]
    have KF := Lib.hid KF
    clear hE hrd hm
    go_enter Tryz.func11, Tryz.ntmps11
    go_wp2_with fail
    refine KF.out.mono ?_
    rintro e w2 ⟨rfl, hb2⟩
    have B2 := Lib.hid hb2
    clear hb2
    go_wp2
    go_ret2
    exact ⟨rfl, B2.out⟩
  obtain ⟨hml, hfl⟩ := hm m hrd
  have hE : Prec.nameE s.data.toList = Prec.nameL (Fold.fold (ints m)) := by unfold Prec.nameE; rw [hrd, if_pos rfl]
  obtain ⟨hr, -⟩ := Lab.rd_is (s := s.data.toList) (by rw [hrd])
  rw [hrd] at hr
  simp only at hr
  have KF := fun W => fold4_yes s W hs hml hrd
  rw [hE]
  have hR := fold_right hr
  generalize Fold.fold (ints m) = L at KF hfl hR ⊢
  clear hE hrd hm hr hml
  obtain ⟨X, hX⟩ : ∃ X, X = encZ L := ⟨_, rfl⟩
  rw [← hX] at KF
  have hXl : X.length ≤ 1680 := by rw [hX]; have := encZ_len L; omega
  have hrd : rdOf X = (L.map Int.toNat, -1) := by rw [hX]; exact rd_enc hR
  have hcl : Prec.classE X = Prec.classL L := by rw [hX]; exact Prec.classE_enc hR
  have KC := fun W => class10_ref ⟨X.toArray⟩ W (by rw [size_of]; omega) (fun m' h => by
    have h' : rdOf X = (m', -1) := h
    rw [hrd] at h'
    injection h' with e1 e2
    rw [← e1, List.length_map]; exact hfl)
  change ∀ W, Calls _ _ _ W fun e w' => e = .returned (.int .i64 (Prec.classE X)) ∧ Below W.heap.size W w' at KC
  rw [hcl] at KC
  have KR := fun W => refRunes_at ⟨X.toArray⟩ W (by rw [size_of]; omega) (l := L.map Int.toNat) (z := -1) hrd
  have KL : ∀ W, Calls Tryz.prog 29 #[.string ⟨X.toArray⟩] W (RunesL L W) := fun W => (KR W).mono fun e w' ⟨A, c, h1, h2, h3⟩ => ⟨A, c, by rw [h1, List.length_map], by rw [List.length_map, (ints_back hR).1] at h2; exact h2, h3⟩
  obtain ⟨P, hP⟩ : ∃ P, P = Prec.nameL L := ⟨_, rfl⟩
  rw [← hP]
  unfold Prec.nameL at hP
  rw [← hX] at hP
  generalize Prec.classL L = x at KC hP
  have KH := fun v W (h : Runes v L W) => has6_any v L W h (by omega)
  have KU := fun v W (h : Runes v L W) => rule6_any v L W h (by omega)
  generalize Bidi.has L = p at KH hP
  generalize Bidi.rule L = q at KU hP
  have HP := Lib.hid hP
  have KF := Lib.hid KF
  have KC := Lib.hid KC
  have KL := Lib.hid KL
  have KH := Lib.hid KH
  have KU := Lib.hid KU
  clear hP hX hXl hrd hcl KR hR hfl hs
  by_cases h0 : x = 0
  case neg =>
    have R := Lib.hid (show P = (x, []) by rw [HP.out, if_pos h0])
    have hx0 : (x == 0) = false := by rw [beq_eq_false_iff_ne]; exact h0
    clear h0
    go_enter Tryz.func11, Tryz.ntmps11
    go_wp2_with fail
    refine (KF.out w).mono ?_
    rintro e w2 ⟨rfl, hb2⟩
    have B2 := Lib.hid hb2
    clear hb2
    go_wp2_with fail
    refine (KC.out w2).mono ?_
    rintro e w3 ⟨rfl, hb3⟩
    have B3 := Lib.hid (below_then B2.out hb3)
    clear hb3
    go_wp2
    go_ret2
    exact ⟨by rw [R.out]; rfl, B3.out⟩
  subst h0
  have HP1 := Lib.hid (show P = if p && !q then (9, []) else (0, X) by rw [HP.out, if_neg (by decide)])
  clear HP
  cases p <;> cases q
  all_goals
    first
      | have R := Lib.hid (show P = (9, []) from HP1.out)
      | have R := Lib.hid (show P = (0, X) from HP1.out)
    go_enter Tryz.func11, Tryz.ntmps11
    go_wp2_with fail
    refine (KF.out w).mono ?_
    rintro e w2 ⟨rfl, hb2⟩
    have B2 := Lib.hid hb2
    clear hb2
    go_wp2_with fail
    refine (KC.out w2).mono ?_
    rintro e w3 ⟨rfl, hb3⟩
    have B3 := Lib.hid (below_then B2.out hb3)
    clear hb3
    go_wp2_with fail
    refine (KL.out w3).mono ?_
    rintro e w4 ⟨A, c, rfl, hv4, hb4⟩
    have B4 := Lib.hid (below_then B3.out hb4)
    have V4 := Lib.hid hv4
    clear hb4 hv4
    go_wp2_with fail
    refine (KH.out _ w4 V4.out).mono ?_
    rintro e w5 ⟨rfl, hb5⟩
    have B5 := Lib.hid (below_then B4.out hb5)
    have V5 := Lib.hid (V4.out.keep hb5)
    clear hb5
    go_wp2_with fail
    refine (KU.out _ w5 V5.out).mono ?_
    rintro e w6 ⟨rfl, hb6⟩
    have B6 := Lib.hid (below_then B5.out hb6)
    clear hb6
    go_wp2
    go_ret2
    exact ⟨by rw [R.out]; rfl, B6.out⟩
theorem LabFits.ref {s : ByteArray} (hs : s.size ≤ 150) : s.size ≤ 100000 ∧ ∀ m, rdOf s.data.toList = (m, -1) → m.length ≤ 420 ∧ (Fold.fold (ints m)).length ≤ 420 := by
  refine ⟨by omega, fun m h => ⟨?_, ((lab_of hs).2 m h).2⟩⟩
  have := (rd_cases h).2.1
  simp at this
  omega
end Go.Proofs.YtmbammhkkcnoaaaGreat
