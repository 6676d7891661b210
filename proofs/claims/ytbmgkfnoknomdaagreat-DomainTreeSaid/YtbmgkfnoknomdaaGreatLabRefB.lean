/-
  Proved here: the document's own Wide of layer 8. Conditions: a string of at most 100,000 bytes and, if it is all characters, of at most 420.
-/
import Derived.Test.YtbmgkfnoknomdaaGreatLabRef
import Derived.Test.YtbmgkfnoknomdaaGreatCtxEnd
import Derived.Test.YtbmgkfnoknomdaaGreatBidiAll
import Derived.Test.YtbmgkfnoknomdaaGreatPunyB
import Derived.Test.YtbmgkfnoknomdaaGreatFoldAll
import Derived.Test.YtbmgkfnoknomdaaGreatUtfB
namespace Go.Proofs.YtbmgkfnoknomdaaGreat
open Go.RowKit Utf
/-- What Wide tells of characters, one question behind the other. -/
theorem wide_steps (l : List Int) : Lab.wideL l = if Lab.ascii (encZ l) = true then 4 else if Lab.nfc l ≠ l then 4 else if Lab.dashed (encZ l) then 11 else if catOf l[0]! = 4 then 10 else if Lab.badAt l then 8 else if Bidi.has l && !Bidi.rule l then 9 else if 59 < (Puny.encB l).length then 5 else 0 := by
  unfold Lab.wideL
  by_cases h1 : Lab.ascii (encZ l) = true
  · rw [if_pos (Or.inl h1), if_pos h1]
  · rw [if_neg h1]
    by_cases h2 : Lab.nfc l ≠ l
    · rw [if_pos (Or.inr h2), if_pos h2]
    · rw [if_neg h2, if_neg (fun h => h.elim h1 h2)]
/-- Is none up to k one that may not stand there? -/
def Fine (l : List Int) (k : Nat) : Prop := ∀ i, i < k → ¬ (Ctx.need l (i : Nat) = 2 ∨ (Ctx.need l (i : Nat) = 0 ∧ Lab.charOk l[i]! = false))
theorem bad_yes {l : List Int} {k : Nat} (hk : k < l.length) (h : Ctx.need l (k : Nat) = 2 ∨ (Ctx.need l (k : Nat) = 0 ∧ Lab.charOk l[k]! = false)) : Lab.badAt l = true := by
  unfold Lab.badAt
  rw [List.any_eq_true]
  refine ⟨k, List.mem_range.2 hk, ?_⟩
  rcases h with h | ⟨h, h'⟩
  · rw [h]; rfl
  · rw [h, h']; rfl
theorem bad_no {l : List Int} (h : Fine l l.length) : Lab.badAt l = false := by
  unfold Lab.badAt
  rw [List.any_eq_false]
  intro k hk
  have h1 := h k (List.mem_range.1 hk)
  rw [not_or] at h1
  rw [Bool.or_eq_true, Bool.and_eq_true, beq_iff_eq, beq_iff_eq, Bool.not_eq_true']
  intro h2
  rcases h2 with h2 | h2
  · exact h1.1 h2
  · exact h1.2 h2
theorem need_few (l : List Int) (k : Nat) (hk : k < l.length) : Ctx.need l (k : Nat) = 0 ∨ Ctx.need l (k : Nat) = 1 ∨ Ctx.need l (k : Nat) = 2 := by
  rw [Ctx.need_in hk]
  split
  · split
    · exact .inr (.inl rfl)
    · exact .inr (.inr rfl)
  · exact .inl rfl
def RunesL (l : List Int) (w : World) (e : Ending) (w' : World) : Prop :=
  ∃ A c, e = .returned (.tuple #[.slice A l.length c, .int .i64 (-1)]) ∧ Runes (.slice A l.length c) l w' ∧ Below w.heap.size w w'
set_option maxHeartbeats 8000000 in
set_option maxRecDepth 100000 in
theorem wide8_ref (s : ByteArray) (w : World) (hs : s.size ≤ 100000) (hm : ∀ m, rdOf s.data.toList = (m, -1) → m.length ≤ 420) :
    Calls Tryz.prog 50 #[.string s] w fun e w' => e = .returned (.int .i64 (Lab.wideE s.data.toList)) ∧ Below w.heap.size w w' := by
  obtain ⟨⟨m, z⟩, hrd⟩ : ∃ p, rdOf s.data.toList = p := ⟨_, rfl⟩
  have KR := Lib.hid (refRunes_at s w (by omega) hrd)
  rcases (rd_cases hrd).2.2 with ⟨rfl, -⟩ | ⟨k, rfl, -, -⟩
  case inr =>
    have hE : Lab.wideE s.data.toList = 7 := by unfold Lab.wideE; rw [hrd, if_neg (by show ¬ (k : Int) = -1; omega)]
    rw [hE]
    clear hE hrd hm
    go_enter Tryz.func50, Tryz.ntmps50
    go_wp2_with fail
    refine KR.out.mono ?_
    rintro e w2 ⟨A, c, rfl, -, hb2⟩
    have B2 := Lib.hid hb2
    clear hb2
    go_wp2
    go_ret
    exact ⟨rfl, B2.out⟩
  have hml := hm m hrd
  have hE : Lab.wideE s.data.toList = Lab.wideL (ints m) := by unfold Lab.wideE; rw [hrd, if_pos rfl]
  obtain ⟨hr, hse⟩ := Lab.rd_is (s := s.data.toList) (by rw [hrd])
  rw [hrd] at hr hse
  simp only at hr hse
  rw [hE, wide_steps]
  obtain ⟨l, hl⟩ : ∃ l, ints m = l := ⟨_, rfl⟩
  have hln : l.length = m.length := by rw [← hl]; simp [ints]
  have KF := Lib.hid (fun W => form3_yes s false true W (by omega) hml hrd)
  rw [hl] at hr hse KF ⊢
  have KEi := fun W => refEight_any s W (by omega)
  have KD0 := fun W => dash8_any s W (by omega)
  rw [hse] at KD0 KEi
  rw [← hln] at hml
  have KL : Calls Tryz.prog 28 #[.string s] w (RunesL l w) := KR.out.mono fun e w' ⟨A, c, h1, h2, h3⟩ => ⟨A, c, by rw [h1, hln], by rw [hln, ← hl]; exact h2, h3⟩
  have KR := Lib.hid KL
  clear KL
  obtain ⟨p, hp⟩ : ∃ p, p = (if Lab.ascii (encZ l) = true then (4 : Int) else if Lab.nfc l ≠ l then 4 else if Lab.dashed (encZ l) then 11 else if catOf l[0]! = 4 then 10 else if Lab.badAt l then 8 else if Bidi.has l && !Bidi.rule l then 9 else if 59 < (Puny.encB l).length then 5 else 0) := ⟨_, rfl⟩
  rw [← hp]
  have HP := Lib.hid hp
  have HL := Lib.hid hl
  have HSE := Lib.hid hse
  have HR := Lib.hid hr
  have HLN := Lib.hid hln
  have KE := Lib.hid KEi
  have KD := Lib.hid KD0
  clear hrd hm hE hl hp hse hr hln KEi KD0
  rcases Lab.eight_cases (encZ l) with ⟨ha, he⟩ | ⟨ha, he⟩
  · have R := Lib.hid (show p = 4 by rw [HP.out, if_pos ha])
    have K := KE.out
    rw [he] at K
    have K := Lib.hid K
    clear ha he
    go_enter Tryz.func50, Tryz.ntmps50
    go_wp2_with fail
    refine KR.out.mono ?_
    rintro e w2 ⟨A, c, rfl, -, hb2⟩
    have B2 := Lib.hid hb2
    clear hb2
    go_wp2_with fail
    refine (KF.out w2).mono ?_
    rintro e w3 ⟨rfl, hb3⟩
    have B3 := Lib.hid (below_then B2.out hb3)
    clear hb3
    go_wp2_with fail
    refine (K.out w3).mono ?_
    rintro e w4 ⟨rfl, rfl⟩
    go_wp2
    go_ret
    exact ⟨by rw [R.out]; rfl, B3.out⟩
  · obtain ⟨ei, hei⟩ : ∃ ei, eightOf (encZ l) = ei := ⟨_, rfl⟩
    have K := KE.out
    rw [hei] at K he
    have K := Lib.hid K
    have HP1 := Lib.hid (show p = if Lab.nfc l ≠ l then 4 else if Lab.dashed (encZ l) then 11 else if catOf l[0]! = 4 then 10 else if Lab.badAt l then 8 else if Bidi.has l && !Bidi.rule l then 9 else if 59 < (Puny.encB l).length then 5 else 0 by rw [HP.out, if_neg (by rw [ha]; decide)])
    have hne : 0 < l.length := by
      rcases Nat.eq_zero_or_pos l.length with h0 | h0
      · rw [List.eq_nil_of_length_eq_zero h0] at ha; cases ha
      · exact h0
    clear ha hei HP
    have hform : formOf false true l = Lab.nfc l := rfl
    rw [hform] at KF
    clear hform
    by_cases hn : Lab.nfc l = l
    case neg =>
      have R := Lib.hid (show p = 4 by rw [HP1.out, if_pos hn])
      have hcmp : (encZ (Lab.nfc l) == s.toList) = false := by
        rw [beq_eq_false_iff_ne, ByteArray.toList_eq, HSE.out]
        intro e
        exact hn (Lab.encZ_inj (form_right false true HR.out) HR.out e)
      generalize encZ (Lab.nfc l) = X at KF hcmp
      have hed : decide (ei < 0) = false := decide_eq_false (by omega)
      clear hn
      go_enter Tryz.func50, Tryz.ntmps50
      go_wp2_with fail
      refine KR.out.mono ?_
      rintro e w2 ⟨A, c, rfl, -, hb2⟩
      have B2 := Lib.hid hb2
      clear hb2
      go_wp2_with fail
      refine (KF.out w2).mono ?_
      rintro e w3 ⟨rfl, hb3⟩
      have B3 := Lib.hid (below_then B2.out hb3)
      clear hb3
      go_wp2_with fail
      refine (K.out w3).mono ?_
      rintro e w4 ⟨rfl, rfl⟩
      go_wp2
      go_ret
      exact ⟨by rw [R.out]; rfl, B3.out⟩
    have HP2 := Lib.hid (show p = if Lab.dashed (encZ l) then 11 else if catOf l[0]! = 4 then 10 else if Lab.badAt l then 8 else if Bidi.has l && !Bidi.rule l then 9 else if 59 < (Puny.encB l).length then 5 else 0 by rw [HP1.out, if_neg (by rw [hn]; exact fun h => h rfl)])
    have hcmp : (encZ (Lab.nfc l) == s.toList) = true := by
      rw [ByteArray.toList_eq, HSE.out, hn]
      exact beq_self_eq_true _
    generalize encZ (Lab.nfc l) = X at KF hcmp
    have hed : decide (ei < 0) = false := decide_eq_false (by omega)
    obtain ⟨d, hd⟩ : ∃ d, d = Lab.dashed (encZ l) := ⟨_, rfl⟩
    have HD := Lib.hid hd
    have KDd := KD.out
    rw [← hd] at KDd
    have KD := Lib.hid KDd
    clear hn HP1 hd KDd
    go_enter Tryz.func50, Tryz.ntmps50
    go_wp2_with fail
    refine KR.out.mono ?_
    rintro e w2 ⟨A, c, rfl, hv2, hb2⟩
    have B2 := Lib.hid hb2
    have V2 := Lib.hid hv2
    clear hb2 hv2
    go_wp2_with fail
    refine (KF.out w2).mono ?_
    rintro e w3 ⟨rfl, hb3⟩
    have B3 := Lib.hid (below_then B2.out hb3)
    have V3 := Lib.hid (V2.out.keep hb3)
    clear hb3
    go_wp2_with fail
    refine (K.out w3).mono ?_
    rintro e w4 ⟨rfl, rfl⟩
    go_wp2_with fail
    refine (KD.out w3).mono ?_
    rintro e w4 ⟨rfl, rfl⟩
    cases d
    case true =>
      have R := Lib.hid (show p = 11 by rw [HP2.out, ← HD.out, if_pos rfl])
      go_wp2
      go_ret
      exact ⟨by rw [R.out]; rfl, B3.out⟩
    have HP3 := Lib.hid (show p = if catOf l[0]! = 4 then 10 else if Lab.badAt l then 8 else if Bidi.has l && !Bidi.rule l then 9 else if 59 < (Puny.encB l).length then 5 else 0 by rw [HP2.out, ← HD.out, if_neg (by decide)])
    clear HP2 HD KD K hcmp hed KF
    obtain ⟨A', c', e', -, hx⟩ := V3.out.form
    injection e' with e1 e2 e3
    subst e1 e3
    obtain ⟨ad, rfl, hb, hcell⟩ := hx 0 hne
    rw [show ad.add 0 = ad by unfold Addr.add; rw [if_pos rfl]] at hcell
    obtain ⟨x, hxe⟩ : ∃ x, x = l[0]! := ⟨_, rfl⟩
    rw [← hxe] at hcell
    have KC := refCat_any x w3
    obtain ⟨ca, hca⟩ : ∃ ca, ca = catOf x := ⟨_, rfl⟩
    rw [← hca] at KC
    have HCA := Lib.hid (show ca = catOf l[0]! by rw [← hxe]; exact hca)
    have KC := Lib.hid KC
    have HX := Lib.hid hx
    have hnz : (0 : Int) < (l.length : Int) := by omega
    clear hx hxe hca
    by_cases h4 : ca = 4
    · have R := Lib.hid (show p = 10 by rw [HP3.out, if_pos (HCA.out.symm.trans h4)])
      subst h4
      go_wp2_with fail
      refine KC.out.mono ?_
      rintro e w5 ⟨rfl, hb5⟩
      have B5 := Lib.hid (below_then B3.out hb5)
      clear hb5 hcell
      go_wp2
      go_ret
      exact ⟨by rw [R.out]; rfl, B5.out⟩
    have HP4 := Lib.hid (show p = if Lab.badAt l then 8 else if Bidi.has l && !Bidi.rule l then 9 else if 59 < (Puny.encB l).length then 5 else 0 by rw [HP3.out, if_neg (fun e => h4 (HCA.out.trans e))])
    have e4 : (ca == 4) = false := by simpa using h4
    clear h4 HP3 HCA
    go_wp2_with fail
    refine KC.out.mono ?_
    rintro e w5 ⟨rfl, hb5⟩
    have B5 := Lib.hid (below_then B3.out hb5)
    have V5 := Lib.hid (V3.out.keep hb5)
    have HX5 : Hid (∀ k, k < l.length → ad.block < w5.heap.size ∧ w5.cell? (ad.add k) = some (.int .i32 l[k]!)) := Lib.hid (fun k hk => by
      obtain ⟨ad', e, hb', hc'⟩ := HX.out k hk
      obtain rfl : ad = ad' := by injection e
      exact ⟨Nat.lt_of_lt_of_le hb' hb5.size, (hb5.cell (by rw [add_block]; exact hb')).trans hc'⟩)
    clear hb5 hcell HX
    go_wp2
    go_loopg [7, 8, 9] (l.length + 1) (fun gk i _ _ wr => ∃ k : Nat, k ≤ l.length ∧ i = .int .i64 k ∧ l.length - k < gk ∧ Hid (Fine l k ∧ Below w5.heap.size w5 wr))
    case atStart => exact ⟨0, Nat.zero_le _, rfl, by omega, ⟨fun j hj => absurd hj (Nat.not_lt_zero _), Below.refl _ _⟩⟩
    case round =>
      obtain ⟨k, hk, rfl, hg, I⟩ := hrel
      have BW := Lib.hid (below_then B5.out I.out.2)
      have VW := Lib.hid (V5.out.keep I.out.2)
      by_cases hlt : k < l.length
      · have hcell := (I.out.2.cell (by rw [add_block]; exact (HX5.out k hlt).1)).trans (HX5.out k hlt).2
        have KN := need7_any _ l k wr VW.out (by omega)
        have hfew := need_few l k hlt
        have hbad := fun h => bad_yes hlt h
        have hgood : ¬ (Ctx.need l (k : Nat) = 2 ∨ (Ctx.need l (k : Nat) = 0 ∧ Lab.charOk l[k]! = false)) → Fine l (k + 1) := fun h j hj => by
          by_cases e : j = k
          · subst e; exact h
          · exact I.out.1 j (by omega)
        have KC := fun W => char8_any l[k]! W
        generalize l[k]! = x at hcell hbad hgood KC
        generalize Ctx.need l (k : Nat) = nd at KN hfew hbad hgood
        generalize Lab.charOk x = ok at hbad hgood KC
        have KN := Lib.hid KN
        have KC := Lib.hid KC
        have HBAD := Lib.hid hbad
        have HGOOD := Lib.hid hgood
        have hkz : (k : Int) < (l.length : Int) := by omega
        clear hbad hgood
        have hstep : (nd = 2 ∨ (nd = 0 ∧ ok = false)) ∨ (nd = 1 ∨ (nd = 0 ∧ ok = true)) := by
          rcases hfew with h | h | h <;> cases ok <;> simp [h]
        clear hfew
        rcases hstep with (h | ⟨h, h'⟩) | (h | ⟨h, h'⟩)
        · have R := Lib.hid (show p = 8 by rw [HP4.out, if_pos (HBAD.out (.inl h))])
          subst h
          go_wp2_with fail
          refine KN.out.mono ?_
          rintro e w6 ⟨rfl, hb6⟩
          have B6 := Lib.hid (below_then BW.out hb6)
          have hcell6 := (hb6.cell (p := ad.add k) (by rw [add_block]; exact Nat.lt_of_lt_of_le (HX5.out k hlt).1 I.out.2.size)).trans hcell
          clear hb6 hcell
          go_wp2_with fail
          refine (KC.out w6).mono ?_
          rintro e w7 ⟨rfl, hb7⟩
          have B7 := Lib.hid (below_then B6.out hb7)
          clear hb7 hcell6
          go_wp2
          go_ret
          exact ⟨by rw [R.out]; rfl, B7.out⟩
        · have R := Lib.hid (show p = 8 by rw [HP4.out, if_pos (HBAD.out (.inr ⟨h, h'⟩))])
          subst h h'
          go_wp2_with fail
          refine KN.out.mono ?_
          rintro e w6 ⟨rfl, hb6⟩
          have B6 := Lib.hid (below_then BW.out hb6)
          have hcell6 := (hb6.cell (p := ad.add k) (by rw [add_block]; exact Nat.lt_of_lt_of_le (HX5.out k hlt).1 I.out.2.size)).trans hcell
          clear hb6 hcell
          go_wp2_with fail
          refine (KC.out w6).mono ?_
          rintro e w7 ⟨rfl, hb7⟩
          have B7 := Lib.hid (below_then B6.out hb7)
          clear hb7 hcell6
          go_wp2
          go_ret
          exact ⟨by rw [R.out]; rfl, B7.out⟩
        · have I2 := Lib.hid (HGOOD.out (by omega))
          subst h
          go_wp2_with fail
          refine KN.out.mono ?_
          rintro e w6 ⟨rfl, hb6⟩
          have B6 := Lib.hid (I.out.2.trans (hb6.mono I.out.2.size))
          have hcell6 := (hb6.cell (p := ad.add k) (by rw [add_block]; exact Nat.lt_of_lt_of_le (HX5.out k hlt).1 I.out.2.size)).trans hcell
          clear hb6 hcell
          go_wp2_with fail
          refine (KC.out w6).mono ?_
          rintro e w7 ⟨rfl, hb7⟩
          have B7 := Lib.hid (B6.out.trans (hb7.mono B6.out.size))
          clear hb7 hcell6
          go_wp2
          go_roundg (l.length - k)
          case measure => omega
          case rel => exact ⟨k + 1, by omega, by go_num, by omega, ⟨I2.out, B7.out⟩⟩
        · have I2 := Lib.hid (HGOOD.out (by rw [h, h']; decide))
          subst h h'
          go_wp2_with fail
          refine KN.out.mono ?_
          rintro e w6 ⟨rfl, hb6⟩
          have B6 := Lib.hid (I.out.2.trans (hb6.mono I.out.2.size))
          have hcell6 := (hb6.cell (p := ad.add k) (by rw [add_block]; exact Nat.lt_of_lt_of_le (HX5.out k hlt).1 I.out.2.size)).trans hcell
          clear hb6 hcell
          go_wp2_with fail
          refine (KC.out w6).mono ?_
          rintro e w7 ⟨rfl, hb7⟩
          have B7 := Lib.hid (B6.out.trans (hb7.mono B6.out.size))
          clear hb7 hcell6
          go_wp2
          go_roundg (l.length - k)
          case measure => omega
          case rel => exact ⟨k + 1, by omega, by go_num, by omega, ⟨I2.out, B7.out⟩⟩
      · obtain rfl : k = l.length := by omega
        have HP5 := Lib.hid (show p = if Bidi.has l && !Bidi.rule l then 9 else if 59 < (Puny.encB l).length then 5 else 0 by rw [HP4.out, if_neg (by rw [bad_no I.out.1]; decide)])
        have hkz : ¬ (l.length : Int) < (l.length : Int) := by omega
        have KH := has6_any _ l wr VW.out (by omega)
        have KU := fun W (h : Below wr.heap.size wr W) => rule6_any _ l W (VW.out.keep h) (by omega)
        have KP := fun W (h : Below wr.heap.size wr W) => encode5_yes _ l W (VW.out.keep h) hml HR.out
        obtain ⟨has, hhas⟩ : ∃ x, x = Bidi.has l := ⟨_, rfl⟩
        obtain ⟨rule, hrule⟩ : ∃ x, x = Bidi.rule l := ⟨_, rfl⟩
        obtain ⟨bs, hbs⟩ : ∃ x, x = Puny.encB l := ⟨_, rfl⟩
        have hp6 := HP5.out
        rw [← hhas, ← hrule, ← hbs] at hp6
        rw [← hhas] at KH
        rw [← hrule] at KU
        rw [← hbs] at KP
        have HP6 := Lib.hid hp6
        have KH := Lib.hid KH
        have KU := Lib.hid KU
        have KP := Lib.hid KP
        clear hp6 hhas hrule hbs HP5 HP4
        go_wp2_with fail
        refine KH.out.mono ?_
        rintro e w6 ⟨rfl, hb6⟩
        have C6 := Lib.hid hb6
        clear hb6
        go_wp2_with fail
        refine (KU.out w6 C6.out).mono ?_
        rintro e w7 ⟨rfl, hb7⟩
        have C7 := Lib.hid (below_then C6.out hb7)
        clear hb7
        have hcs : (has = true ∧ rule = false) ∨ (((has = false ∧ rule = false) ∨ (has = false ∧ rule = true) ∨ (has = true ∧ rule = true)) ∧ (has && !rule) = false) := by cases has <;> cases rule <;> simp
        rcases hcs with ⟨rfl, rfl⟩ | ⟨hcs, hcf⟩
        · have R := Lib.hid (show p = 9 by rw [HP6.out]; rfl)
          go_wp2
          go_ret
          exact ⟨by rw [R.out]; rfl, below_then BW.out C7.out⟩
        · have HP7 := Lib.hid (show p = if 59 < bs.length then 5 else 0 by rw [HP6.out, hcf]; rfl)
          clear HP6 hcf
          by_cases h59 : 59 < bs.length
          · have R := Lib.hid (show p = 5 by rw [HP7.out, if_pos h59])
            have h59z : (59 : Int) < (bs.length : Int) := by omega
            rcases hcs with ⟨rfl, rfl⟩ | ⟨rfl, rfl⟩ | ⟨rfl, rfl⟩
            all_goals
              go_wp2_with fail
              refine (KP.out w7 C7.out).mono ?_
              rintro e w8 ⟨rfl, hb8⟩
              have C8 := Lib.hid (below_then C7.out hb8)
              clear hb8
              go_wp2
              go_ret
              exact ⟨by rw [R.out]; rfl, below_then BW.out C8.out⟩
          · have R := Lib.hid (show p = 0 by rw [HP7.out, if_neg h59])
            have h59z : (bs.length : Int) ≤ 59 := by omega
            rcases hcs with ⟨rfl, rfl⟩ | ⟨rfl, rfl⟩ | ⟨rfl, rfl⟩
            all_goals
              go_wp2_with fail
              refine (KP.out w7 C7.out).mono ?_
              rintro e w8 ⟨rfl, hb8⟩
              have C8 := Lib.hid (below_then C7.out hb8)
              clear hb8
              go_wp2
              go_ret
              exact ⟨by rw [R.out]; rfl, below_then BW.out C8.out⟩
end Go.Proofs.YtbmgkfnoknomdaaGreat
