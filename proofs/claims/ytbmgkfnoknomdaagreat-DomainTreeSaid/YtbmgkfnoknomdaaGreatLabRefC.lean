/-
  Proved here: the document's own Both of layer 8. Conditions: a string of at most 100,000 bytes and, if it is all characters, of at most 420, and as many folded ones.
-/
import Derived.Test.YtbmgkfnoknomdaaGreatLabRefB
import Derived.Test.YtbmgkfnoknomdaaGreatPunyB
import Derived.Test.YtbmgkfnoknomdaaGreatLabFine
namespace Go.Proofs.YtbmgkfnoknomdaaGreat
open Go.RowKit Utf
def BothPost (p : Int × List UInt8 × List UInt8) (w : World) (e : Ending) (w' : World) : Prop :=
  e = .returned (.tuple #[.string ⟨p.2.1.toArray⟩, .string ⟨p.2.2.toArray⟩, .int .i64 p.1]) ∧ Below w.heap.size w w'
theorem head_yes {a : List UInt8} (h : a.take 4 = Lab.sign) : (((⟨a.toArray⟩ : ByteArray).extract 0 4).toList == [120, 110, 45, 45]) = true := by
  rw [ByteArray.toList_eq, ByteArray.data_extract, beq_iff_eq]
  simpa [Lab.sign] using h
theorem head_no {a : List UInt8} (h : a.take 4 ≠ Lab.sign) : (((⟨a.toArray⟩ : ByteArray).extract 0 4).toList == [120, 110, 45, 45]) = false := by
  rw [beq_eq_false_iff_ne, ByteArray.toList_eq, ByteArray.data_extract]
  intro hc
  exact h (by simpa [Lab.sign] using hc)
theorem cat_is (a b : List UInt8) : (⟨a.toArray⟩ : ByteArray) ++ ⟨b.toArray⟩ = ⟨(a ++ b).toArray⟩ := ByteArray.ext (by rw [ByteArray.data_append]; simp)
theorem tail_is (a : List UInt8) : ((⟨a.toArray⟩ : ByteArray).extract 4 a.length).data.toList = a.drop 4 := by
  have := extract_drop ⟨a.toArray⟩ 4
  rwa [size_of] at this
set_option maxHeartbeats 8000000 in
set_option maxRecDepth 100000 in
theorem both8_ref (s : ByteArray) (w : World) (hs : s.size ≤ 100000) (hm : ∀ m, rdOf s.data.toList = (m, -1) → m.length ≤ 420 ∧ (Fold.fold (ints m)).length ≤ 420) :
    Calls Tryz.prog 31 #[.string s] w (BothPost (Lab.bothE s.data.toList) w) := by
  obtain ⟨⟨m, z⟩, hrd⟩ : ∃ p, rdOf s.data.toList = p := ⟨_, rfl⟩
  rcases (rd_cases hrd).2.2 with ⟨rfl, -⟩ | ⟨k, rfl, -, -⟩
  case inr =>
    have hE : Lab.bothE s.data.toList = (7, [], []) := by unfold Lab.bothE; rw [hrd, if_neg (by show ¬ (k : Int) = -1; omega)]
    have KF := fold4_no s w hs hrd
    rw [hE]
    have KF := Lib.hid KF
    clear hE hrd hm
    go_enter Tryz.func31, Tryz.ntmps31
    go_wp2_with fail
    refine KF.out.mono ?_
    rintro e w2 ⟨rfl, hb2⟩
    have B2 := Lib.hid hb2
    clear hb2
    go_wp2
    go_ret3
    exact ⟨rfl, B2.out⟩
  obtain ⟨hml, hfl⟩ := hm m hrd
  have hE : Lab.bothE s.data.toList = Lab.bothL (Fold.fold (ints m)) := by unfold Lab.bothE; rw [hrd, if_pos rfl]
  obtain ⟨hr, -⟩ := Lab.rd_is (s := s.data.toList) (by rw [hrd])
  rw [hrd] at hr
  simp only at hr
  have KF := fun W => fold4_yes s W hs hml hrd
  rw [hE]
  have hR := fold_right hr
  generalize Fold.fold (ints m) = L at KF hfl hR ⊢
  clear hE hrd hm hr hml
  obtain ⟨X, hX⟩ : ∃ X, X = encZ L := ⟨_, rfl⟩
  rw [← hX] at KF
  have hXl : X.length ≤ 1680 := by rw [hX]; have := encZ_len L; omega
  have hrd : rdOf X = (L.map Int.toNat, -1) := by rw [hX]; exact rd_enc hR
  have hXs : (⟨X.toArray⟩ : ByteArray).size = X.length := size_of X
  have KE := fun W => refEight_any ⟨X.toArray⟩ W (by omega)
  have KW := fun W => wide8_ref ⟨X.toArray⟩ W (by omega) (fun m' h => by
    have h' : rdOf X = (m', -1) := h
    rw [hrd] at h'
    injection h' with e1 e2
    rw [← e1, List.length_map]; exact hfl)
  have KP := fun W => plain8_ref ⟨X.toArray⟩ W (by omega)
  have hw : Lab.wideE X = Lab.wideL L := by rw [hX]; exact Lab.wideE_enc hR
  change ∀ W, Calls _ _ _ W fun e w' => e = .returned (.int .i64 (eightOf X)) ∧ W = w' at KE
  change ∀ W, Calls _ _ _ W fun e w' => e = .returned (.int .i64 (Lab.wideE X)) ∧ Below W.heap.size W w' at KW
  change ∀ W, Calls _ _ _ W fun e w' => e = .returned (.int .i64 (Lab.plainE X)) ∧ W = w' at KP
  rw [hw] at KW
  obtain ⟨P, hP⟩ : ∃ P, P = Lab.bothL L := ⟨_, rfl⟩
  rw [← hP]
  unfold Lab.bothL at hP
  rw [← hX] at hP
  have HP := Lib.hid hP
  have KF := Lib.hid KF
  have KE0 := Lib.hid KE
  have KW0 := Lib.hid KW
  have KP0 := Lib.hid KP
  have HX := Lib.hid hX
  have HR := Lib.hid hR
  clear hP KE KW KP hX hw hXs hrd
  have HXL := Lib.hid hXl
  rcases Lab.eight_cases X with ⟨ha, he⟩ | ⟨ha, he⟩
  case inr =>
    obtain ⟨ei, hei⟩ : ∃ ei, eightOf X = ei := ⟨_, rfl⟩
    have KE := KE0.out
    rw [hei] at KE he
    have KE := Lib.hid KE
    have HP1 := Lib.hid (show P = if Lab.wideL L = 0 then (0, Lab.sign ++ Puny.encB L, X) else (Lab.wideL L, [], []) by rw [HP.out, if_pos ha])
    obtain ⟨wl, hwl⟩ : ∃ x, Lab.wideL L = x := ⟨_, rfl⟩
    have KW := KW0.out
    have hp1 := HP1.out
    rw [hwl] at KW hp1
    have KW := Lib.hid KW
    have HP1 := Lib.hid hp1
    have HWL := Lib.hid hwl
    clear ha hei HP hwl hp1
    by_cases h0 : wl = 0
    case neg =>
      have R := Lib.hid (show P = (wl, [], []) by rw [HP1.out, if_neg h0])
      have e0 : (wl == 0) = false := by simpa using h0
      clear h0
      go_enter Tryz.func31, Tryz.ntmps31
      go_wp2_with fail
      refine (KF.out w).mono ?_
      rintro e w2 ⟨rfl, hb2⟩
      have B2 := Lib.hid hb2
      clear hb2
      go_wp2_with fail
      refine (KE.out w2).mono ?_
      rintro e w3 ⟨rfl, rfl⟩
      go_wp2_with fail
      refine (KW.out w2).mono ?_
      rintro e w4 ⟨rfl, hb4⟩
      have B4 := Lib.hid (below_then B2.out hb4)
      clear hb4
      go_wp2
      go_ret3
      exact ⟨by rw [R.out]; rfl, B4.out⟩
    have R := Lib.hid (show P = (0, Lab.sign ++ Puny.encB L, X) by rw [HP1.out, if_pos h0])
    subst h0
    have hbl := (Lab.right_of HWL.out).short
    have hrd : rdOf X = (L.map Int.toNat, -1) := by rw [HX.out]; exact rd_enc HR.out
    have KR := fun W => refRunes_at ⟨X.toArray⟩ W (by rw [size_of]; omega) (l := L.map Int.toNat) (z := -1) hrd
    have KL : ∀ W, Calls Tryz.prog 28 #[.string ⟨X.toArray⟩] W (RunesL L W) := fun W => (KR W).mono fun e w' ⟨A, c, h1, h2, h3⟩ => ⟨A, c, by rw [h1, List.length_map], by rw [List.length_map, (ints_back HR.out).1] at h2; exact h2, h3⟩
    have KP := fun v W (h : Runes v L W) => encode5_yes v L W h hfl HR.out
    obtain ⟨bs, hbs⟩ : ∃ bs, Puny.encB L = bs := ⟨_, rfl⟩
    have r := R.out
    rw [hbs] at KP r hbl
    have R := Lib.hid r
    have KL := Lib.hid KL
    have KP := Lib.hid KP
    clear hrd KR r hbs HP1
    go_enter Tryz.func31, Tryz.ntmps31
    go_wp2_with fail
    refine (KF.out w).mono ?_
    rintro e w2 ⟨rfl, hb2⟩
    have B2 := Lib.hid hb2
    clear hb2
    go_wp2_with fail
    refine (KE.out w2).mono ?_
    rintro e w3 ⟨rfl, rfl⟩
    go_wp2_with fail
    refine (KW.out w2).mono ?_
    rintro e w4 ⟨rfl, hb4⟩
    have B4 := Lib.hid (below_then B2.out hb4)
    clear hb4
    go_wp2_with fail
    refine (KL.out w4).mono ?_
    rintro e w5 ⟨A, c, rfl, hv5, hb5⟩
    have V5 := Lib.hid hv5
    have B5 := Lib.hid (below_then B4.out hb5)
    clear hb5 hv5
    go_wp2_with fail
    refine (KP.out _ w5 V5.out).mono ?_
    rintro e w6 ⟨rfl, hb6⟩
    have B6 := Lib.hid (below_then B5.out hb6)
    clear hb6
    go_wp2
    go_ret3
    refine ⟨?_, B6.out⟩
    rw [R.out]
    show Ending.returned _ = Ending.returned (.tuple #[.string ⟨(Lab.sign ++ bs).toArray⟩, .string ⟨X.toArray⟩, .int .i64 0])
    rw [← cat_is]
    rfl
  have KE := KE0.out
  rw [he] at KE
  have KE := Lib.hid KE
  have hx4 : X.length = L.length := by
    have := Lab.ascii_iff.1 ha
    rw [HX.out] at this
    have h2 : Lab.chars (encZ L) = L := Lab.encZ_inj (Lab.chars_right this) HR.out (enc_bytes _ this)
    have h3 := congrArg List.length h2
    unfold Lab.chars at h3
    rw [List.length_map] at h3
    rw [HX.out]
    exact h3
  have hXl : X.length ≤ 420 := by omega
  by_cases h4 : X.take 4 = Lab.sign
  case neg =>
    obtain ⟨pl, hpl⟩ : ∃ x, Lab.plainE X = x := ⟨_, rfl⟩
    have hp1 : P = if pl = 0 then (0, X, X) else (pl, [], []) := by rw [HP.out, if_neg (by rw [ha]; decide), if_neg h4, hpl]
    have KP := KP0.out
    rw [hpl] at KP
    have KP := Lib.hid KP
    have hhd := head_no h4
    have hcs : (X.length : Int) < 4 ∨ 4 ≤ (X.length : Int) := by omega
    by_cases h0 : pl = 0
    · have R := Lib.hid (show P = (0, X, X) by rw [hp1, if_pos h0])
      subst h0
      clear hp1 hpl h4 ha hx4 HP
      rcases hcs with hc | hc
      all_goals
        go_enter Tryz.func31, Tryz.ntmps31
        go_wp2_with fail
        refine (KF.out w).mono ?_
        rintro e w2 ⟨rfl, hb2⟩
        have B2 := Lib.hid hb2
        clear hb2
        go_wp2_with fail
        refine (KE.out w2).mono ?_
        rintro e w3 ⟨rfl, rfl⟩
        go_wp2_with fail
        refine (KP.out w2).mono ?_
        rintro e w3 ⟨rfl, rfl⟩
        go_wp2
        go_ret3
        exact ⟨by rw [R.out]; rfl, B2.out⟩
    · have R := Lib.hid (show P = (pl, [], []) by rw [hp1, if_neg h0])
      have e0 : (pl == 0) = false := by simpa using h0
      clear hp1 hpl h4 ha hx4 HP h0
      rcases hcs with hc | hc
      all_goals
        go_enter Tryz.func31, Tryz.ntmps31
        go_wp2_with fail
        refine (KF.out w).mono ?_
        rintro e w2 ⟨rfl, hb2⟩
        have B2 := Lib.hid hb2
        clear hb2
        go_wp2_with fail
        refine (KE.out w2).mono ?_
        rintro e w3 ⟨rfl, rfl⟩
        go_wp2_with fail
        refine (KP.out w2).mono ?_
        rintro e w3 ⟨rfl, rfl⟩
        go_wp2
        go_ret3
        exact ⟨by rw [R.out]; rfl, B2.out⟩
  have hc4 : 4 ≤ (X.length : Int) := by
    have := congrArg List.length h4
    rw [List.length_take] at this
    have : min 4 X.length = 4 := this
    omega
  have hhd := head_yes h4
  have hp1 : P = match Puny.decB (X.drop 4) with
    | none => (12, [], [])
    | some l => if 63 < X.length then (5, [], []) else if Lab.wideL l ≠ 0 then (Lab.wideL l, [], []) else if Puny.encB l ≠ X.drop 4 then (12, [], []) else (0, X, encZ l) := by
    rw [HP.out, if_neg (by rw [ha]; decide), if_pos h4]
    cases Puny.decB (X.drop 4) <;> rfl
  have hts : ((⟨X.toArray⟩ : ByteArray).extract 4 X.length).size ≤ 1000 := by simp; omega
  have KD := fun W => decode5_any ((⟨X.toArray⟩ : ByteArray).extract 4 X.length) W hts
  rw [tail_is] at KD
  clear h4 ha hx4 HP KW0 KP0 hts
  cases hdec : Puny.decB (X.drop 4) with
  | none =>
    rw [hdec] at hp1 KD
    have R := Lib.hid (show P = (12, [], []) from hp1)
    have KD := Lib.hid KD
    clear hp1 hdec
    go_enter Tryz.func31, Tryz.ntmps31
    go_wp2_with fail
    refine (KF.out w).mono ?_
    rintro e w2 ⟨rfl, hb2⟩
    have B2 := Lib.hid hb2
    clear hb2
    go_wp2_with fail
    refine (KE.out w2).mono ?_
    rintro e w3 ⟨rfl, rfl⟩
    go_wp2_with fail
    refine (KD.out w2).mono ?_
    rintro e w3 ⟨A, c, rfl, -, hb3⟩
    have B3 := Lib.hid (below_then B2.out hb3)
    clear hb3
    go_wp2
    go_ret3
    exact ⟨by rw [R.out]; rfl, B3.out⟩
  | some l =>
    rw [hdec] at hp1 KD
    simp only at hp1
    obtain ⟨hrl, -, hll⟩ := Puny.enc_dec hdec
    rw [List.length_drop] at hll
    have KD := Lib.hid KD
    have HP1 := Lib.hid hp1
    have HRL := Lib.hid hrl
    clear hp1 hdec
    by_cases h63 : 63 < X.length
    · have R := Lib.hid (show P = (5, [], []) by rw [HP1.out, if_pos h63])
      have h63z : (63 : Int) < (X.length : Int) := by omega
      clear h63 HP1
      go_enter Tryz.func31, Tryz.ntmps31
      go_wp2_with fail
      refine (KF.out w).mono ?_
      rintro e w2 ⟨rfl, hb2⟩
      have B2 := Lib.hid hb2
      clear hb2
      go_wp2_with fail
      refine (KE.out w2).mono ?_
      rintro e w3 ⟨rfl, rfl⟩
      go_wp2_with fail
      refine (KD.out w2).mono ?_
      rintro e w3 ⟨A, c, rfl, -, hb3⟩
      have B3 := Lib.hid (below_then B2.out hb3)
      clear hb3
      go_wp2
      go_ret3
      exact ⟨by rw [R.out]; rfl, B3.out⟩
    have h63z : (X.length : Int) ≤ 63 := by omega
    have HP2 := Lib.hid (show P = if Lab.wideL l ≠ 0 then (Lab.wideL l, [], []) else if Puny.encB l ≠ X.drop 4 then (12, [], []) else (0, X, encZ l) by rw [HP1.out, if_neg h63])
    have hln : l.length ≤ 63 := by omega
    have hel := encZ_len l
    have KS := fun v W (h : Runes v l W) => refString_at v l W h (by omega) (bs := encZ l) (ok := true) hrl (strB_right hrl)
    have KW := fun W => wide8_ref ⟨(encZ l).toArray⟩ W (by rw [size_of]; omega) (fun m' h => by
      have h' : rdOf (encZ l) = (m', -1) := h
      rw [rd_enc hrl] at h'
      injection h' with e1 e2
      rw [← e1, List.length_map]; omega)
    have hw : Lab.wideE (encZ l) = Lab.wideL l := Lab.wideE_enc hrl
    change ∀ W, Calls _ _ _ W fun e w' => e = .returned (.int .i64 (Lab.wideE (encZ l))) ∧ Below W.heap.size W w' at KW
    rw [hw] at KW
    have KP := fun v W (h : Runes v l W) => encode5_yes v l W h (by omega) hrl
    obtain ⟨Y, hY⟩ : ∃ Y, encZ l = Y := ⟨_, rfl⟩
    obtain ⟨wl, hwl⟩ : ∃ x, Lab.wideL l = x := ⟨_, rfl⟩
    obtain ⟨bs, hbs⟩ : ∃ x, Puny.encB l = x := ⟨_, rfl⟩
    have hp2 := HP2.out
    rw [hY] at KS KW hp2
    rw [hwl] at KW hp2
    rw [hbs] at KP hp2
    have KS := Lib.hid KS
    have KW := Lib.hid KW
    have KP := Lib.hid KP
    have HP3 := Lib.hid hp2
    clear hel hw hY hwl hbs hp2 h63 HP1 HP2 hrl
    by_cases h0 : wl = 0
    case neg =>
      have R := Lib.hid (show P = (wl, [], []) by rw [HP3.out, if_pos h0])
      have e0 : (wl == 0) = false := by simpa using h0
      clear h0 HP3
      go_enter Tryz.func31, Tryz.ntmps31
      go_wp2_with fail
      refine (KF.out w).mono ?_
      rintro e w2 ⟨rfl, hb2⟩
      have B2 := Lib.hid hb2
      clear hb2
      go_wp2_with fail
      refine (KE.out w2).mono ?_
      rintro e w3 ⟨rfl, rfl⟩
      go_wp2_with fail
      refine (KD.out w2).mono ?_
      rintro e w3 ⟨A, c, rfl, hv3, hb3⟩
      have V3 := Lib.hid hv3
      have B3 := Lib.hid (below_then B2.out hb3)
      clear hb3 hv3
      go_wp2_with fail
      refine (KS.out _ w3 V3.out).mono ?_
      rintro e w4 ⟨rfl, hb4⟩
      have B4 := Lib.hid (below_then B3.out hb4)
      clear hb4
      go_wp2_with fail
      refine (KW.out w4).mono ?_
      rintro e w5 ⟨rfl, hb5⟩
      have B5 := Lib.hid (below_then B4.out hb5)
      clear hb5
      go_wp2
      go_ret3
      exact ⟨by rw [R.out]; rfl, B5.out⟩
    subst h0
    obtain ⟨T, hT⟩ : ∃ T, (⟨X.toArray⟩ : ByteArray).extract 4 X.length = T := ⟨_, rfl⟩
    have hTl : T.data.toList = X.drop 4 := by rw [← hT]; exact tail_is X
    have hfin : ((bs == T.toList) = false ∧ P = (12, [], [])) ∨ ((bs == T.toList) = true ∧ P = (0, X, Y)) := by
      rw [ByteArray.toList_eq, hTl]
      by_cases hb : bs = X.drop 4
      · exact .inr ⟨by rw [hb]; exact beq_self_eq_true _, by rw [HP3.out, if_neg (by decide), if_neg (by rw [Decidable.not_not]; exact hb)]⟩
      · exact .inl ⟨beq_eq_false_iff_ne.2 hb, by rw [HP3.out, if_neg (by decide), if_pos hb]⟩
    rw [hT] at KD
    clear hTl HP3
    rcases hfin with ⟨hcmp, hP⟩ | ⟨hcmp, hP⟩
    all_goals
      have R := Lib.hid hP
      clear hP
      go_enter Tryz.func31, Tryz.ntmps31
      go_wp2_with fail
      refine (KF.out w).mono ?_
      rintro e w2 ⟨rfl, hb2⟩
      have B2 := Lib.hid hb2
      clear hb2
      go_wp2_with fail
      refine (KE.out w2).mono ?_
      rintro e w3 ⟨rfl, rfl⟩
      go_wp2_with fail
      refine (KD.out w2).mono ?_
      rintro e w3 ⟨A, c, rfl, hv3, hb3⟩
      have V3 := Lib.hid hv3
      have B3 := Lib.hid (below_then B2.out hb3)
      clear hb3 hv3
      go_wp2_with fail
      refine (KS.out _ w3 V3.out).mono ?_
      rintro e w4 ⟨rfl, hb4⟩
      have B4 := Lib.hid (below_then B3.out hb4)
      have V4 := Lib.hid (V3.out.keep hb4)
      clear hb4
      go_wp2_with fail
      refine (KW.out w4).mono ?_
      rintro e w5 ⟨rfl, hb5⟩
      have B5 := Lib.hid (below_then B4.out hb5)
      have V5 := Lib.hid (V4.out.keep hb5)
      clear hb5
      go_wp2_with fail
      refine (KP.out _ w5 V5.out).mono ?_
      rintro e w6 ⟨rfl, hb6⟩
      have B6 := Lib.hid (below_then B5.out hb6)
      clear hb6
      go_wp2
      go_ret3
      exact ⟨by rw [R.out]; rfl, B6.out⟩
end Go.Proofs.YtbmgkfnoknomdaaGreat
