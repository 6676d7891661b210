/-
  Proved here: the program's six functions of layer 8. Conditions: what can be asked of ('LabFits', 'WideFits').
-/
import Derived.Test.YtbmgkfnoknomdaaGreatLabAces
namespace Go.Proofs.YtbmgkfnoknomdaaGreat
open Go.RowKit Utf
/-- What is folded, and not all ASCII, comes to. -/
def wfE (bs : List UInt8) : Int × List UInt8 × List UInt8 := if Lab.wideE bs = 0 then (0, Lab.sign ++ codeE bs, bs) else (Lab.wideE bs, [], [])
theorem sign_app (c : List UInt8) : (⟨#[120, 110, 45, 45]⟩ : ByteArray) ++ (⟨c.toArray⟩ : ByteArray) = ⟨(Lab.sign ++ c).toArray⟩ := by
  apply ByteArray.ext
  rw [ByteArray.data_append]
  simp [Lab.sign]
set_option maxHeartbeats 2000000 in
set_option maxRecDepth 100000 in
theorem wideForms_any (t : Value) (F : ByteArray) (w : World) (hT : Table w t) (hF : WideFits F) :
    Calls Tryz.prog 54 #[t, .string F] w fun e w' => e = .returned (.tuple #[.string ⟨(wfE F.data.toList).2.1.toArray⟩, .string ⟨(wfE F.data.toList).2.2.toArray⟩, .int .i64 (wfE F.data.toList).1]) ∧ Below w.heap.size w w' := by
  have K := fun W (h : Below w.heap.size w W) => encode_any t F W (hT.below h) hF
  obtain ⟨P, hP⟩ : ∃ P, P = wfE F.data.toList := ⟨_, rfl⟩
  rw [← hP]
  unfold wfE at hP
  have hsh : Lab.wideE F.data.toList = 0 → (codeE F.data.toList).length ≤ 59 := fun h => by
    unfold codeE
    rw [if_pos h]
    unfold Lab.wideE at h
    split at h
    · exact (Lab.right_of h).short
    · exact absurd h (by decide)
  generalize Lab.wideE F.data.toList = x at K hP hsh
  generalize codeE F.data.toList = c at K hP hsh
  have K := Lib.hid K
  have HP := Lib.hid hP
  obtain ⟨b0, b1, b2, b3, rfl, -, -, -, -⟩ := hT
  clear hF hP
  by_cases h0 : x = 0
  · subst h0
    have R := Lib.hid (show P = (0, Lab.sign ++ c, F.data.toList) by rw [HP.out, if_pos rfl])
    have hsh := hsh rfl
    go_enter Tryz.func54, Tryz.ntmps54
    go_wp2_with fail
    refine (K.out _ (below_one _ _)).mono ?_
    rintro e w2 ⟨rfl, hb2⟩
    have BX := Lib.hid (boxT hb2)
    clear hb2
    go_wp2
    go_ret3
    exact ⟨by rw [R.out]; show Ending.returned (.tuple #[.string ((⟨#[120, 110, 45, 45]⟩ : ByteArray) ++ (⟨c.toArray⟩ : ByteArray)), .string F, .int .i64 0]) = _; rw [sign_app], BX.out.1⟩
  · have R := Lib.hid (show P = (x, [], []) by rw [HP.out, if_neg h0])
    have hx0 : (x == 0) = false := by rw [beq_eq_false_iff_ne]; exact h0
    clear h0
    go_enter Tryz.func54, Tryz.ntmps54
    go_wp2_with fail
    refine (K.out _ (below_one _ _)).mono ?_
    rintro e w2 ⟨rfl, hb2⟩
    have BX := Lib.hid (boxT hb2)
    clear hb2
    go_wp2
    go_ret3
    exact ⟨by rw [R.out]; rfl, BX.out.1⟩
/-- Folded ASCII has small letters alone. -/
theorem sign_small {L : List Int} (hr : rightsZ L = true) (hf : Fold.fold L = L) (ha : Lab.ascii (encZ L) = true) : (((encZ L).take 4).map smallB == Lab.sign) = decide ((encZ L).take 4 = Lab.sign) := by
  have hs := Lab.ascii_iff.1 ha
  have hc : Lab.chars (encZ L) = L := Lab.encZ_inj (Lab.chars_right hs) hr (enc_bytes _ hs)
  have hA : Norm.ascii L := by
    intro c hc'
    rw [← hc] at hc'
    obtain ⟨b, hb, rfl⟩ := List.mem_map.1 hc'
    have := hs b hb
    omega
  rw [Norm.ascii_fold_is hA] at hf
  have hx : ∀ b ∈ encZ L, smallB b = b := by
    intro b hb
    have hm : (b.toNat : Int) ∈ L := by rw [← hc]; exact List.mem_map.2 ⟨b, hb, rfl⟩
    obtain ⟨i, hi, he⟩ := List.getElem_of_mem hm
    have h2 := congrArg (fun l : List Int => l[i]?) hf
    simp only [List.getElem?_map, List.getElem?_eq_getElem hi, Option.map_some, Option.some.injEq] at h2
    rw [he] at h2
    have h3 : ¬ (65 ≤ b.toNat ∧ b.toNat ≤ 90) := by
      intro h
      rw [if_pos (by omega)] at h2
      omega
    unfold smallB
    rw [if_neg h3]
  have hmap : ((encZ L).take 4).map smallB = (encZ L).take 4 := by
    rw [List.map_congr_left (g := id) (fun b hb => hx b (List.mem_of_mem_take hb)), List.map_id]
  rw [hmap, Bool.eq_iff_iff, beq_iff_eq, decide_eq_true_eq]
set_option maxHeartbeats 8000000 in
set_option maxRecDepth 100000 in
theorem forms_any (t : Value) (s : ByteArray) (w : World) (hT : Table w t) (hs : LabFits s) :
    Calls Tryz.prog 33 #[t, .string s] w fun e w' => e = .returned (.tuple #[.string ⟨(Lab.bothE s.data.toList).2.1.toArray⟩, .string ⟨(Lab.bothE s.data.toList).2.2.toArray⟩, .int .i64 (Lab.bothE s.data.toList).1]) ∧ Below w.heap.size w w' := by
  have KF := fun W (h : Below w.heap.size w W) => hs.fold t W (hT.below h)
  obtain ⟨P, hP⟩ : ∃ P, P = Lab.bothE s.data.toList := ⟨_, rfl⟩
  rw [← hP]
  unfold Lab.bothE at hP
  have hT0 := hT
  by_cases hz : (rdOf s.data.toList).2 = -1
  case neg =>
    rw [if_neg hz] at KF hP
    rw [decide_eq_false hz] at KF
    have KF := Lib.hid KF
    have R := Lib.hid hP
    obtain ⟨b0, b1, b2, b3, rfl, -, -, -, -⟩ := hT0
    clear hP hz hs
    go_enter Tryz.func33, Tryz.ntmps33
    go_wp2_with fail
    refine (KF.out _ (below_one _ _)).mono ?_
    rintro e w2 ⟨rfl, hb2⟩
    have BX := Lib.hid (boxT hb2)
    clear hb2
    go_wp2
    go_ret3
    exact ⟨by rw [R.out]; rfl, BX.out.1⟩
  rw [if_pos hz] at KF hP
  rw [decide_eq_true hz] at KF
  obtain ⟨hr0, -⟩ := Lab.rd_is hz
  have hlen : (Fold.fold (ints (rdOf s.data.toList).1)).length ≤ 420 := (hs.2 (rdOf s.data.toList).1 (by rw [← hz])).2
  have hr := fold_right hr0
  have hff := Fold.fold_fold (ints (rdOf s.data.toList).1)
  obtain ⟨L, hL⟩ : ∃ L, Fold.fold (ints (rdOf s.data.toList).1) = L := ⟨_, rfl⟩
  rw [hL] at KF hP hlen hr hff
  have hel := encZ_len L
  have hsg := sign_small hr hff
  have hwide := wide_enc' hr hlen
  have hwl := Lab.wideE_enc hr
  have hcl := code_enc hr
  have hal : Lab.ascii (encZ L) = true → (encZ L).length = L.length := fun ha => by
    have hs := Lab.ascii_iff.1 ha
    have hc : Lab.chars (encZ L) = L := Lab.encZ_inj (Lab.chars_right hs) hr (enc_bytes _ hs)
    have := congrArg List.length hc
    rw [← this]
    unfold Lab.chars
    rw [List.length_map]
  unfold Lab.bothL at hP
  obtain ⟨X, hX⟩ : ∃ X, encZ L = X := ⟨_, rfl⟩
  rw [hX] at KF hP hel hsg hwide hwl hcl hal
  have KE := fun W => eight_any ⟨X.toArray⟩ W (by rw [size_of]; omega)
  have KW := fun W (h : Below w.heap.size w W) => wideForms_any t ⟨X.toArray⟩ W (hT.below h) hwide
  have KS := fun W => hasSign_any ⟨X.toArray⟩ W (by rw [size_of]; omega)
  have KP := fun W => plainL_any ⟨X.toArray⟩ W (by rw [size_of]; omega)
  change ∀ W, Calls _ _ _ W fun e w' => e = .returned (.int .i64 (eightOf X)) ∧ W = w' at KE
  change ∀ W, Calls _ _ _ W fun e w' => e = .returned (.bool ((X.take 4).map smallB == Lab.sign)) ∧ Below W.heap.size W w' at KS
  change ∀ W, Calls _ _ _ W fun e w' => e = .returned (.int .i64 (Lab.plainE X)) ∧ Below W.heap.size W w' at KP
  have HP := Lib.hid hP
  have KF := Lib.hid KF
  have KE0 := Lib.hid KE
  have KW := Lib.hid KW
  have KS0 := Lib.hid KS
  have KP0 := Lib.hid KP
  have HT := Lib.hid hT
  obtain ⟨b0, b1, b2, b3, rfl, -, -, -, -⟩ := hT0
  clear hP KE KS KP hz hs hT
  rcases Lab.eight_cases X with ⟨ha, he⟩ | ⟨ha, he⟩
  case inr =>
    have R := Lib.hid (show P = wfE X by
      rw [HP.out, if_pos ha]
      unfold wfE
      rw [hwl, hcl]
      by_cases h : Lab.wideL L = 0
      · rw [if_pos h, if_pos h, if_pos h]
      · rw [if_neg h, if_neg h])
    have KE := KE0.out
    generalize eightOf X = ei at KE he
    have KE := Lib.hid KE
    clear ha hr hff hel hsg hwide hwl hcl hal hlen hX hL HP
    go_enter Tryz.func33, Tryz.ntmps33
    go_wp2_with fail
    refine (KF.out _ (below_one _ _)).mono ?_
    rintro e w2 ⟨rfl, hb2⟩
    have BX := Lib.hid (boxT hb2)
    obtain ⟨hS5, d0, d1, d2, d3⟩ := BX.out.2
    clear hb2
    go_wp2_with fail
    refine (KE.out w2).mono ?_
    rintro e w3 ⟨rfl, rfl⟩
    go_wp2_with fail
    refine (KW.out w2 BX.out.1).mono ?_
    rintro e w4 ⟨rfl, hb4⟩
    have B4 := Lib.hid (below_then BX.out.1 hb4)
    clear hb4
    go_wp2
    go_ret3
    exact ⟨by rw [R.out]; rfl, B4.out⟩
  have KE := KE0.out
  rw [he] at KE
  have KE := Lib.hid KE
  have hP1 := HP.out
  rw [if_neg (by rw [ha]; decide)] at hP1
  have hln := hal ha
  have hsg := hsg ha
  by_cases h4 : X.take 4 = Lab.sign
  · have R := Lib.hid (show P = aceE X by
      rw [hP1, if_pos h4]
      rfl)
    have KS := KS0.out
    rw [hsg, decide_eq_true h4] at KS
    have KS := Lib.hid KS
    have h4n : 4 ≤ X.length := by
      have := congrArg List.length h4
      rw [List.length_take] at this
      have : min 4 X.length = 4 := this
      omega
    have KA := Lib.hid (fun W (h : Below w.heap.size w W) => aceForms_any _ ⟨X.toArray⟩ W (HT.out.below h) (by rw [size_of]; omega) (by rw [size_of]; omega))
    clear ha hr hff hel hsg hwide hwl hcl hal hlen hX hL HP hP1 h4 h4n hln he
    go_enter Tryz.func33, Tryz.ntmps33
    go_wp2_with fail
    refine (KF.out _ (below_one _ _)).mono ?_
    rintro e w2 ⟨rfl, hb2⟩
    have BX := Lib.hid (boxT hb2)
    have HD := Lib.hid BX.out.2
    clear hb2
    go_wp2_with fail
    refine (KE.out w2).mono ?_
    rintro e w3 ⟨rfl, rfl⟩
    go_wp2_with fail
    refine (KS.out w2).mono ?_
    rintro e w3 ⟨rfl, hb3⟩
    have B3 := Lib.hid (below_then BX.out.1 hb3)
    obtain ⟨hS5, d0, d1, d2, d3⟩ := HD.out.below hb3
    clear hb3
    go_wp2_with fail
    refine (KA.out w3 B3.out).mono ?_
    rintro e w4 ⟨rfl, hb4⟩
    have B4 := Lib.hid (below_then B3.out hb4)
    clear hb4
    go_wp2
    go_ret3
    exact ⟨by rw [R.out]; rfl, B4.out⟩
  · have KS := KS0.out
    rw [hsg, decide_eq_false h4] at KS
    have KS := Lib.hid KS
    rw [if_neg h4] at hP1
    have KP := KP0.out
    generalize Lab.plainE X = pe at KP hP1
    have KP := Lib.hid KP
    have HP1 := Lib.hid hP1
    clear ha hr hff hel hsg hwide hwl hcl hal hlen hX hL HP hP1 h4 hln he
    by_cases h0 : pe = 0
    · subst h0
      have R := Lib.hid (show P = (0, X, X) by rw [HP1.out, if_pos rfl])
      go_enter Tryz.func33, Tryz.ntmps33
      go_wp2_with fail
      refine (KF.out _ (below_one _ _)).mono ?_
      rintro e w2 ⟨rfl, hb2⟩
      have BX := Lib.hid (boxT hb2)
      clear hb2
      go_wp2_with fail
      refine (KE.out w2).mono ?_
      rintro e w3 ⟨rfl, rfl⟩
      go_wp2_with fail
      refine (KS.out w2).mono ?_
      rintro e w3 ⟨rfl, hb3⟩
      have B3 := Lib.hid (below_then BX.out.1 hb3)
      clear hb3
      go_wp2_with fail
      refine (KP.out w3).mono ?_
      rintro e w4 ⟨rfl, hb4⟩
      have B4 := Lib.hid (below_then B3.out hb4)
      clear hb4
      go_wp2
      go_ret3
      exact ⟨by rw [R.out]; rfl, B4.out⟩
    · have R := Lib.hid (show P = (pe, [], []) by rw [HP1.out, if_neg h0])
      have hx0 : (pe == 0) = false := by rw [beq_eq_false_iff_ne]; exact h0
      clear h0
      go_enter Tryz.func33, Tryz.ntmps33
      go_wp2_with fail
      refine (KF.out _ (below_one _ _)).mono ?_
      rintro e w2 ⟨rfl, hb2⟩
      have BX := Lib.hid (boxT hb2)
      clear hb2
      go_wp2_with fail
      refine (KE.out w2).mono ?_
      rintro e w3 ⟨rfl, rfl⟩
      go_wp2_with fail
      refine (KS.out w2).mono ?_
      rintro e w3 ⟨rfl, hb3⟩
      have B3 := Lib.hid (below_then BX.out.1 hb3)
      clear hb3
      go_wp2_with fail
      refine (KP.out w3).mono ?_
      rintro e w4 ⟨rfl, hb4⟩
      have B4 := Lib.hid (below_then B3.out hb4)
      clear hb4
      go_wp2
      go_ret3
      exact ⟨by rw [R.out]; rfl, B4.out⟩
set_option maxHeartbeats 2000000 in
set_option maxRecDepth 100000 in
theorem asciiL_any (t : Value) (s : ByteArray) (w : World) (hT : Table w t) (hs : LabFits s) : Calls Tryz.prog 20 #[t, .string s] w fun e w' => e = .returned (.tuple #[.string ⟨(Lab.bothE s.data.toList).2.1.toArray⟩, .int .i64 (Lab.bothE s.data.toList).1]) ∧ Below w.heap.size w w' := by
  have K := fun W (h : Below w.heap.size w W) => forms_any t s W (hT.below h) hs
  generalize Lab.bothE s.data.toList = P at K ⊢
  have K := Lib.hid K
  obtain ⟨b0, b1, b2, b3, rfl, -, -, -, -⟩ := hT
  clear hs
  obtain ⟨x, a, u⟩ := P
  go_enter Tryz.func20, Tryz.ntmps20
  go_wp2_with fail
  refine (K.out _ (below_one _ _)).mono ?_
  rintro e w2 ⟨rfl, hb2⟩
  have BX := Lib.hid (boxT hb2)
  clear hb2
  go_wp2
  go_ret2
  exact ⟨rfl, BX.out.1⟩
set_option maxHeartbeats 2000000 in
set_option maxRecDepth 100000 in
theorem uniL_any (t : Value) (s : ByteArray) (w : World) (hT : Table w t) (hs : LabFits s) : Calls Tryz.prog 48 #[t, .string s] w fun e w' => e = .returned (.tuple #[.string ⟨(Lab.bothE s.data.toList).2.2.toArray⟩, .int .i64 (Lab.bothE s.data.toList).1]) ∧ Below w.heap.size w w' := by
  have K := fun W (h : Below w.heap.size w W) => forms_any t s W (hT.below h) hs
  generalize Lab.bothE s.data.toList = P at K ⊢
  have K := Lib.hid K
  obtain ⟨b0, b1, b2, b3, rfl, -, -, -, -⟩ := hT
  clear hs
  obtain ⟨x, a, u⟩ := P
  go_enter Tryz.func48, Tryz.ntmps48
  go_wp2_with fail
  refine (K.out _ (below_one _ _)).mono ?_
  rintro e w2 ⟨rfl, hb2⟩
  have BX := Lib.hid (boxT hb2)
  clear hb2
  go_wp2
  go_ret2
  exact ⟨rfl, BX.out.1⟩
end Go.Proofs.YtbmgkfnoknomdaaGreat
