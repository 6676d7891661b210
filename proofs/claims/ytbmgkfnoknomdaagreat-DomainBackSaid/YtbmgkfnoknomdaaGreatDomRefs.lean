/-
  Proved here: the document's own Labels of layer 9. Conditions: a string of at most 100,000 bytes and, if it is all characters, of at most 420, and as many folded ones.
  Proved here: the document's own Both and Down of layer 9. Conditions: a string of at most 100,000 bytes and, if it is all characters, of at most 420, and as many folded ones.
-/
import Derived.Test.YtbmgkfnoknomdaaGreatDomRow
import Derived.Test.YtbmgkfnoknomdaaGreatDomPl
import Derived.Test.YtbmgkfnoknomdaaGreatLabRefC
namespace Go.Proofs.YtbmgkfnoknomdaaGreat
open Go.RowKit Utf
def LabelsPost (p : Int × List (List Int)) (w : World) (e : Ending) (w' : World) : Prop :=
  ∃ v, e = .returned (.tuple #[v, .int .i64 p.1]) ∧ Strs v (p.2.map encZ) w' ∧ Below w.heap.size w w'
theorem labels_err {E : Int} {w w' : World} (hb : Below w.heap.size w w') : LabelsPost (E, []) w (.returned (.tuple #[.slice none 0 0, .int .i64 E])) w' := ⟨_, rfl, Strs.nil _, hb⟩
set_option maxHeartbeats 8000000 in
set_option maxRecDepth 100000 in
theorem labels9_ref (s : ByteArray) (w : World) (hs : s.size ≤ 100000) (hm : ∀ m, rdOf s.data.toList = (m, -1) → m.length ≤ 420 ∧ (Fold.fold (ints m)).length ≤ 420) :
    Calls Tryz.prog 11 #[.string s] w (LabelsPost (Dom.labelsE s.data.toList) w) := by
  obtain ⟨⟨m, z⟩, hrd⟩ : ∃ p, rdOf s.data.toList = p := ⟨_, rfl⟩
  rcases (rd_cases hrd).2.2 with ⟨rfl, -⟩ | ⟨k, rfl, -, -⟩
  case inr =>
    have hE : Dom.labelsE s.data.toList = (7, []) := by unfold Dom.labelsE; rw [hrd, if_neg (by show ¬ (k : Int) = -1; omega)]
    have KF := Lib.hid (fold4_no s w hs hrd)
    rw [hE]
    clear hE hrd hm
    go_enter Tryz.func11, Tryz.ntmps11
    go_wp2_with fail
    refine KF.out.mono ?_
    rintro e w2 ⟨rfl, hb2⟩
    have B2 := Lib.hid hb2
    clear hb2
    go_wp2
    go_ret2
    exact labels_err B2.out
  obtain ⟨hml, hfl⟩ := hm m hrd
  have hE : Dom.labelsE s.data.toList = if Fold.fold (ints m) = [] then (13, []) else if 32 < (Dom.cut (Fold.fold (ints m))).length then (2, []) else (0, Dom.cut (Fold.fold (ints m))) := by unfold Dom.labelsE; rw [hrd, if_pos rfl]
  obtain ⟨hr, -⟩ := Lab.rd_is (s := s.data.toList) (by rw [hrd])
  rw [hrd] at hr
  simp only at hr
  have hF := fun W => fold4_yes s W hs hml hrd
  rw [hE]
  have hR := fold_right hr
  generalize Fold.fold (ints m) = L at hF hfl hR ⊢
  clear hE hrd hm hr hml
  obtain ⟨X, hX⟩ : ∃ X, X = encZ L := ⟨_, rfl⟩
  rw [← hX] at hF
  have hXl : X.length ≤ 1680 := by rw [hX]; have := encZ_len L; omega
  have hrd : rdOf X = (L.map Int.toNat, -1) := by rw [hX]; exact rd_enc hR
  have hKR := fun W => refRunes_at ⟨X.toArray⟩ W (by rw [size_of]; omega) (l := L.map Int.toNat) (z := -1) hrd
  have hKL : ∀ W, Calls Tryz.prog 28 #[.string ⟨X.toArray⟩] W (RunesL L W) := fun W => (hKR W).mono fun e w' ⟨A, c, h1, h2, h3⟩ => ⟨A, c, by rw [h1, List.length_map], by rw [List.length_map, (ints_back hR).1] at h2; exact h2, h3⟩
  have KF := Lib.hid hF
  have KL := Lib.hid hKL
  have HR := Lib.hid hR
  clear hF hKR hKL hrd hR
  obtain ⟨P, hP⟩ : ∃ P, P = (if L = [] then ((13 : Int), ([] : List (List Int))) else if 32 < (Dom.cut L).length then (2, []) else (0, Dom.cut L)) := ⟨_, rfl⟩
  rw [← hP]
  by_cases h0 : L = []
  · have R := Lib.hid (show P = (13, []) by rw [hP, if_pos h0])
    have hXe : X = [] := by rw [hX, h0]; rfl
    subst hXe
    clear hP h0 hX KL hXl
    go_enter Tryz.func11, Tryz.ntmps11
    go_wp2_with fail
    refine (KF.out w).mono ?_
    rintro e w2 ⟨rfl, hb2⟩
    have B2 := Lib.hid hb2
    clear hb2
    go_wp2
    go_ret2
    rw [R.out]
    exact labels_err B2.out
  · have hXe : X.isEmpty = false := by
      rw [List.isEmpty_eq_false_iff, hX]
      intro e
      exact h0 (Lab.encZ_inj HR.out rfl e)
    have HP := Lib.hid (show P = if 32 < (Dom.cut L).length then (2, []) else (0, Dom.cut L) by rw [hP, if_neg h0])
    clear hP h0 hX
    go_enter Tryz.func11, Tryz.ntmps11
    go_wp2_with fail
    refine (KF.out w).mono ?_
    rintro e w2 ⟨rfl, hb2⟩
    have B2 := Lib.hid hb2
    clear hb2
    go_wp2_with fail
    refine (KL.out w2).mono ?_
    rintro e w3 ⟨A, c, rfl, hv3, hb3⟩
    have V3 := Lib.hid hv3
    have B3 := Lib.hid (below_then B2.out hb3)
    obtain ⟨A', c', e', hcl, hx⟩ := hv3.form
    injection e' with e1 e2 e3
    subst e1 e3
    have HX := Lib.hid hx
    have hO := ownS_lit w3 w3.heap.size w3.heap.size rfl (Nat.le_refl _) [[]] (by decide)
    have HO := Lib.hid hO
    have hcz : (L.length : Int) ≤ (c : Int) := by omega
    clear hb3 hv3 hx hO
    go_wp2
    go_loopg [8, 9, 10, 11] (L.length + 1) (fun gk s8 s9 _ _ wr => ∃ (k q g c' : Nat), s8 = .slice (some ⟨g, 0, none⟩) (q + 1) c' ∧ s9 = .int .i64 k ∧ k ≤ L.length ∧ q ≤ k ∧ L.length - k < gk ∧
      Hid ((Dom.cut (L.take k)).length = q + 1 ∧ OwnS w3.heap.size (.slice (some ⟨g, 0, none⟩) (q + 1) c') ((Dom.cut (L.take k)).map encZ) wr ∧ Below w3.heap.size w3 wr))
    case atStart => exact ⟨0, 0, w3.heap.size, 1, rfl, rfl, Nat.zero_le _, Nat.le_refl _, by omega, ⟨rfl, HO.out, below_one _ _⟩⟩
    case round =>
      obtain ⟨k, q, g, c', rfl, rfl, hk, hqk, hg, I⟩ := hrel
      have BW := Lib.hid (below_then B3.out I.out.2.2)
      by_cases hlt : k < L.length
      · obtain ⟨ad, rfl, hab, hac⟩ := HX.out k hlt
        have hcell := (I.out.2.2.cell (by rw [add_block]; exact hab)).trans hac
        have hab' : ad.block < wr.heap.size := Nat.lt_of_lt_of_le hab I.out.2.2.size
        obtain ⟨x, hxe⟩ : ∃ x, x = L[k]! := ⟨_, rfl⟩
        rw [← hxe] at hcell
        have htk : L.take (k + 1) = L.take k ++ [x] := by rw [List.take_add_one, List.getElem?_eq_getElem hlt, hxe, getElem!_pos L k hlt]; rfl
        have hrx : rightsZ [x] = true := by
          have := List.all_eq_true.1 (show L.all rightZ = true from HR.out) x (by rw [hxe, getElem!_pos L k hlt]; exact List.getElem_mem hlt)
          unfold rightsZ
          rw [List.all_cons, this]
          rfl
        have hkz : (k : Int) < (L.length : Int) := by omega
        have HT := Lib.hid htk
        clear hac hxe htk
        cases hd : Dom.isDot x with
        | true =>
          have hN := Lib.hid (show (Dom.cut (L.take (k + 1))).length = q + 1 + 1 by rw [HT.out, Dom.cut_snoc_dot hd, List.length_append, I.out.1]; rfl)
          have hM := Lib.hid (show (Dom.cut (L.take (k + 1))).map encZ = (Dom.cut (L.take k)).map encZ ++ [[]] by rw [HT.out, Dom.cut_snoc_dot hd, List.map_append]; rfl)
          have hml : ((Dom.cut (L.take k)).map encZ).length ≤ 1000000 := by rw [List.length_map, I.out.1]; omega
          have HML := Lib.hid hml
          clear hml hrx
          rcases Dom.dot_cases hd with rfl | rfl
          all_goals
            clear hd
            go_wp2_with (at_builtin; refine append_str wr w3.heap.size _ _ I.out.2.1 I.out.2.2.size HML.out [] wr.heap.size rfl rfl _ _ rfl rfl rfl ?_; intro v5 w5 ho5 hb5; have O5 := Lib.hid ho5; obtain ⟨A5, c5, rfl, hs5⟩ := ho5.shape; obtain ⟨g5, rfl, -, -⟩ := hs5 (by simp); have hl5 : ((Dom.cut (L.take k)).map encZ ++ [[]]).length = q + 1 + 1 := (by rw [List.length_append, List.length_map, I.out.1]; rfl); have B5 := Lib.hid hb5; clear ho5 hs5 hb5)
            go_roundg (L.length - k)
            case measure => omega
            case rel =>
              refine ⟨k + 1, q + 1, g5, c5, rfl, by go_num, by omega, by omega, by omega, ⟨hN.out, ?_, I.out.2.2.trans B5.out⟩⟩
              rw [hM.out, ← hl5]
              exact O5.out
        | false =>
          have hN := Lib.hid (show (Dom.cut (L.take (k + 1))).length = q + 1 by rw [HT.out, Dom.cut_snoc hd _ q I.out.1, List.length_set, I.out.1])
          obtain ⟨a, ha⟩ : ∃ a, a = encZ (Dom.cut (L.take k))[q]! := ⟨_, rfl⟩
          have hM := Lib.hid (show (Dom.cut (L.take (k + 1))).map encZ = ((Dom.cut (L.take k)).map encZ).set q (a ++ encZ [x]) by
            rw [HT.out, Dom.cut_snoc hd _ q I.out.1, List.map_set, ha]
            congr 1
            unfold encZ
            rw [List.flatMap_append])
          have hal : a.length ≤ 1680 := by
            rw [ha]
            have h1 := encZ_len (Dom.cut (L.take k))[q]!
            have h2 := Dom.cut_len (L.take k) (Dom.cut (L.take k))[q]! (by rw [getElem!_pos _ q (by rw [I.out.1]; omega)]; exact List.getElem_mem _)
            rw [List.length_take] at h2
            omega
          have hca := I.out.2.1.cell q (by rw [List.length_map, I.out.1]; omega)
          have hfr := I.out.2.1.free q
          have hge : ((Dom.cut (L.take k)).map encZ)[q]! = a := by
            rw [ha, getElem!_pos _ q (by rw [List.length_map, I.out.1]; omega), getElem!_pos _ q (by rw [I.out.1]; omega), List.getElem_map]
          rw [hge] at hca
          have hrow : Runes (.slice (some (ad.add k)) 1 (c - k)) [x] wr := by
            refine ⟨some (ad.add k), c - k, rfl, by simp; omega, fun e => (by cases e), fun _ => ⟨_, rfl, by rw [add_block]; exact hab', fun j u hu => ?_⟩⟩
            obtain ⟨hj, hu⟩ := List.getElem?_eq_some_iff.1 hu
            obtain rfl : j = 0 := by simp at hj; omega
            rw [← hu, show (ad.add k).add 0 = ad.add k by unfold Addr.add; rw [if_pos rfl]]
            exact hcell
          have hKS := refString_at _ [x] wr hrow (by simp) (bs := encZ [x]) (ok := true) hrx (strB_right hrx)
          have hbl := encZ_len [x]
          obtain ⟨b, hb⟩ : ∃ b, encZ [x] = b := ⟨_, rfl⟩
          rw [hb] at hKS hbl
          have HBx := Lib.hid hb
          have KS := Lib.hid hKS
          have d1 : (x == 46) = false := by unfold Dom.isDot at hd; rw [Bool.or_eq_false_iff] at hd; exact hd.1
          have d2 : (x == 12290) = false := by unfold Dom.isDot at hd; rw [Bool.or_eq_false_iff] at hd; exact hd.2
          have HA := Lib.hid ha
          have hblen : b.length ≤ 4 := hbl
          clear hb hKS hbl hrow hge ha hrx hd
          have hgl : w3.heap.size ≤ g ∧ g < wr.heap.size := by
            obtain ⟨A6, c6, e6, h6⟩ := I.out.2.1.shape
            injection e6 with e7 e8 e9
            obtain ⟨g6, e, hl1, hl2⟩ := h6 (by rw [List.length_map, I.out.1]; omega)
            rw [← e7] at e
            injection e with e
            injection e with e
            rw [e]
            exact ⟨hl1, hl2⟩
          have HGL := Lib.hid hgl
          go_wp2_with fail
          refine KS.out.mono ?_
          rintro e w4 ⟨rfl, hb4⟩
          have HB4 := Lib.hid hb4
          have hca4 := (hb4.cell (p := ⟨g, q, none⟩) hgl.2).trans hca
          have hfr4 := (hb4.frozen (p := ⟨g, q, none⟩) hgl.2).trans hfr
          clear hb4 hca hfr hcell hgl
          go_wp2
          go_roundg (L.length - k)
          case measure => omega
          case rel =>
            refine ⟨k + 1, q, g, c', rfl, by go_num, by omega, by omega, by omega, ⟨hN.out, ?_, (I.out.2.2.trans (HB4.out.mono I.out.2.2.size)).setCell (p := ⟨g, q, none⟩) HGL.out.1 _⟩⟩
            rw [cat_is, hM.out, HBx.out]
            exact (I.out.2.1.keep HB4.out).put q _
      · obtain rfl : k = L.length := by omega
        have hkz : ¬ (L.length : Int) < (L.length : Int) := by omega
        have hN := I.out
        rw [List.take_length] at hN
        have HN := Lib.hid hN
        by_cases h32 : 32 < q + 1
        · have R := Lib.hid (show P = (2, []) by rw [HP.out, HN.out.1, if_pos h32])
          have h32z : (32 : Int) < ((q + 1 : Nat) : Int) := by omega
          clear hN h32
          go_wp2
          go_ret2
          rw [R.out]
          exact labels_err BW.out
        · have R := Lib.hid (show P = (0, Dom.cut L) by rw [HP.out, HN.out.1, if_neg h32])
          have h32z : ((q + 1 : Nat) : Int) ≤ 32 := by omega
          clear hN h32
          go_wp2
          go_ret2
          rw [R.out]
          exact ⟨_, rfl, HN.out.2.1.strs, BW.out⟩
end Go.Proofs.YtbmgkfnoknomdaaGreat
namespace Go.Proofs.YtbmgkfnoknomdaaGreat
open Go.RowKit Utf
namespace Dom
theorem labels_parts {bs : List UInt8} (hm : ∀ m, rdOf bs = (m, -1) → (Fold.fold (ints m)).length ≤ 420) : (labelsE bs).2.length ≤ 32 ∧ ∀ p ∈ (labelsE bs).2, rightsZ p = true ∧ p.length ≤ 420 ∧ Fold.fold p = p := by
  unfold labelsE
  by_cases hz : (rdOf bs).2 = -1
  · rw [if_pos hz]
    have h1 := hm (rdOf bs).1 (by rw [← hz])
    have h2 := fold_right (Lab.rd_is hz).1
    have hp := parts_fold (ints (rdOf bs).1)
    generalize Fold.fold (ints (rdOf bs).1) = L at h1 h2 hp
    split
    · exact ⟨by decide, fun p hp => by cases hp⟩
    · split
      · exact ⟨by decide, fun p hp => by cases hp⟩
      · exact ⟨by show (cut L).length ≤ 32; omega, fun p hq => ⟨cut_right h2 p hq, Nat.le_trans (cut_len L p hq) h1, hp p hq⟩⟩
  · rw [if_neg hz]
    exact ⟨by decide, fun p hp => by cases hp⟩
theorem label_len {p : List Int} (hr : rightsZ p = true) (h : formE p = 0) : (formA p).length ≤ 63 ∧ (formU p).length ≤ 252 := by
  have hb : Lab.bothL (Fold.fold p) = (0, formA p, formU p) := by
    rw [← Lab.bothE_enc hr, ← h]
    rfl
  obtain ⟨U, hu, -, -, -, -, -, -, -, l1, l2, -, -⟩ := Lab.clean (fold_right hr) (Fold.fold_fold p) hb
  have := encZ_len U
  rw [hu]
  omega
theorem bdots_snoc {l : List (List UInt8)} (a : List UInt8) (h : l ≠ []) : bdots (l ++ [a]) = bdots l ++ [46] ++ a := by
  rw [bdots_app h (by simp), List.append_assoc]
  rfl
theorem of_first {ps : List (List Int)} {k : Nat} (hk : k < ps.length) (h : ∀ j, j < k → formE ps[j]! = 0) (he : formE ps[k]! ≠ 0) : ofLabels ps = (formE ps[k]!, [], []) := by
  unfold ofLabels
  rw [find_hit (fun p => formE p != 0) ps k hk (fun j hj => by rw [h j hj]; rfl) (bne_iff_ne.2 he)]
theorem of_none {ps : List (List Int)} (h : ∀ j, j < ps.length → formE ps[j]! = 0) : ofLabels ps = if 253 < (bdots (ps.map formA)).length then (5, [], []) else (0, bdots (ps.map formA), bdots (ps.map formU)) := by
  unfold ofLabels
  rw [find_miss (fun p => formE p != 0) ps (fun j hj => by rw [h j hj]; rfl)]
theorem take_snoc {ps : List (List Int)} {k : Nat} (hk : k < ps.length) (f : List Int → List UInt8) : (ps.take (k + 1)).map f = (ps.take k).map f ++ [f ps[k]!] := by
  rw [List.take_add_one, List.getElem?_eq_getElem hk, getElem!_pos ps k hk, List.map_append]
  rfl
end Dom
set_option maxHeartbeats 8000000 in
set_option maxRecDepth 100000 in
theorem both9_ref (s : ByteArray) (w : World) (hs : s.size ≤ 100000) (hm : ∀ m, rdOf s.data.toList = (m, -1) → m.length ≤ 420 ∧ (Fold.fold (ints m)).length ≤ 420) :
    Calls Tryz.prog 14 #[.string s] w (BothPost (Dom.bothD s.data.toList) w) := by
  have KL := labels9_ref s w hs hm
  obtain ⟨hn32, hparts⟩ := Dom.labels_parts (bs := s.data.toList) (fun m h => (hm m h).2)
  obtain ⟨⟨E, ps⟩, hE⟩ : ∃ p, Dom.labelsE s.data.toList = p := ⟨_, rfl⟩
  obtain ⟨P, hP⟩ : ∃ P, P = Dom.bothD s.data.toList := ⟨_, rfl⟩
  rw [← hP]
  unfold Dom.bothD at hP
  rw [hE] at hP KL hn32 hparts
  simp only at hP hn32 hparts
  have KL := Lib.hid KL
  clear hE hm
  by_cases hE0 : E = 0
  case neg =>
    have R := Lib.hid (show P = (E, [], []) by rw [hP, if_neg hE0])
    have e0 : (E == 0) = false := by simpa using hE0
    clear hP hE0 hparts
    go_enter Tryz.func14, Tryz.ntmps14
    go_wp2_with fail
    refine KL.out.mono ?_
    rintro e w2 ⟨v, rfl, hv, hb⟩
    obtain ⟨A, c, rfl, -, -⟩ := hv.form
    have B2 := Lib.hid hb
    clear hv hb
    go_wp2
    go_ret3
    exact ⟨by rw [R.out]; rfl, B2.out⟩
  have HP := Lib.hid (show P = Dom.ofLabels ps by rw [hP, if_pos hE0])
  subst hE0
  have HPA := Lib.hid hparts
  clear hP hparts
  go_enter Tryz.func14, Tryz.ntmps14
  go_wp2_with fail
  refine KL.out.mono ?_
  rintro e w2 ⟨v, rfl, hv, hb⟩
  obtain ⟨A, c, rfl, hcl, hx⟩ := hv.form
  have B2 := Lib.hid hb
  have HX := Lib.hid hx
  obtain ⟨n, hn⟩ : ∃ n, n = (ps.map encZ).length := ⟨_, rfl⟩
  rw [← hn] at hcl ⊢
  have hnp : n = ps.length := by rw [hn, List.length_map]
  have HN := Lib.hid hn
  have HNP := Lib.hid hnp
  rw [← hnp] at hn32
  clear hv hb hx hn hnp
  go_wp2
  go_loopg [7, 8, 9, 10, 11, 12] (n + 1) (fun gk s7 s8 s9 _ _ _ wr => ∃ (k : Nat) (X Y : List UInt8), s7 = .string ⟨X.toArray⟩ ∧ s8 = .string ⟨Y.toArray⟩ ∧ s9 = .int .i64 k ∧ k ≤ n ∧ X.length ≤ 64 * k ∧ Y.length ≤ 256 * k ∧ n - k < gk ∧
    Hid (X = Dom.bdots ((ps.take k).map Dom.formA) ∧ Y = Dom.bdots ((ps.take k).map Dom.formU) ∧ (∀ j, j < k → Dom.formE ps[j]! = 0) ∧ Below w2.heap.size w2 wr))
  case atStart => exact ⟨0, [], [], rfl, rfl, rfl, Nat.zero_le _, by decide, by decide, by omega, ⟨rfl, rfl, fun j hj => absurd hj (Nat.not_lt_zero _), Below.refl _ _⟩⟩
  case round =>
    obtain ⟨k, X, Y, rfl, rfl, rfl, hk, hXl, hYl, hg, I⟩ := hrel
    have BW := Lib.hid (below_then B2.out I.out.2.2.2)
    by_cases hlt : k < n
    · obtain ⟨ad, rfl, hab, hac⟩ := HX.out k (by have := HN.out; omega)
      have hcell := (I.out.2.2.2.cell (by rw [add_block]; exact hab)).trans hac
      have hkp : k < ps.length := by have := HNP.out; omega
      obtain ⟨p, hp⟩ : ∃ p, p = ps[k]! := ⟨_, rfl⟩
      have hge : (ps.map encZ)[k]! = encZ p := by rw [hp, getElem!_pos _ k (by rw [List.length_map]; exact hkp), getElem!_pos ps k hkp, List.getElem_map]
      rw [hge] at hcell
      obtain ⟨hpr, hpl, hpf⟩ := HPA.out p (by rw [hp, getElem!_pos ps k hkp]; exact List.getElem_mem hkp)
      have hel := encZ_len p
      have K8 := both8_ref ⟨(encZ p).toArray⟩ wr (by rw [size_of]; omega) (fun m' h => by
        have h' : rdOf (encZ p) = (m', -1) := h
        rw [rd_enc hpr] at h'
        injection h' with e1 e2
        rw [← e1, List.length_map, (ints_back hpr).1, hpf]
        exact ⟨hpl, hpl⟩)
      change Calls _ _ _ wr (BothPost (Dom.formE p, Dom.formA p, Dom.formU p) wr) at K8
      have hlen := fun h => Dom.label_len hpr h
      have hfirst := fun he => Dom.of_first hkp I.out.2.2.1 he
      have hnext := Dom.take_snoc hkp Dom.formA
      have hnextU := Dom.take_snoc hkp Dom.formU
      have hall : Dom.formE p = 0 → ∀ j, j < k + 1 → Dom.formE ps[j]! = 0 := fun h j hj => by
        by_cases e : j = k
        · subst e; rw [← hp]; exact h
        · exact I.out.2.2.1 j (by omega)
      rw [← hp] at hfirst hnext hnextU
      have HK1 := Lib.hid (show k ≠ 0 → (ps.take k).map Dom.formA ≠ [] ∧ (ps.take k).map Dom.formU ≠ [] from fun h => by
        constructor <;> (intro e; have := congrArg List.length e; rw [List.length_map, List.length_take] at this; simp only [List.length_nil] at this; omega))
      have hkz : (k : Int) < (n : Int) := by omega
      generalize Dom.formE p = E at K8 hlen hfirst hall
      generalize Dom.formA p = a at K8 hlen hnext
      generalize Dom.formU p = b at K8 hlen hnextU
      have K8 := Lib.hid K8
      have HLEN := Lib.hid hlen
      have HFIRST := Lib.hid hfirst
      have HNEXT := Lib.hid hnext
      have HNEXTU := Lib.hid hnextU
      have HALL := Lib.hid hall
      clear hac hge hpr hpl hpf hel hlen hfirst hnext hnextU hall hp hkp
      by_cases hE : E = 0
      case neg =>
        have R := Lib.hid (show P = (E, [], []) by rw [HP.out]; exact HFIRST.out hE)
        have e0 : (E == 0) = false := by simpa using hE
        clear hE
        go_wp2_with fail
        refine K8.out.mono ?_
        rintro e w4 ⟨rfl, hb4⟩
        have B4 := Lib.hid (below_then BW.out hb4)
        clear hb4 hcell
        go_wp2
        go_ret3
        exact ⟨by rw [R.out]; rfl, B4.out⟩
      · subst hE
        obtain ⟨hla, hlb⟩ := HLEN.out rfl
        by_cases hk0 : k = 0
        · have HX0 := Lib.hid (show a = Dom.bdots ((ps.take (k + 1)).map Dom.formA) by rw [HNEXT.out, hk0]; rfl)
          have HY0 := Lib.hid (show b = Dom.bdots ((ps.take (k + 1)).map Dom.formU) by rw [HNEXTU.out, hk0]; rfl)
          have hX0 : X = [] := List.eq_nil_of_length_eq_zero (by omega)
          have hY0 : Y = [] := List.eq_nil_of_length_eq_zero (by omega)
          subst hX0 hY0
          have hkz0 : (k : Int) ≤ 0 := by omega
          clear hk0
          go_wp2_with fail
          refine K8.out.mono ?_
          rintro e w4 ⟨rfl, hb4⟩
          have B4 := Lib.hid (I.out.2.2.2.trans (hb4.mono I.out.2.2.2.size))
          clear hb4 hcell
          go_wp2
          go_roundg (n - k)
          case measure => omega
          case rel =>
            refine ⟨k + 1, a, b, ?_, ?_, by go_num, by omega, by omega, by omega, by omega, ⟨HX0.out, HY0.out, HALL.out trivial, B4.out⟩⟩
            · exact congrArg Value.string ((cat_is [] a).trans rfl)
            · exact congrArg Value.string ((cat_is [] b).trans rfl)
        · have HX0 := Lib.hid (show X ++ [46] ++ a = Dom.bdots ((ps.take (k + 1)).map Dom.formA) by rw [HNEXT.out, Dom.bdots_snoc _ (HK1.out hk0).1, I.out.1])
          have HY0 := Lib.hid (show Y ++ [46] ++ b = Dom.bdots ((ps.take (k + 1)).map Dom.formU) by rw [HNEXTU.out, Dom.bdots_snoc _ (HK1.out hk0).2, I.out.2.1])
          have hkz0 : (0 : Int) < (k : Int) := by omega
          clear hk0
          go_wp2_with fail
          refine K8.out.mono ?_
          rintro e w4 ⟨rfl, hb4⟩
          have B4 := Lib.hid (I.out.2.2.2.trans (hb4.mono I.out.2.2.2.size))
          clear hb4 hcell
          go_wp2
          go_roundg (n - k)
          case measure => omega
          case rel =>
            refine ⟨k + 1, X ++ [46] ++ a, Y ++ [46] ++ b, ?_, ?_, by go_num, by omega, by simp only [List.length_append, List.length_singleton]; omega, by simp only [List.length_append, List.length_singleton]; omega, by omega, ⟨HX0.out, HY0.out, HALL.out trivial, B4.out⟩⟩
            · rw [← cat_is, ← cat_is]
            · rw [← cat_is, ← cat_is]
    · obtain rfl : k = n := by omega
      have hkz : ¬ (k : Int) < (k : Int) := by omega
      have hA : ps.take k = ps := by rw [HNP.out, List.take_length]
      have hX := I.out.1
      have hY := I.out.2.1
      rw [hA] at hX hY
      have hO := Dom.of_none (ps := ps) (fun j hj => I.out.2.2.1 j (by have := HNP.out; omega))
      rw [← hX, ← hY] at hO
      have HO := Lib.hid (HP.out.trans hO)
      clear hA hX hY hO
      by_cases h253 : 253 < X.length
      · have R := Lib.hid (show P = (5, [], []) by rw [HO.out, if_pos h253])
        have h253z : (253 : Int) < (X.length : Int) := by omega
        clear h253
        go_wp2
        go_ret3
        exact ⟨by rw [R.out]; rfl, BW.out⟩
      · have R := Lib.hid (show P = (0, X, Y) by rw [HO.out, if_neg h253])
        have h253z : (X.length : Int) ≤ 253 := by omega
        clear h253
        go_wp2
        go_ret3
        exact ⟨by rw [R.out]; rfl, BW.out⟩
set_option maxHeartbeats 4000000 in
set_option maxRecDepth 100000 in
theorem down9_ref (s : ByteArray) (w : World) (hs : s.size ≤ 100000) (hm : ∀ m, rdOf s.data.toList = (m, -1) → m.length ≤ 420 ∧ (Fold.fold (ints m)).length ≤ 420) :
    Calls Tryz.prog 16 #[.string s] w fun e w' => e = .returned (.tuple #[.string ⟨(Dom.downD s.data.toList).toArray⟩, .int .i64 (Dom.bothD s.data.toList).1]) ∧ Below w.heap.size w w' := by
  have KB := both9_ref s w hs hm
  have KE := fun W => refEight_any s W (by omega)
  obtain ⟨⟨E, a, u⟩, hE⟩ : ∃ p, Dom.bothD s.data.toList = p := ⟨_, rfl⟩
  have hd : Dom.downD s.data.toList = if E = 0 ∧ Lab.ascii s.data.toList = true then s.data.toList else a := by unfold Dom.downD; rw [hE]
  rw [hd, hE]
  rw [hE] at KB
  change Calls _ _ _ w fun e w' => e = .returned (.tuple #[.string ⟨a.toArray⟩, .string ⟨u.toArray⟩, .int .i64 E]) ∧ Below w.heap.size w w' at KB
  have KB := Lib.hid KB
  have hss : (⟨s.data.toList.toArray⟩ : ByteArray) = s := rfl
  have HSS := Lib.hid hss
  clear hd hE hm hss
  by_cases h0 : E = 0
  case neg =>
    rw [if_neg (fun h => h0 h.1)]
    have e0 : (E == 0) = false := by simpa using h0
    clear h0 KE
    go_enter Tryz.func16, Tryz.ntmps16
    go_wp2_with fail
    refine KB.out.mono ?_
    rintro e w2 ⟨rfl, hb⟩
    have B2 := Lib.hid hb
    clear hb
    go_wp2
    go_ret2
    exact ⟨rfl, B2.out⟩
  subst h0
  rcases Lab.eight_cases s.data.toList with ⟨ha, he⟩ | ⟨ha, he⟩
  · rw [he] at KE
    rw [if_pos ⟨rfl, ha⟩, HSS.out]
    have K := Lib.hid KE
    clear ha he KE
    go_enter Tryz.func16, Tryz.ntmps16
    go_wp2_with fail
    refine KB.out.mono ?_
    rintro e w2 ⟨rfl, hb⟩
    have B2 := Lib.hid hb
    clear hb
    go_wp2_with fail
    refine (K.out w2).mono ?_
    rintro e w3 ⟨rfl, rfl⟩
    go_wp2
    go_ret2
    exact ⟨rfl, B2.out⟩
  · obtain ⟨ei, hei⟩ : ∃ ei, eightOf s.data.toList = ei := ⟨_, rfl⟩
    rw [hei] at KE he
    rw [if_neg (fun h => by rw [ha] at h; cases h.2)]
    have K := Lib.hid KE
    clear ha hei KE
    go_enter Tryz.func16, Tryz.ntmps16
    go_wp2_with fail
    refine KB.out.mono ?_
    rintro e w2 ⟨rfl, hb⟩
    have B2 := Lib.hid hb
    clear hb
    go_wp2_with fail
    refine (K.out w2).mono ?_
    rintro e w3 ⟨rfl, rfl⟩
    go_wp2
    go_ret2
    exact ⟨rfl, B2.out⟩
end Go.Proofs.YtbmgkfnoknomdaaGreat
