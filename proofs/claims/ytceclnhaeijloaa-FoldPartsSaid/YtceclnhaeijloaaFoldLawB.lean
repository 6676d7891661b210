/-
  Proved here: the law FoldSame: what is folded again is as it was, and a string and its normal forms are folded alike. Conditions: none.
-/
import Derived.Test.YtceclnhaeijloaaFoldSmall
namespace Go.Proofs.Ytceclnhaeijloaa
open Go.RowKit Utf
theorem folds_of {s : ByteArray} (hs : s.size ≤ 200) {m : List Nat} (h : rdOf s.data.toList = (m, -1)) : Folds s m := by
  have h1 := (rd_cases h).2.1
  have h2 : m.length ≤ 200 := by simp at h1; omega
  have h3 := down_len false ((ints m).map Fold.fo)
  have h4 : ((ints m).map Fold.fo).length = m.length := by simp [ints]
  exact ⟨by omega, h, by omega, by omega⟩
theorem folds_enc {X : List Int} (hX : rightsZ X = true) (hl : X.length ≤ 9600) (hd : (Norm.down false (X.map Fold.fo)).length ≤ 9600) : FoldIs ⟨(encZ X).toArray⟩ (encZ (Fold.fold X)) true := by
  obtain ⟨i1, -, -⟩ := ints_back hX
  have h1 := encZ_len X
  have h2 : (⟨(encZ X).toArray⟩ : ByteArray).size = (encZ X).length := by simp [ByteArray.size]
  have := Folds.is (s := ⟨(encZ X).toArray⟩) (m := X.map Int.toNat) ⟨by omega, rd_enc hX, by rw [List.length_map]; omega, by rw [i1]; omega⟩
  rwa [i1] at this
/-- What Fold makes of a short string, and of its forms. -/
theorem folds_all {l : List Int} (hr : rightsZ l = true) (hl : l.length ≤ 200) :
    FoldIs ⟨(encZ (Fold.fold l)).toArray⟩ (encZ (Fold.fold l)) true ∧ FoldIs ⟨(encZ (formOf false true l)).toArray⟩ (encZ (Fold.fold l)) true ∧ FoldIs ⟨(encZ (formOf false false l)).toArray⟩ (encZ (Fold.fold l)) true ∧
    (rightsZ (Fold.fold l) = true ∧ (Fold.fold l).length ≤ 9600) ∧ (∃ m, Fits false ⟨(encZ (Fold.fold l)).toArray⟩ m ∧ encZ (formOf false true (ints m)) = encZ (Fold.fold l)) := by
  have d0 := down_len false (l.map Fold.fo)
  have d1 := down_len false l
  rw [List.length_map] at d0
  have j0 := join_len' (Norm.down false (l.map Fold.fo))
  have j1 := join_len' (Norm.down false l)
  have r0 := join_right (down_right false (map_fo_right hr))
  have r1 := down_right false hr
  have r2 := join_right r1
  have f0 : (Fold.fold l).map Fold.fo = Fold.fold l := Fold.map_fix (Fold.fold_all_fix l)
  have e1 : Norm.down false ((Norm.join (Norm.down false l)).map Fold.fo) = Norm.down false (l.map Fold.fo) := by
    rw [Fold.down_fo, Norm.down_join, ← Fold.down_fo]
  have e2 : Norm.down false ((Norm.down false l).map Fold.fo) = Norm.down false (l.map Fold.fo) := (Fold.down_fo l).symm
  have k1 := folds_enc (X := Fold.fold l) r0 (show (Norm.join (Norm.down false (l.map Fold.fo))).length ≤ 9600 by omega) (by rw [f0, Fold.down_fold]; omega)
  rw [Fold.fold_fold] at k1
  have k2 := folds_enc (X := Norm.join (Norm.down false l)) r2 (by omega) (by rw [e1]; omega)
  rw [Fold.fold_join] at k2
  have k3 := folds_enc (X := Norm.down false l) r1 (by omega) (by rw [e2]; omega)
  rw [Fold.fold_down] at k3
  refine ⟨k1, k2, k3, ⟨r0, (show (Norm.join (Norm.down false (l.map Fold.fo))).length ≤ 9600 by omega)⟩, ?_⟩
  exact again (soft := false) (join := true) r0 (show (Norm.join (Norm.down false (l.map Fold.fo))).length ≤ 9600 by omega) (by rw [Fold.down_fold]; omega) (Fold.nfc_fold l)
set_option maxRecDepth 100000 in
set_option maxHeartbeats 8000000 in
theorem same4_walk (s : ByteArray) (w : World) : Calls Try.prog 4 #[.string s] w fun e w' => e = .returned (.bool true) ∧ Below w.heap.size w w' := by
  by_cases hs : s.size ≤ 200
  · have hsz : (s.size : Int) ≤ 200 := by omega
    obtain ⟨⟨m, z⟩, hrd⟩ : ∃ p, rdOf s.data.toList = p := ⟨_, rfl⟩
    obtain ⟨hm1, hm2, hmz⟩ := rd_cases hrd
    rcases hmz with ⟨rfl, -⟩ | ⟨k, rfl, -, -⟩
    · have hml : (ints m).length ≤ 200 := by simp [ints]; simp at hm2; omega
      have F0 := (folds_of hs hrd).is
      have N0 := Lib.hid (fits_of hs hrd false)
      obtain ⟨a1, a2, a3, -, m9, a4, a5⟩ := folds_all (ints_right m hm1).1 hml
      generalize encZ (Fold.fold (ints m)) = x at *
      obtain ⟨cc, hcc⟩ : ∃ cc, encZ (formOf false true (ints m)) = cc := ⟨_, rfl⟩
      obtain ⟨dd, hdd⟩ : ∃ dd, encZ (formOf false false (ints m)) = dd := ⟨_, rfl⟩
      rw [hcc] at a2
      rw [hdd] at a3
      have IB : (encZ (formOf false true (ints m9)) == (⟨x.toArray⟩ : ByteArray).toList) = true := by rw [a5, ByteArray.toList_eq]; simp
      have xx : (true && true && (x == x)) = true := by simp
      have HX := Lib.hid xx
      have HI := Lib.hid (And.intro a4 IB)
      have HC := Lib.hid hcc
      have HD := Lib.hid hdd
      have H0 := Lib.hid F0
      have H1 := Lib.hid a1
      have H2 := Lib.hid a2
      have H3 := Lib.hid a3
      clear hrd hm1 hm2 hml F0 a1 a2 a3 a4 a5 IB xx hcc hdd
      go_enter Try.func4, Try.ntmps4
      go_wp2_with fail
      refine (small4_any _).mono ?_
      rintro e w1 ⟨rfl, hb1⟩
      have B1 := Lib.hid hb1
      clear hb1
      go_wp2_with fail
      refine (new_any _).mono ?_
      rintro e w2 ⟨tt, rfl, hT, hb2⟩
      have hT' := hT
      obtain ⟨b0, b1, b2, b3, rfl, -, -, -, -⟩ := hT'
      have K0 := Lib.hid (kept_new (b0 := b0) (b1 := b1) (b2 := b2) (b3 := b3) (below_then B1.out hb2) hT 29)
      clear hT hb2 B1
      go_wp2_with fail
      refine (fold_at K0.out H0.out).mono ?_
      rintro e w3 ⟨rfl, K1, L1⟩
      obtain ⟨hS, c0, c1, c2, c3⟩ := K1.out.held
      clear K0 L1
      go_wp2_with fail
      refine (fold_at K1.out H1.out).mono ?_
      rintro e w4 ⟨rfl, K2, L2⟩
      obtain ⟨hS, c0, c1, c2, c3⟩ := K2.out.held
      clear K1 L2
      go_wp2_with fail
      refine (nfc_at K2.out N0.out HC.out).mono ?_
      rintro e w5 ⟨rfl, K3, L3⟩
      obtain ⟨hS, c0, c1, c2, c3⟩ := K3.out.held
      clear K2 L3
      go_wp2_with fail
      refine (nfd_at K3.out N0.out HD.out).mono ?_
      rintro e w6 ⟨rfl, K4, L4⟩
      obtain ⟨hS, c0, c1, c2, c3⟩ := K4.out.held
      clear K3 L4
      go_wp2_with fail
      refine (alike_at K4.out H0.out H2.out HX.out).mono ?_
      rintro e w7 ⟨rfl, K5, L5⟩
      obtain ⟨hS, c0, c1, c2, c3⟩ := K5.out.held
      clear K4 L5
      go_wp2_with fail
      refine (alike_at K5.out H0.out H3.out HX.out).mono ?_
      rintro e w8 ⟨rfl, K6, L6⟩
      obtain ⟨hS, c0, c1, c2, c3⟩ := K6.out.held
      clear K5 L6
      go_wp2_with fail
      refine (alike_at K6.out H0.out H1.out HX.out).mono ?_
      rintro e w9 ⟨rfl, K7, L7⟩
      obtain ⟨hS, c0, c1, c2, c3⟩ := K7.out.held
      clear K6 L7
      go_wp2_with fail
      refine (is_at K7.out HI.out.1 HI.out.2).mono ?_
      rintro e w10 ⟨rfl, K8, L8⟩
      clear K7 L8
      go_wp2
      go_ret
      exact ⟨rfl, K8.out.below⟩
    · have F0 := foldIs_no (s := s) (by omega) hrd
      have H0 := Lib.hid F0
      clear hrd hm1 hm2 F0
      go_enter Try.func4, Try.ntmps4
      go_wp2_with fail
      refine (small4_any _).mono ?_
      rintro e w1 ⟨rfl, hb1⟩
      have B1 := Lib.hid hb1
      clear hb1
      go_wp2_with fail
      refine (new_any _).mono ?_
      rintro e w2 ⟨tt, rfl, hT, hb2⟩
      have hT' := hT
      obtain ⟨b0, b1, b2, b3, rfl, -, -, -, -⟩ := hT'
      have K0 := Lib.hid (kept_new (b0 := b0) (b1 := b1) (b2 := b2) (b3 := b3) (below_then B1.out hb2) hT 29)
      clear hT hb2 B1
      go_wp2_with fail
      refine (fold_at K0.out H0.out).mono ?_
      rintro e w3 ⟨rfl, K1, L1⟩
      obtain ⟨hS, c0, c1, c2, c3⟩ := K1.out.held
      clear K0 L1
      go_wp2_with fail
      refine (alike_at K1.out H0.out H0.out rfl).mono ?_
      rintro e w4 ⟨rfl, K2, L2⟩
      clear K1 L2
      go_wp2
      go_ret
      exact ⟨rfl, K2.out.below⟩
  · have hsz : (200 : Int) < (s.size : Int) := by omega
    go_enter Try.func4, Try.ntmps4
    go_wp2_with fail
    refine (small4_any _).mono ?_
    rintro e w1 ⟨rfl, hb1⟩
    have B1 := Lib.hid hb1
    clear hb1
    go_wp2
    go_ret
    exact ⟨rfl, B1.out⟩
end Go.Proofs.Ytceclnhaeijloaa
