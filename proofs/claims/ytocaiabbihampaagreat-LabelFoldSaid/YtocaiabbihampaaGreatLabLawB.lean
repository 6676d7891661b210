/-
  Proved here: the law LabelFold, given what the program's six functions tell. Conditions: none.
-/
import Derived.Test.YtocaiabbihampaaGreatLabSmall
import Derived.Test.YtocaiabbihampaaGreatLabFine
import Derived.Test.YtocaiabbihampaaGreatNorm
namespace Go.Proofs.YtocaiabbihampaaGreat
open Go.RowKit Utf
set_option maxHeartbeats 8000000 in
set_option maxRecDepth 100000 in
theorem fold8_walk (B : LabOk) (s : ByteArray) (w : World) : Calls Tryz.prog 5 #[.string s] w fun e w' => e = .returned (.bool true) ∧ Below w.heap.size w w' := by
  by_cases hs : s.size ≤ 150
  · have hsz : ¬ (150 : Int) < (s.size : Int) := by omega
    have LS := Lib.hid (lab_of hs)
    obtain ⟨⟨m, z⟩, hrd⟩ : ∃ p, rdOf s.data.toList = p := ⟨_, rfl⟩
    obtain ⟨hm1, hm2, hmz⟩ := rd_cases hrd
    rcases hmz with ⟨rfl, -⟩ | ⟨k, rfl, -, -⟩
    · obtain ⟨hr, hse⟩ := Lab.rd_is (s := s.data.toList) (by rw [hrd])
      rw [hrd] at hr hse
      replace hr : rightsZ (ints m) = true := hr
      replace hse : s.data.toList = encZ (ints m) := hse
      have hml : (ints m).length ≤ 150 := by simp [ints]; simp at hm2; omega
      have hfl := ((LS.out).2 m hrd).2
      have hF := (folds_of (by omega) hrd).is
      have hN := fits_of (s := s) (by omega) hrd false
      obtain ⟨o1, o2⟩ := Lab.fold_one hr
      rw [← hse] at o1 o2
      have d0 := Lab.down_few (ints m)
      have d1 := Lab.down_few ((ints m).map Fold.fo)
      have d2 := Lab.down_few (Fold.fold (ints m))
      rw [List.length_map] at d1
      have f0 : (Fold.fold (ints m)).map Fold.fo = Fold.fold (ints m) := Fold.map_fix (Fold.fold_all_fix _)
      have e2 : Norm.down false ((Norm.down false (ints m)).map Fold.fo) = Norm.down false ((ints m).map Fold.fo) := (Fold.down_fo (ints m)).symm
      have LX : Hid (LabFits ⟨(encZ (Fold.fold (ints m))).toArray⟩) := Lib.hid (lab_enc (fold_right hr) (by omega) (by rw [f0]; omega) (by rw [Fold.fold_fold]; exact hfl))
      have LD : Hid (LabFits ⟨(encZ (Norm.down false (ints m))).toArray⟩) := Lib.hid (lab_enc (down_right false hr) (by omega) (by rw [e2]; omega) (by rw [Fold.fold_down]; exact hfl))
      have hNF : formOf false false (ints m) = Norm.down false (ints m) := rfl
      obtain ⟨x, hx⟩ : ∃ x, encZ (Fold.fold (ints m)) = x := ⟨_, rfl⟩
      obtain ⟨d, hd⟩ : ∃ d, encZ (Norm.down false (ints m)) = d := ⟨_, rfl⟩
      obtain ⟨⟨E, a, u⟩, hb⟩ : ∃ p, Lab.bothE s.data.toList = p := ⟨_, rfl⟩
      rw [hb, hx] at o1
      rw [hb, hd] at o2
      rw [hx] at LX hF
      rw [hd] at LD
      have HF := Lib.hid hF
      have HN := Lib.hid (fun (t : Value) (W : World) (hT : Table W t) => nfd_yes t s W hT hN)
      rw [hNF, hd] at HN
      have HB := Lib.hid hb
      have HX : Hid (Lab.bothE (⟨x.toArray⟩ : ByteArray).data.toList = (E, a, u)) := Lib.hid o1
      have HD : Hid (Lab.bothE (⟨d.toArray⟩ : ByteArray).data.toList = (E, a, u)) := Lib.hid o2
      clear hF hN o1 o2 d0 d1 d2 f0 e2 hNF hx hd hb hfl hr hse hml hm1 hm2 hrd hs
      go_enter Tryz.func5, Tryz.ntmps5
      go_wp2_with fail
      refine (small8_any B _).mono ?_
      rintro e w0 ⟨rfl, hb0⟩
      have B0 := Lib.hid hb0
      clear hb0
      go_wp2_with fail
      refine (new_any _).mono ?_
      rintro e w1 ⟨tt, rfl, hT, hb1⟩
      have hT' := hT
      obtain ⟨b0, b1, b2, b3, rfl, -, -, -, -⟩ := hT'
      have K0 := Lib.hid (kept_new (b0 := b0) (b1 := b1) (b2 := b2) (b3 := b3) (below_then B0.out hb1) hT 28)
      obtain ⟨hS, c0, c1, c2, c3⟩ := K0.out.held
      clear hT hb1 B0
      go_wp2_with fail
      refine (HF.out (.agg #[.slice (some ⟨b0, 0, none⟩) 74 74, .slice (some ⟨b1, 0, none⟩) 10 10, .slice (some ⟨b2, 0, none⟩) 11 11, .slice (some ⟨b3, 0, none⟩) 42 42]) _ K0.out.table).mono ?_
      rintro e w2 ⟨rfl, hb⟩
      have K1 := Lib.hid (K0.out.next hb)
      clear hb K0 hS c0 c1 c2 c3
      obtain ⟨hS, c0, c1, c2, c3⟩ := K1.out.held
      go_wp2_with fail
      refine (B.ascii_at (.agg #[.slice (some ⟨b0, 0, none⟩) 74 74, .slice (some ⟨b1, 0, none⟩) 10 10, .slice (some ⟨b2, 0, none⟩) 11 11, .slice (some ⟨b3, 0, none⟩) 42 42]) s _ K1.out.table LS.out HB.out).mono ?_
      rintro e w3 ⟨rfl, hb⟩
      have K2 := Lib.hid (K1.out.next hb)
      clear hb K1 hS c0 c1 c2 c3
      obtain ⟨hS, c0, c1, c2, c3⟩ := K2.out.held
      go_wp2_with fail
      refine (B.ascii_at (.agg #[.slice (some ⟨b0, 0, none⟩) 74 74, .slice (some ⟨b1, 0, none⟩) 10 10, .slice (some ⟨b2, 0, none⟩) 11 11, .slice (some ⟨b3, 0, none⟩) 42 42]) ⟨x.toArray⟩ _ K2.out.table LX.out HX.out).mono ?_
      rintro e w4 ⟨rfl, hb⟩
      have K3 := Lib.hid (K2.out.next hb)
      clear hb K2 hS c0 c1 c2 c3
      obtain ⟨hS, c0, c1, c2, c3⟩ := K3.out.held
      go_wp2_with fail
      refine (HN.out (.agg #[.slice (some ⟨b0, 0, none⟩) 74 74, .slice (some ⟨b1, 0, none⟩) 10 10, .slice (some ⟨b2, 0, none⟩) 11 11, .slice (some ⟨b3, 0, none⟩) 42 42]) _ K3.out.table).mono ?_
      rintro e w5 ⟨rfl, hb⟩
      have K4 := Lib.hid (K3.out.next hb)
      clear hb K3 hS c0 c1 c2 c3
      obtain ⟨hS, c0, c1, c2, c3⟩ := K4.out.held
      go_wp2_with fail
      refine (B.ascii_at (.agg #[.slice (some ⟨b0, 0, none⟩) 74 74, .slice (some ⟨b1, 0, none⟩) 10 10, .slice (some ⟨b2, 0, none⟩) 11 11, .slice (some ⟨b3, 0, none⟩) 42 42]) ⟨d.toArray⟩ _ K4.out.table LD.out HD.out).mono ?_
      rintro e w6 ⟨rfl, hb⟩
      have K5 := Lib.hid (K4.out.next hb)
      clear hb K4 hS c0 c1 c2 c3
      obtain ⟨hS, c0, c1, c2, c3⟩ := K5.out.held
      go_wp2
      go_ret
      exact ⟨rfl, K5.out.below⟩
    · have HF := Lib.hid (foldIs_no (s := s) (by omega) hrd)
      have HB : Hid (Lab.bothE s.data.toList = (7, [], [])) := Lib.hid (by
        unfold Lab.bothE
        rw [hrd, if_neg (by show ¬ (k : Int) = -1; omega)])
      clear hm1 hm2 hrd hs
      go_enter Tryz.func5, Tryz.ntmps5
      go_wp2_with fail
      refine (small8_any B _).mono ?_
      rintro e w0 ⟨rfl, hb0⟩
      have B0 := Lib.hid hb0
      clear hb0
      go_wp2_with fail
      refine (new_any _).mono ?_
      rintro e w1 ⟨tt, rfl, hT, hb1⟩
      have hT' := hT
      obtain ⟨b0, b1, b2, b3, rfl, -, -, -, -⟩ := hT'
      have K0 := Lib.hid (kept_new (b0 := b0) (b1 := b1) (b2 := b2) (b3 := b3) (below_then B0.out hb1) hT 28)
      obtain ⟨hS, c0, c1, c2, c3⟩ := K0.out.held
      clear hT hb1 B0
      go_wp2_with fail
      refine (HF.out (.agg #[.slice (some ⟨b0, 0, none⟩) 74 74, .slice (some ⟨b1, 0, none⟩) 10 10, .slice (some ⟨b2, 0, none⟩) 11 11, .slice (some ⟨b3, 0, none⟩) 42 42]) _ K0.out.table).mono ?_
      rintro e w2 ⟨rfl, hb⟩
      have K1 := Lib.hid (K0.out.next hb)
      clear hb K0 hS c0 c1 c2 c3
      obtain ⟨hS, c0, c1, c2, c3⟩ := K1.out.held
      go_wp2_with fail
      refine (B.ascii_at (.agg #[.slice (some ⟨b0, 0, none⟩) 74 74, .slice (some ⟨b1, 0, none⟩) 10 10, .slice (some ⟨b2, 0, none⟩) 11 11, .slice (some ⟨b3, 0, none⟩) 42 42]) s _ K1.out.table LS.out HB.out).mono ?_
      rintro e w3 ⟨rfl, hb⟩
      have K2 := Lib.hid (K1.out.next hb)
      clear hb K1 hS c0 c1 c2 c3
      obtain ⟨hS, c0, c1, c2, c3⟩ := K2.out.held
      go_wp2
      go_ret
      exact ⟨rfl, K2.out.below⟩
  · have hnz : (150 : Int) < (s.size : Int) := by omega
    go_enter Tryz.func5, Tryz.ntmps5
    go_wp2_with fail
    refine (small8_any B _).mono ?_
    rintro e w0 ⟨rfl, hb0⟩
    have B0 := Lib.hid hb0
    clear hb0
    go_wp2
    go_ret
    exact ⟨rfl, B0.out⟩
end Go.Proofs.YtocaiabbihampaaGreat
