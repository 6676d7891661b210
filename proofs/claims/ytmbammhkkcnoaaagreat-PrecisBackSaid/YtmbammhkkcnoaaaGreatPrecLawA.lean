/-
  Proved here: the law PrecisBack, given what the program's four functions tell. Conditions: none.
-/
import Derived.Test.YtmbammhkkcnoaaaGreatPrecSmall
import Derived.Test.YtmbammhkkcnoaaaGreatFoldAll
namespace Go.Proofs.YtmbammhkkcnoaaaGreat
open Go.RowKit Utf
set_option maxHeartbeats 8000000 in
set_option maxRecDepth 100000 in
theorem back10_walk (B : PrecOk) (s : ByteArray) (w : World) : Calls Tryz.prog 4 #[.string s] w fun e w' => e = .returned (.bool true) ∧ Below w.heap.size w w' := by
  by_cases hs : s.size ≤ 150
  · have hsz : ¬ (150 : Int) < (s.size : Int) := by omega
    have LS := Lib.hid (lab_of hs)
    obtain ⟨⟨m, z⟩, hrd⟩ : ∃ p, rdOf s.data.toList = p := ⟨_, rfl⟩
    obtain ⟨⟨E, n⟩, hb⟩ : ∃ p, Prec.nameE s.data.toList = p := ⟨_, rfl⟩
    rcases (rd_cases hrd).2.2 with ⟨rfl, -⟩ | ⟨k, rfl, -, -⟩
    · have hz : (rdOf s.data.toList).2 = -1 := by rw [hrd]
      obtain ⟨hr, -⟩ := Lab.rd_is hz
      have hfl := ((LS.out).2 m hrd).2
      have hF := (folds_of (by omega) hrd).is
      have hx := Prec.name_fold hz
      rw [hrd] at hx hr
      replace hx : Prec.nameE (encZ (Fold.fold (ints m))) = Prec.nameE s.data.toList := hx
      replace hr : rightsZ (ints m) = true := hr
      have d2 := Lab.down_few (Fold.fold (ints m))
      have f0 : (Fold.fold (ints m)).map Fold.fo = Fold.fold (ints m) := Fold.map_fix (Fold.fold_all_fix _)
      have LX : Hid (LabFits ⟨(encZ (Fold.fold (ints m))).toArray⟩) := Lib.hid (lab_enc (fold_right hr) (by omega) (by rw [f0]; omega) (by rw [Fold.fold_fold]; exact hfl))
      have hnk := fun h => Prec.name_ok (bs := s.data.toList) (n := n) (by rw [hb, show E = 0 from h])
      have hLN : E = 0 → LabFits ⟨n.toArray⟩ ∧ WideFits ⟨n.toArray⟩ ∧ Prec.nameE n = (0, n) ∧ Prec.classE n = 0 ∧ Prec.alike s.data.toList n = true := fun h => by
        obtain ⟨L, rL, fL, rfl, hL, hc, -, hLe⟩ := hnk h
        rw [hrd] at hLe
        have hLl : L.length ≤ 420 := by rw [hLe]; exact hfl
        have d3 := Lab.down_few L
        have f1 : L.map Fold.fo = L := by rw [hLe]; exact f0
        have ha := Prec.name_again rL fL hL
        refine ⟨lab_enc rL (by omega) (by rw [f1]; omega) (by rw [fL]; exact hLl), wide_enc' rL hLl, ha, by rw [Prec.classE_enc rL]; exact hc, ?_⟩
        unfold Prec.alike
        rw [hb, ha, h]
        simp
      obtain ⟨x, hxe⟩ : ∃ x, encZ (Fold.fold (ints m)) = x := ⟨_, rfl⟩
      rw [hb, hxe] at hx
      rw [hxe] at LX hF
      have HF := Lib.hid hF
      have HX : Hid (Prec.nameE (⟨x.toArray⟩ : ByteArray).data.toList = (E, n)) := Lib.hid hx
      have HB := Lib.hid hb
      by_cases hE : E = 0
      · subst hE
        obtain ⟨h1, h2, h3, h4, h5⟩ := hLN rfl
        have LN := Lib.hid h1
        have WN := Lib.hid h2
        have HN : Hid (Prec.nameE (⟨n.toArray⟩ : ByteArray).data.toList = (0, n)) := Lib.hid h3
        have HC : Hid (Prec.classE (⟨n.toArray⟩ : ByteArray).data.toList = 0) := Lib.hid h4
        have HA : Hid (Prec.alike s.data.toList (⟨n.toArray⟩ : ByteArray).data.toList = true) := Lib.hid h5
        clear h1 h2 h3 h4 h5 hLN hnk hx hF hxe f0 d2 hr hfl hz hb hrd hs
        go_enter Tryz.func4, Tryz.ntmps4
        go_wp2_with fail
        refine (small10_any B _).mono ?_
        rintro e w0 ⟨rfl, hb0⟩
        have B0 := Lib.hid hb0
        clear hb0
        go_wp2_with fail
        refine (new_any _).mono ?_
        rintro e w1 ⟨tt, rfl, hT, hb1⟩
        have hT' := hT
        obtain ⟨b0, b1, b2, b3, rfl, -, -, -, -⟩ := hT'
        have K0 := Lib.hid (kept_new (b0 := b0) (b1 := b1) (b2 := b2) (b3 := b3) (below_then B0.out hb1) hT 28)
        obtain ⟨hS, c0, c1, c2, c3⟩ := K0.out.held
        clear hT hb1 B0
        go_wp2_with fail
        refine (B.name_at (.agg #[.slice (some ⟨b0, 0, none⟩) 74 74, .slice (some ⟨b1, 0, none⟩) 10 10, .slice (some ⟨b2, 0, none⟩) 11 11, .slice (some ⟨b3, 0, none⟩) 42 42]) s _ K0.out.table LS.out HB.out).mono ?_
        rintro e w2 ⟨rfl, hb⟩
        have K1 := Lib.hid (K0.out.next hb)
        clear hb K0 hS c0 c1 c2 c3
        obtain ⟨hS, c0, c1, c2, c3⟩ := K1.out.held
        go_wp2_with fail
        refine (HF.out (.agg #[.slice (some ⟨b0, 0, none⟩) 74 74, .slice (some ⟨b1, 0, none⟩) 10 10, .slice (some ⟨b2, 0, none⟩) 11 11, .slice (some ⟨b3, 0, none⟩) 42 42]) _ K1.out.table).mono ?_
        rintro e w3 ⟨rfl, hb⟩
        have K2 := Lib.hid (K1.out.next hb)
        clear hb K1 hS c0 c1 c2 c3
        obtain ⟨hS, c0, c1, c2, c3⟩ := K2.out.held
        go_wp2_with fail
        refine (B.name_at (.agg #[.slice (some ⟨b0, 0, none⟩) 74 74, .slice (some ⟨b1, 0, none⟩) 10 10, .slice (some ⟨b2, 0, none⟩) 11 11, .slice (some ⟨b3, 0, none⟩) 42 42]) ⟨x.toArray⟩ _ K2.out.table LX.out HX.out).mono ?_
        rintro e w4 ⟨rfl, hb⟩
        have K3 := Lib.hid (K2.out.next hb)
        clear hb K2 hS c0 c1 c2 c3
        obtain ⟨hS, c0, c1, c2, c3⟩ := K3.out.held
        go_wp2_with fail
        refine (B.name_at (.agg #[.slice (some ⟨b0, 0, none⟩) 74 74, .slice (some ⟨b1, 0, none⟩) 10 10, .slice (some ⟨b2, 0, none⟩) 11 11, .slice (some ⟨b3, 0, none⟩) 42 42]) ⟨n.toArray⟩ _ K3.out.table LN.out HN.out).mono ?_
        rintro e w5 ⟨rfl, hb⟩
        have K4 := Lib.hid (K3.out.next hb)
        clear hb K3 hS c0 c1 c2 c3
        obtain ⟨hS, c0, c1, c2, c3⟩ := K4.out.held
        go_wp2_with fail
        refine (B.alk_at (.agg #[.slice (some ⟨b0, 0, none⟩) 74 74, .slice (some ⟨b1, 0, none⟩) 10 10, .slice (some ⟨b2, 0, none⟩) 11 11, .slice (some ⟨b3, 0, none⟩) 42 42]) s ⟨n.toArray⟩ _ K4.out.table LS.out LN.out HA.out).mono ?_
        rintro e w6 ⟨rfl, hb⟩
        have K5 := Lib.hid (K4.out.next hb)
        clear hb K4 hS c0 c1 c2 c3
        obtain ⟨hS, c0, c1, c2, c3⟩ := K5.out.held
        go_wp2_with fail
        refine (B.cls_at (.agg #[.slice (some ⟨b0, 0, none⟩) 74 74, .slice (some ⟨b1, 0, none⟩) 10 10, .slice (some ⟨b2, 0, none⟩) 11 11, .slice (some ⟨b3, 0, none⟩) 42 42]) ⟨n.toArray⟩ _ K5.out.table WN.out HC.out).mono ?_
        rintro e w7 ⟨rfl, hb⟩
        have K6 := Lib.hid (K5.out.next hb)
        clear hb K5 hS c0 c1 c2 c3
        obtain ⟨hS, c0, c1, c2, c3⟩ := K6.out.held
        go_wp2
        go_ret
        exact ⟨rfl, K6.out.below⟩
      · obtain rfl := Prec.name_err hb hE
        have HA : Hid (Prec.alike s.data.toList s.data.toList = false) := Lib.hid (by unfold Prec.alike; rw [hb, beq_eq_false_iff_ne.2 hE]; rfl)
        have e0 : (E == 0) = false := by simpa using hE
        clear hLN hnk hx hF hxe f0 d2 hr hfl hz hb hrd hs hE
        go_enter Tryz.func4, Tryz.ntmps4
        go_wp2_with fail
        refine (small10_any B _).mono ?_
        rintro e w0 ⟨rfl, hb0⟩
        have B0 := Lib.hid hb0
        clear hb0
        go_wp2_with fail
        refine (new_any _).mono ?_
        rintro e w1 ⟨tt, rfl, hT, hb1⟩
        have hT' := hT
        obtain ⟨b0, b1, b2, b3, rfl, -, -, -, -⟩ := hT'
        have K0 := Lib.hid (kept_new (b0 := b0) (b1 := b1) (b2 := b2) (b3 := b3) (below_then B0.out hb1) hT 28)
        obtain ⟨hS, c0, c1, c2, c3⟩ := K0.out.held
        clear hT hb1 B0
        go_wp2_with fail
        refine (B.name_at (.agg #[.slice (some ⟨b0, 0, none⟩) 74 74, .slice (some ⟨b1, 0, none⟩) 10 10, .slice (some ⟨b2, 0, none⟩) 11 11, .slice (some ⟨b3, 0, none⟩) 42 42]) s _ K0.out.table LS.out HB.out).mono ?_
        rintro e w2 ⟨rfl, hb⟩
        have K1 := Lib.hid (K0.out.next hb)
        clear hb K0 hS c0 c1 c2 c3
        obtain ⟨hS, c0, c1, c2, c3⟩ := K1.out.held
        go_wp2_with fail
        refine (HF.out (.agg #[.slice (some ⟨b0, 0, none⟩) 74 74, .slice (some ⟨b1, 0, none⟩) 10 10, .slice (some ⟨b2, 0, none⟩) 11 11, .slice (some ⟨b3, 0, none⟩) 42 42]) _ K1.out.table).mono ?_
        rintro e w3 ⟨rfl, hb⟩
        have K2 := Lib.hid (K1.out.next hb)
        clear hb K1 hS c0 c1 c2 c3
        obtain ⟨hS, c0, c1, c2, c3⟩ := K2.out.held
        go_wp2_with fail
        refine (B.name_at (.agg #[.slice (some ⟨b0, 0, none⟩) 74 74, .slice (some ⟨b1, 0, none⟩) 10 10, .slice (some ⟨b2, 0, none⟩) 11 11, .slice (some ⟨b3, 0, none⟩) 42 42]) ⟨x.toArray⟩ _ K2.out.table LX.out HX.out).mono ?_
        rintro e w4 ⟨rfl, hb⟩
        have K3 := Lib.hid (K2.out.next hb)
        clear hb K2 hS c0 c1 c2 c3
        obtain ⟨hS, c0, c1, c2, c3⟩ := K3.out.held
        go_wp2_with fail
        refine (B.name_at (.agg #[.slice (some ⟨b0, 0, none⟩) 74 74, .slice (some ⟨b1, 0, none⟩) 10 10, .slice (some ⟨b2, 0, none⟩) 11 11, .slice (some ⟨b3, 0, none⟩) 42 42]) ⟨#[]⟩ _ K3.out.table (lab_of (by decide)) Prec.name_empty).mono ?_
        rintro e w5 ⟨rfl, hb⟩
        have K4 := Lib.hid (K3.out.next hb)
        clear hb K3 hS c0 c1 c2 c3
        obtain ⟨hS, c0, c1, c2, c3⟩ := K4.out.held
        go_wp2_with fail
        refine (B.alk_at (.agg #[.slice (some ⟨b0, 0, none⟩) 74 74, .slice (some ⟨b1, 0, none⟩) 10 10, .slice (some ⟨b2, 0, none⟩) 11 11, .slice (some ⟨b3, 0, none⟩) 42 42]) s s _ K4.out.table LS.out LS.out HA.out).mono ?_
        rintro e w6 ⟨rfl, hb⟩
        have K5 := Lib.hid (K4.out.next hb)
        clear hb K4 hS c0 c1 c2 c3
        obtain ⟨hS, c0, c1, c2, c3⟩ := K5.out.held
        go_wp2
        go_ret
        exact ⟨rfl, K5.out.below⟩
    · have HF := Lib.hid (foldIs_no (s := s) (by omega) hrd)
      have HB : Hid (Prec.nameE s.data.toList = (7, [])) := Lib.hid (by
        unfold Prec.nameE
        rw [hrd, if_neg (by show ¬ (k : Int) = -1; omega)])
      clear hb hrd hs
      go_enter Tryz.func4, Tryz.ntmps4
      go_wp2_with fail
      refine (small10_any B _).mono ?_
      rintro e w0 ⟨rfl, hb0⟩
      have B0 := Lib.hid hb0
      clear hb0
      go_wp2_with fail
      refine (new_any _).mono ?_
      rintro e w1 ⟨tt, rfl, hT, hb1⟩
      have hT' := hT
      obtain ⟨b0, b1, b2, b3, rfl, -, -, -, -⟩ := hT'
      have K0 := Lib.hid (kept_new (b0 := b0) (b1 := b1) (b2 := b2) (b3 := b3) (below_then B0.out hb1) hT 28)
      obtain ⟨hS, c0, c1, c2, c3⟩ := K0.out.held
      clear hT hb1 B0
      go_wp2_with fail
      refine (B.name_at (.agg #[.slice (some ⟨b0, 0, none⟩) 74 74, .slice (some ⟨b1, 0, none⟩) 10 10, .slice (some ⟨b2, 0, none⟩) 11 11, .slice (some ⟨b3, 0, none⟩) 42 42]) s _ K0.out.table LS.out HB.out).mono ?_
      rintro e w2 ⟨rfl, hb⟩
      have K1 := Lib.hid (K0.out.next hb)
      clear hb K0 hS c0 c1 c2 c3
      obtain ⟨hS, c0, c1, c2, c3⟩ := K1.out.held
      go_wp2_with fail
      refine (HF.out (.agg #[.slice (some ⟨b0, 0, none⟩) 74 74, .slice (some ⟨b1, 0, none⟩) 10 10, .slice (some ⟨b2, 0, none⟩) 11 11, .slice (some ⟨b3, 0, none⟩) 42 42]) _ K1.out.table).mono ?_
      rintro e w3 ⟨rfl, hb⟩
      have K2 := Lib.hid (K1.out.next hb)
      clear hb K1 hS c0 c1 c2 c3
      obtain ⟨hS, c0, c1, c2, c3⟩ := K2.out.held
      go_wp2_with fail
      refine (B.name_at (.agg #[.slice (some ⟨b0, 0, none⟩) 74 74, .slice (some ⟨b1, 0, none⟩) 10 10, .slice (some ⟨b2, 0, none⟩) 11 11, .slice (some ⟨b3, 0, none⟩) 42 42]) ⟨#[]⟩ _ K2.out.table (lab_of (by decide)) Prec.name_empty).mono ?_
      rintro e w4 ⟨rfl, hb⟩
      have K3 := Lib.hid (K2.out.next hb)
      clear hb K2 hS c0 c1 c2 c3
      obtain ⟨hS, c0, c1, c2, c3⟩ := K3.out.held
      go_wp2
      go_ret
      exact ⟨rfl, K3.out.below⟩
  · have hnz : (150 : Int) < (s.size : Int) := by omega
    go_enter Tryz.func4, Tryz.ntmps4
    go_wp2_with fail
    refine (small10_any B _).mono ?_
    rintro e w0 ⟨rfl, hb0⟩
    have B0 := Lib.hid hb0
    clear hb0
    go_wp2
    go_ret
    exact ⟨rfl, B0.out⟩
end Go.Proofs.YtmbammhkkcnoaaaGreat
