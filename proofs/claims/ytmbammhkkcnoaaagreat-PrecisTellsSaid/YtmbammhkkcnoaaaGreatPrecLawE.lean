/-
  Proved here: the law PrecisTells, given what the program's four functions tell. Conditions: none.
-/
import Derived.Test.YtmbammhkkcnoaaaGreatPrecSmall
import Derived.Test.YtmbammhkkcnoaaaGreatPrecRef
namespace Go.Proofs.YtmbammhkkcnoaaaGreat
open Go.RowKit Utf
set_option maxHeartbeats 8000000 in
set_option maxRecDepth 100000 in
theorem tells10_walk (B : PrecOk) (s b : ByteArray) (r : Int) (w : World) : Calls Tryz.prog 3 #[.string s, .string b, .int .i32 r] w fun e w' => e = .returned (.bool true) ∧ Below w.heap.size w w' := by
  by_cases hs : s.size ≤ 150
  · have hsz : ¬ (150 : Int) < (s.size : Int) := by omega
    have hsd : decide ((150 : Int) < (s.size : Int)) = false := decide_eq_false hsz
    by_cases hb' : b.size ≤ 150
    · have hbz : ¬ (150 : Int) < (b.size : Int) := by omega
      have hbd : decide ((150 : Int) < (b.size : Int)) = false := decide_eq_false hbz
      have LS := Lib.hid (lab_of hs)
      have LB := Lib.hid (lab_of hb')
      have WS := Lib.hid (wide_of (s := s) (by omega))
      have RS := Lib.hid (fun W => name10_ref s W (LabFits.ref hs).1 (LabFits.ref hs).2)
      have RB := Lib.hid (fun W => name10_ref b W (LabFits.ref hb').1 (LabFits.ref hb').2)
      have RC := Lib.hid (fun W => class10_ref s W (LabFits.ref hs).1 (fun m h => ((LabFits.ref hs).2 m h).1))
      have RR := Lib.hid (fun W => char10_ref r W)
      obtain ⟨⟨f, m⟩, h1⟩ : ∃ p, Prec.nameE s.data.toList = p := ⟨_, rfl⟩
      obtain ⟨⟨g, o⟩, h2⟩ : ∃ p, Prec.nameE b.data.toList = p := ⟨_, rfl⟩
      obtain ⟨c, h3⟩ : ∃ c, Prec.classE s.data.toList = c := ⟨_, rfl⟩
      obtain ⟨d, h4⟩ : ∃ d, Prec.charOk r = d := ⟨_, rfl⟩
      obtain ⟨al, h5⟩ : ∃ x, Prec.alike s.data.toList b.data.toList = x := ⟨_, rfl⟩
      rw [h1] at RS
      rw [h2] at RB
      rw [h3] at RC
      rw [h4] at RR
      have H1 := Lib.hid h1
      have H3 := Lib.hid h3
      have H4 := Lib.hid h4
      have H5 := Lib.hid h5
      unfold Prec.alike at h5
      rw [h1, h2] at h5
      simp only at h5
      have hma : ((⟨m.toArray⟩ : ByteArray).toList == (⟨o.toArray⟩ : ByteArray).toList) = (m == o) := by rw [ByteArray.toList_eq, ByteArray.toList_eq]
      clear h1 h2 h3 h4 hs hb'
      cases q1 : (f == 0) <;> cases q2 : (g == 0) <;> cases q3 : (m == o) <;> rw [q1, q2, q3] at h5 <;> rw [q3] at hma <;> subst h5
      all_goals
        skip
        go_enter Tryz.func3, Tryz.ntmps3
        go_wp2_with fail
        refine (small10_any B _).mono ?_
        rintro e w0 ⟨rfl, hb0⟩
        have B0 := Lib.hid hb0
        clear hb0
        go_wp2_with fail
        refine (new_any _).mono ?_
        rintro e w1 ⟨tt, rfl, hT, hb1⟩
        have hT' := hT
        obtain ⟨b0, b1, b2, b3, rfl, -, -, -, -⟩ := hT'
        have K0 := Lib.hid (kept_new (b0 := b0) (b1 := b1) (b2 := b2) (b3 := b3) (below_then B0.out hb1) hT 28)
        obtain ⟨hS, c0, c1, c2, c3⟩ := K0.out.held
        clear hT hb1 B0
        go_wp2_with fail
        refine (B.name_at (.agg #[.slice (some ⟨b0, 0, none⟩) 74 74, .slice (some ⟨b1, 0, none⟩) 10 10, .slice (some ⟨b2, 0, none⟩) 11 11, .slice (some ⟨b3, 0, none⟩) 42 42]) s _ K0.out.table LS.out H1.out).mono ?_
        rintro e w2 ⟨rfl, hb⟩
        have K1 := Lib.hid (K0.out.next hb)
        clear hb K0 hS c0 c1 c2 c3
        obtain ⟨hS, c0, c1, c2, c3⟩ := K1.out.held
        go_wp2_with fail
        refine (RS.out _).mono ?_
        rintro e w3 ⟨rfl, hb⟩
        have K2 := Lib.hid (K1.out.next hb)
        clear hb K1 hS c0 c1 c2 c3
        obtain ⟨hS, c0, c1, c2, c3⟩ := K2.out.held
        go_wp2_with fail
        refine (RB.out _).mono ?_
        rintro e w4 ⟨rfl, hb⟩
        have K3 := Lib.hid (K2.out.next hb)
        clear hb K2 hS c0 c1 c2 c3
        obtain ⟨hS, c0, c1, c2, c3⟩ := K3.out.held
        go_wp2_with fail
        refine (B.cls_at (.agg #[.slice (some ⟨b0, 0, none⟩) 74 74, .slice (some ⟨b1, 0, none⟩) 10 10, .slice (some ⟨b2, 0, none⟩) 11 11, .slice (some ⟨b3, 0, none⟩) 42 42]) s _ K3.out.table WS.out H3.out).mono ?_
        rintro e w5 ⟨rfl, hb⟩
        have K4 := Lib.hid (K3.out.next hb)
        clear hb K3 hS c0 c1 c2 c3
        obtain ⟨hS, c0, c1, c2, c3⟩ := K4.out.held
        go_wp2_with fail
        refine (RC.out _).mono ?_
        rintro e w6 ⟨rfl, hb⟩
        have K5 := Lib.hid (K4.out.next hb)
        clear hb K4 hS c0 c1 c2 c3
        obtain ⟨hS, c0, c1, c2, c3⟩ := K5.out.held
        go_wp2_with fail
        refine (B.char_at (.agg #[.slice (some ⟨b0, 0, none⟩) 74 74, .slice (some ⟨b1, 0, none⟩) 10 10, .slice (some ⟨b2, 0, none⟩) 11 11, .slice (some ⟨b3, 0, none⟩) 42 42]) r _ K5.out.table H4.out).mono ?_
        rintro e w7 ⟨rfl, hb⟩
        have K6 := Lib.hid (K5.out.next hb)
        clear hb K5 hS c0 c1 c2 c3
        obtain ⟨hS, c0, c1, c2, c3⟩ := K6.out.held
        go_wp2_with fail
        refine (RR.out _).mono ?_
        rintro e w8 ⟨rfl, hb⟩
        have K7 := Lib.hid (K6.out.next hb)
        clear hb K6 hS c0 c1 c2 c3
        obtain ⟨hS, c0, c1, c2, c3⟩ := K7.out.held
        go_wp2_with fail
        refine (B.alk_at (.agg #[.slice (some ⟨b0, 0, none⟩) 74 74, .slice (some ⟨b1, 0, none⟩) 10 10, .slice (some ⟨b2, 0, none⟩) 11 11, .slice (some ⟨b3, 0, none⟩) 42 42]) s b _ K7.out.table LS.out LB.out H5.out).mono ?_
        rintro e w9 ⟨rfl, hb⟩
        have K8 := Lib.hid (K7.out.next hb)
        clear hb K7 hS c0 c1 c2 c3
        obtain ⟨hS, c0, c1, c2, c3⟩ := K8.out.held
        go_wp2
        go_ret
        exact ⟨rfl, K8.out.below⟩
    · have hbz : (150 : Int) < (b.size : Int) := by omega
      have hbd : decide ((150 : Int) < (b.size : Int)) = true := decide_eq_true hbz
      go_enter Tryz.func3, Tryz.ntmps3
      go_wp2_with fail
      refine (small10_any B _).mono ?_
      rintro e w0 ⟨rfl, hb0⟩
      have B0 := Lib.hid hb0
      clear hb0
      go_wp2
      go_ret
      exact ⟨rfl, B0.out⟩
  · have hnz : (150 : Int) < (s.size : Int) := by omega
    have hnd : decide ((150 : Int) < (s.size : Int)) = true := decide_eq_true hnz
    go_enter Tryz.func3, Tryz.ntmps3
    go_wp2_with fail
    refine (small10_any B _).mono ?_
    rintro e w0 ⟨rfl, hb0⟩
    have B0 := Lib.hid hb0
    clear hb0
    go_wp2
    go_ret
    exact ⟨rfl, B0.out⟩
end Go.Proofs.YtmbammhkkcnoaaaGreat
