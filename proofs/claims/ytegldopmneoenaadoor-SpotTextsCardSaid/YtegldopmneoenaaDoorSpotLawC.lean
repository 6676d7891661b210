/-
  Proved here: the law SpotTexts, given what the program's five functions tell. Conditions: none.
-/
import Derived.Test.YtegldopmneoenaaDoorSpotFits
namespace Go.Proofs.YtegldopmneoenaaDoor
open Go.RowKit
set_option maxHeartbeats 8000000 in
set_option maxRecDepth 100000 in
theorem texts11_walk (B : SpotOk) (s : ByteArray) (i j : Int) (w : World) (hT : Tabs w) : Calls Tryd.prog 7 #[.string s, .int .i64 i, .int .i64 j] w fun e w' => e = .returned (.bool true) ∧ Below w.heap.size w w' := by
  have T := Lib.hid hT
  clear hT
  have hsl : s.data.toList.length = s.size := by simp
  by_cases hs : s.size ≤ 300 ∧ 0 ≤ i ∧ i ≤ (s.size : Int) ∧ 0 ≤ j ∧ j ≤ (s.size : Int)
  case neg =>
    have hcs : decide ((300 : Int) < (s.size : Int)) = true ∨ (decide ((300 : Int) < (s.size : Int)) = false ∧ (decide (i < 0) = true ∨ (decide (i < 0) = false ∧ (decide ((s.size : Int) < i) = true ∨ (decide ((s.size : Int) < i) = false ∧ (decide (j < 0) = true ∨ (decide (j < 0) = false ∧ (decide ((s.size : Int) < j) = true)))))))) := by
      by_cases h0 : (300 : Int) < (s.size : Int)
      · exact .inl (decide_eq_true h0)
      refine .inr ⟨decide_eq_false h0, ?_⟩
      by_cases h1 : i < 0
      · exact .inl (decide_eq_true h1)
      refine .inr ⟨decide_eq_false h1, ?_⟩
      by_cases h2 : (s.size : Int) < i
      · exact .inl (decide_eq_true h2)
      refine .inr ⟨decide_eq_false h2, ?_⟩
      by_cases h3 : j < 0
      · exact .inl (decide_eq_true h3)
      refine .inr ⟨decide_eq_false h3, ?_⟩
      exact decide_eq_true (by omega)
    clear hs
    rcases hcs with q0 | ⟨q0, q1 | ⟨q1, q2 | ⟨q2, q3 | ⟨q3, q4⟩⟩⟩⟩
    all_goals
      go_enter Tryd.func7, Tryd.ntmps7
      go_wp2_with fail
      refine (small11_any B _ T.out).mono ?_
      rintro e w0 ⟨rfl, hb0⟩
      have B0 := Lib.hid hb0
      clear hb0
      go_wp2
      go_ret
      exact ⟨rfl, B0.out⟩
  obtain ⟨h1, h2, h3, h4, h5⟩ := hs
  have q0 : decide ((300 : Int) < (s.size : Int)) = false := decide_eq_false (by omega)
  have q1 : decide (i < 0) = false := decide_eq_false (by omega)
  have q2 : decide ((s.size : Int) < i) = false := decide_eq_false (by omega)
  have q3 : decide (j < 0) = false := decide_eq_false (by omega)
  have q4 : decide ((s.size : Int) < j) = false := decide_eq_false (by omega)
  obtain ⟨k, rfl⟩ : ∃ k : Nat, i = k := ⟨i.toNat, by omega⟩
  obtain ⟨l, rfl⟩ : ∃ l : Nat, j = l := ⟨j.toNat, by omega⟩
  have r1 : decide (s.size < k) = false := decide_eq_false (by omega)
  have r2 : decide (s.size < l) = false := decide_eq_false (by omega)
  have hk : k ≤ s.data.toList.length := by omega
  have hl : l ≤ s.data.toList.length := by omega
  have ck := Spot.cut_nat hk
  have cl := Spot.cut_nat hl
  have bk := Spot.spot_bd s.data.toList k
  have bl := Spot.spot_bd s.data.toList l
  have hinj := fun h => Spot.spot_inj hk hl h
  have hof1 : Spot.spot s.data.toList (Spot.cut s.data.toList (k : Int)) = Spot.spot s.data.toList k := by rw [ck]
  have hof2 : Spot.spot s.data.toList (Spot.cut s.data.toList (l : Int)) = Spot.spot s.data.toList l := by rw [cl]
  have heq : k = l → Spot.spot s.data.toList k = Spot.spot s.data.toList l := fun h => by rw [h]
  generalize Spot.spot s.data.toList k = p at hof1 bk hinj heq
  generalize Spot.spot s.data.toList l = q at hof2 bl hinj heq
  have hpart : ∀ n : Nat, n ≤ 300 → Spot.part (4 * (n : Int)) = n := fun n hn => by
    unfold Spot.part
    rw [if_neg (by omega)]
    split <;> omega
  obtain ⟨a1, ha1⟩ : ∃ x, Flt.quart (4 * (p.1 : Int)) = x := ⟨_, rfl⟩
  obtain ⟨a2, ha2⟩ : ∃ x, Flt.quart (4 * (p.2 : Int)) = x := ⟨_, rfl⟩
  obtain ⟨b1, hb1⟩ : ∃ x, Flt.quart (4 * (q.1 : Int)) = x := ⟨_, rfl⟩
  obtain ⟨b2, hb2⟩ : ∃ x, Flt.quart (4 * (q.2 : Int)) = x := ⟨_, rfl⟩
  obtain ⟨t1, ht1⟩ : ∃ x, Spot.text p.1 p.2 = x := ⟨_, rfl⟩
  obtain ⟨t2, ht2⟩ : ∃ x, Spot.text q.1 q.2 = x := ⟨_, rfl⟩
  have K1 := Lib.hid (fun W => B.of_at s (k : Int) W (by omega) hof1 ha1 ha2)
  have K2 := Lib.hid (fun W => B.of_at s (l : Int) W (by omega) hof2 hb1 hb2)
  have K3 := Lib.hid (fun W hW => B.text_at _ _ W hW (by omega) (by omega) ha1 ha2 (bs := t1) (by rw [hpart _ (by omega), hpart _ (by omega)]; exact ht1))
  have K4 := Lib.hid (fun W hW => B.text_at _ _ W hW (by omega) (by omega) hb1 hb2 (bs := t2) (by rw [hpart _ (by omega), hpart _ (by omega)]; exact ht2))
  have hcmp : (k = l ∧ t1 = t2) ∨ (k ≠ l ∧ t1 ≠ t2) := by
    by_cases h : k = l
    · exact .inl ⟨h, by rw [← ht1, ← ht2, heq h]⟩
    · refine .inr ⟨h, fun e => h (hinj ?_)⟩
      rw [← ht1, ← ht2] at e
      obtain ⟨e1, e2⟩ := Spot.text_inj e
      exact Prod.ext e1 e2
  clear ha1 ha2 hb1 hb2 ht1 ht2 bk bl hof1 hof2 ck cl hk hl hsl h1 h2 h3 h4 h5 hinj heq hpart
  rcases hcmp with ⟨rfl, rfl⟩ | ⟨g1, g2⟩
  · skip
    go_enter Tryd.func7, Tryd.ntmps7
    go_wp2_with fail
    refine (small11_any B _ T.out).mono ?_
    rintro e w0 ⟨rfl, hb0⟩
    have B0 := Lib.hid hb0
    clear hb0
    go_wp2_with fail
    with_reducible refine (K1.out _).mono ?_
    rintro e w1 ⟨rfl, hb⟩
    have B1 := Lib.hid (below_then B0.out hb)
    clear hb
    go_wp2_with fail
    with_reducible refine (K3.out _ (tabs_keep T.out B1.out)).mono ?_
    rintro e w2 ⟨rfl, hb⟩
    have B2 := Lib.hid (below_then B1.out hb)
    clear hb
    go_wp2_with fail
    with_reducible refine (K2.out _).mono ?_
    rintro e w3 ⟨rfl, hb⟩
    have B3 := Lib.hid (below_then B2.out hb)
    clear hb
    go_wp2_with fail
    with_reducible refine (K4.out _ (tabs_keep T.out B3.out)).mono ?_
    rintro e w4 ⟨rfl, hb⟩
    have B4 := Lib.hid (below_then B3.out hb)
    clear hb
    go_wp2
    go_ret
    exact ⟨rfl, B4.out⟩
  · have e1 : ((k : Int) == (l : Int)) = false := by rw [beq_eq_false_iff_ne]; omega
    have e2 : ((⟨t1.toArray⟩ : ByteArray).toList == (⟨t2.toArray⟩ : ByteArray).toList) = false := by rw [beq_eq_false_iff_ne, ByteArray.toList_eq, ByteArray.toList_eq]; exact g2
    have e3 : (t1 == t2) = false := by rw [beq_eq_false_iff_ne]; exact g2
    have e4 : (k == l) = false := by rw [beq_eq_false_iff_ne]; exact g1
    clear g1 g2
    go_enter Tryd.func7, Tryd.ntmps7
    go_wp2_with fail
    refine (small11_any B _ T.out).mono ?_
    rintro e w0 ⟨rfl, hb0⟩
    have B0 := Lib.hid hb0
    clear hb0
    go_wp2_with fail
    with_reducible refine (K1.out _).mono ?_
    rintro e w1 ⟨rfl, hb⟩
    have B1 := Lib.hid (below_then B0.out hb)
    clear hb
    go_wp2_with fail
    with_reducible refine (K3.out _ (tabs_keep T.out B1.out)).mono ?_
    rintro e w2 ⟨rfl, hb⟩
    have B2 := Lib.hid (below_then B1.out hb)
    clear hb
    go_wp2_with fail
    with_reducible refine (K2.out _).mono ?_
    rintro e w3 ⟨rfl, hb⟩
    have B3 := Lib.hid (below_then B2.out hb)
    clear hb
    go_wp2_with fail
    with_reducible refine (K4.out _ (tabs_keep T.out B3.out)).mono ?_
    rintro e w4 ⟨rfl, hb⟩
    have B4 := Lib.hid (below_then B3.out hb)
    clear hb
    go_wp2
    go_ret
    exact ⟨rfl, B4.out⟩
end Go.Proofs.YtegldopmneoenaaDoor
