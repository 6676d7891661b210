/-
  Proved here: slices.SortStableFunc's symMerge where the second of the two rows is of one: it goes to its place among the others, past those of greater class alone. Conditions: the row is one that the caller owns; both parts stand in their order; the closure's table is one that New made.
-/
import Derived.Test.YtpmcmbkilcpleaaSortSymA
namespace Go.Proofs.Ytpmcmbkilcpleaa
open Go.RowKit Utf
set_option maxHeartbeats 4000000 in
set_option maxRecDepth 100000 in
theorem sym_snd {p : Place} {bt : Nat} (hp : Bound p bt) (n cc a m : Nat) (ha : a + 1 < m) (hbn : m + 1 ≤ n) (hn : n ≤ 1000000) : SymAt p bt n cc a m (m + 1) := by
  intro d w hs hdn u1 u2
  have HS := Lib.hid hs
  have HP := Lib.hid hp
  have U1 := Lib.hid u1
  obtain ⟨x, hx⟩ : ∃ x, x = d[m]! := ⟨_, rfl⟩
  have HX := Lib.hid hx
  have HD := Lib.hid hdn
  clear hs hp u1 u2 hx hdn
  obtain ⟨b, hm⟩ : ∃ b, b = m + 1 := ⟨_, rfl⟩
  rw [← hm]
  rw [← hm] at hbn
  have hma : ((m : Int) - (a : Int) == 1) = false := by rw [beq_eq_false_iff_ne]; omega
  have hbm : (b : Int) - (m : Int) = 1 := by omega
  have hm1 : m < b := by omega
  have hm2 : b ≤ m + 1 := by omega
  have HM := Lib.hid hm
  clear hm
  go_enter Try.func70, Try.ntmps70
  go_wp2
  go_loopg [14, 15, 16] (b + 1) (fun gk si sj _ wr => ∃ (i j : Nat), si = .int .i64 i ∧ sj = .int .i64 j ∧ a ≤ i ∧ i ≤ j ∧ j ≤ m ∧ j - i < gk ∧ Hid (Seg p d wr ∧ (∀ t, a ≤ t → t < i → clsOf d[t]! ≤ clsOf x) ∧ (∀ t, j ≤ t → t < m → clsOf x < clsOf d[t]!)))
  case atStart => exact ⟨a, m, rfl, rfl, Nat.le_refl _, by omega, Nat.le_refl _, by omega, ⟨HS.out, fun t h1 h2 => by omega, fun t h1 h2 => by omega⟩⟩
  case round =>
    obtain ⟨i, j, rfl, rfl, hi, hij, hjm, hg, I⟩ := hrel
    by_cases hlt : i < j
    · obtain ⟨h, hh⟩ : ∃ h, h = (i + j) / 2 := ⟨_, rfl⟩
      have hz : ((i : Int) + (j : Int)) / 2 = (h : Int) := by omega
      have e1 : i ≤ h := by omega
      have e2 : h < j := by omega
      have HH := Lib.hid hh
      obtain ⟨y, hy⟩ : ∃ y, y = d[h]! := ⟨_, rfl⟩
      have HY := Lib.hid hy
      have c1 := I.out.1.cell h (by have := HD.out; omega)
      have c2 := I.out.1.cell m (by have := HD.out; omega)
      rw [← hy] at c1
      rw [← HX.out] at c2
      have K := Lib.hid (HP.out.cmp x y wr.drew I.out.1.drew.2.1)
      clear hh hy
      have g1 : (0 : Int) ≤ (h : Int) := by omega
      have g2 : (h : Int) < (n : Int) := by omega
      have g3 : (0 : Int) ≤ (m : Int) := by omega
      have g4 : (m : Int) < (n : Int) := by omega
      by_cases hc : clsOf x < clsOf y
      · rw [cmp3_lt hc] at K
        have HC := Lib.hid hc
        clear hc
        go_wp2
        go_region_held3 (fun w' => w'.cell? ⟨p.g, p.o + h, none⟩ = some (.int .i32 y) ∧ w'.cell? ⟨p.g, p.o + m, none⟩ = some (.int .i32 x)) (go_keep) ((go_at_call 33; (with_reducible refine K.out.mono ?_); rintro e w2 ⟨rfl, hb2⟩; have S2 := Lib.hid (I.out.1.next HP.out (below_of_drew hb2)); have d1 := S2.out.cell h (by have := HD.out; omega); have d2 := S2.out.cell m (by have := HD.out; omega); rw [← HY.out] at d1; rw [← HX.out] at d2; clear hb2 c1 c2))
        all_goals
          have J : Hid (Seg p d w2 ∧ (∀ t, a ≤ t → t < i → clsOf d[t]! ≤ clsOf x) ∧ (∀ t, h ≤ t → t < m → clsOf x < clsOf d[t]!)) :=
            ⟨S2.out, I.out.2.1, fun t h1 h2 => Int.lt_of_lt_of_le (by have := HC.out; rw [← HY.out]; omega) (U1.out.le (i := h) (j := t) (by omega) (by omega) (by omega))⟩
          clear I d1 d2
          go_wp2
          go_roundg (j - i)
          case measure => omega
          case rel => exact ⟨i, h, rfl, rfl, by omega, by omega, by omega, by omega, J⟩
      · have hv := cmp3_ge (a := clsOf x) (b := clsOf y) (by omega)
        have hv1 := (cmp3_le (clsOf x) (clsOf y)).2
        generalize cmp3 (clsOf x) (clsOf y) = v at K hv hv1
        have HC := Lib.hid hc
        have hvd : decide (v < 0) = false := by rw [decide_eq_false_iff_not]; omega
        clear hc
        go_wp2
        go_region_held3 (fun w' => w'.cell? ⟨p.g, p.o + h, none⟩ = some (.int .i32 y) ∧ w'.cell? ⟨p.g, p.o + m, none⟩ = some (.int .i32 x)) (go_keep) ((go_at_call 33; (with_reducible refine K.out.mono ?_); rintro e w2 ⟨rfl, hb2⟩; have S2 := Lib.hid (I.out.1.next HP.out (below_of_drew hb2)); have d1 := S2.out.cell h (by have := HD.out; omega); have d2 := S2.out.cell m (by have := HD.out; omega); rw [← HY.out] at d1; rw [← HX.out] at d2; clear hb2 c1 c2))
        all_goals
          have J : Hid (Seg p d w2 ∧ (∀ t, a ≤ t → t < h + 1 → clsOf d[t]! ≤ clsOf x) ∧ (∀ t, j ≤ t → t < m → clsOf x < clsOf d[t]!)) :=
            ⟨S2.out, fun t h1 h2 => Int.le_trans (U1.out.le (i := t) (j := h) (by omega) (by omega) (by omega)) (by have := HC.out; rw [← HY.out]; omega), I.out.2.2⟩
          clear I d1 d2
          go_wp2
          go_roundg (j - i)
          case measure => omega
          case rel => exact ⟨h + 1, j, by go_num, rfl, by omega, by omega, hjm, by omega, J⟩
    · obtain rfl : i = j := by omega
      go_wp2
      go_loopg [17] (b + 1) (fun gk sk wr => ∃ (k : Nat) (M : List Int), sk = .int .i64 k ∧ i ≤ k ∧ k ≤ m ∧ k < gk ∧ Hid (Seg p M wr ∧ Norm.Moved a b d M ∧ Norm.Come m k d M))
      case atStart => exact ⟨m, d, rfl, by omega, Nat.le_refl _, by omega, ⟨I.out.1, Norm.Moved.refl _ _ _, Norm.Come.start _ _⟩⟩
      case round =>
        obtain ⟨k, M, rfl, hik, hkm, hgk, J⟩ := hrel
        by_cases hkl : i < k
        · obtain ⟨k, rfl⟩ : ∃ k', k = k' + 1 := ⟨k - 1, by omega⟩
          rw [show ((k + 1 : Nat) : Int) = (k : Int) + 1 by omega]
          have hkz : (i : Int) < (k : Int) + 1 := by omega
          have hML := J.out.2.1.len
          obtain ⟨y, hy⟩ : ∃ y, y = M[k + 1]! := ⟨_, rfl⟩
          obtain ⟨z, hzz⟩ : ∃ z, z = M[k]! := ⟨_, rfl⟩
          have c1 := J.out.1.cell (k + 1) (by have := HD.out; omega)
          have c2 := J.out.1.cell k (by have := HD.out; omega)
          rw [← hy] at c1
          rw [← hzz] at c2
          have f1 := J.out.1.free (k + 1)
          have f2 := J.out.1.free k
          have J2 : Hid (Seg p (Norm.turn M k) (((wr.setCell ⟨p.g, p.o + (k + 1), none⟩ (.int .i32 z)).setCell ⟨p.g, p.o + k, none⟩ (.int .i32 y)).drew) ∧ Norm.Moved a b d (Norm.turn M k) ∧ Norm.Come m k d (Norm.turn M k)) := by
            have hdl := HD.out
            refine ⟨?_, J.out.2.1.trans (Norm.Moved.turn M (by omega) (by omega) (by omega) ?_), J.out.2.2.next (by omega) (by omega)⟩
            · have := ((J.out.1.put (k + 1) (by omega) z).put k (by rw [List.length_set]; omega) y).drew
              rwa [turn_set' hzz hy] at this
            · rw [J.out.2.2.one, J.out.2.2.out k (by omega), ← HX.out]
              exact I.out.2.2 k (by omega) (by omega)
          clear J hy hzz
          go_wp2
          go_region
          go_wp2
          go_roundg (k + 1)
          case measure => omega
          case rel => exact ⟨k, _, by go_num, by omega, by omega, by omega, J2⟩
        · obtain rfl : i = k := by omega
          have hkz : ¬ (i : Int) < (i : Int) := by omega
          have R := Lib.hid (J.out.2.2.up (a := a) hi (by omega) U1.out (fun t h1 h2 => by rw [← HX.out]; exact I.out.2.1 t h1 h2) (fun t h1 h2 => by rw [← HX.out]; exact I.out.2.2 t h1 h2))
          go_wp2
          refine bodyPost_ret (results_none rfl _ _ _) rfl ?_
          exact ⟨M, rfl, ⟨J.out.2.1, by rw [HM.out]; exact R.out⟩, J.out.1⟩
end Go.Proofs.Ytpmcmbkilcpleaa
