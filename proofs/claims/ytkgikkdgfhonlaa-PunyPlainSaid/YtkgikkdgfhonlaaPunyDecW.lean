/-
  Proved here: the document's own 'Decode' of layer 5, walked. Conditions: the string has at most 1,000 bytes.
-/
import Derived.Test.YtkgikkdgfhonlaaPunyDec
namespace Go.Proofs.Ytkgikkdgfhonlaa
open Go.RowKit Utf
theorem dec_next {bs : List UInt8} {n a u L m : Nat} {ro : List Int} {rn ri q d b b' : Int} {f : Bool} {base : Nat} {v : Value} {w' : World}
    (I : ∃ fuel, n ≤ a + fuel ∧ Puny.decB bs = Puny.decL fuel (bs.drop a) b f ⟨ro, rn, ri⟩)
    (hgood : ∀ (r : Puny.Rd) (f : Bool) (fuel : Nat), Puny.okStep r d = true → Puny.decL (fuel + 1) (bs.drop a) b f r = Puny.decL fuel ((bs.drop a).drop u) (Puny.adapt d ((r.out.length : Int) + 1) f) false (Puny.rstep r d))
    (hL : L = ro.length) (hq : (ri + d) / ((L : Int) + 1) = q) (hm : (ri + d) % ((L : Int) + 1) = (m : Int)) (hb : b' = Puny.adapt d ((L : Int) + 1) f) (hov : ri + d ≤ 2147483647) (hR : rightZ (rn + q) = true) (hlt : a < n) (hu : 0 + 1 ≤ u)
    (ho : OwnR base v (ro.take m ++ [rn + q] ++ ro.drop m) w') :
    OwnR base v (ro.take m ++ [rn + q] ++ ro.drop m) w' ∧ (ro.take m ++ [rn + q] ++ ro.drop m).length = L + 1 ∧ ∃ fuel, n ≤ a + u + fuel ∧ Puny.decB bs = Puny.decL fuel (bs.drop (a + u)) b' false ⟨ro.take m ++ [rn + q] ++ ro.drop m, rn + q, m + 1⟩ := by
  obtain ⟨fuel, h1, h2⟩ := I
  obtain ⟨k, rfl⟩ : ∃ k, fuel = k + 1 := ⟨fuel - 1, by omega⟩
  have hm1 := Int.emod_lt_of_pos (ri + d) (show (0 : Int) < (L : Int) + 1 by omega)
  refine ⟨ho, by simp only [List.length_append, List.length_take, List.length_drop, List.length_singleton]; omega, k, by omega, ?_⟩
  rw [h2, hgood _ _ _ (by
    unfold Puny.okStep Puny.limit
    show (decide (ri + d ≤ 2147483647) && rightZ (rn + (ri + d) / ((ro.length : Int) + 1))) = true
    rw [← hL, hq, hR, decide_eq_true hov]; rfl), List.drop_drop]
  have e1 : Puny.rstep ⟨ro, rn, ri⟩ d = ⟨ro.take m ++ [rn + q] ++ ro.drop m, rn + q, m + 1⟩ := by
    have h3 := Puny.rstep_out ⟨ro, rn, ri⟩ d
    have h4 : (Puny.rstep ⟨ro, rn, ri⟩ d).n = rn + q := by show rn + (ri + d) / ((ro.length : Int) + 1) = rn + q; rw [← hL, hq]
    have h5 : (Puny.rstep ⟨ro, rn, ri⟩ d).i = (m : Int) + 1 := by show (ri + d) % ((ro.length : Int) + 1) + 1 = m + 1; rw [← hL, hm]
    have h6 : (Puny.rstep ⟨ro, rn, ri⟩ d).out = ro.take m ++ [rn + q] ++ ro.drop m := by
      rw [h3, h4]
      show ro.take ((ri + d) % ((ro.length : Int) + 1)).toNat ++ ((rn + q) :: ro.drop ((ri + d) % ((ro.length : Int) + 1)).toNat) = _
      rw [← hL, hm]
      simp
    cases hr : Puny.rstep ⟨ro, rn, ri⟩ d with
    | mk o n i => rw [hr] at h4 h5 h6; simp only at h4 h5 h6; rw [h4, h5, h6]
  rw [e1, hb, hL]
set_option maxHeartbeats 8000000 in
set_option maxRecDepth 100000 in
theorem decode5_any (s : ByteArray) (w : World) (hs : s.size ≤ 1000) :
    Calls Try.prog 19 #[.string s] w (DecPost (Puny.decB s.data.toList) w) := by
  go_enter Try.func19, Try.ntmps19
  go_wp2
  go_loopg [5, 6] (s.size + 1) (fun gk s5 s6 wr => ∃ k a : Nat, s5 = .int .i64 a ∧ s6 = .int .i64 k ∧ k ≤ s.size ∧ a ≤ k ∧ s.size - k < gk ∧ Hid (Puny.dashFrom (s.data.toList.drop k) k a = Puny.dashAt s.data.toList ∧ Puny.wideB (s.data.toList.drop k) = Puny.wideB s.data.toList ∧ w = wr))
  case atStart => exact ⟨0, 0, rfl, rfl, Nat.zero_le _, Nat.le_refl _, by omega, ⟨rfl, rfl, rfl⟩⟩
  case round =>
    obtain ⟨k, a, rfl, rfl, hk, hak, hg, I⟩ := hrel
    by_cases hlt : k < s.size
    · have hkz : (k : Int) < (s.size : Int) := by omega
      have hd := drop_next s k hlt
      have hub : s[k].toNat < 256 := s[k].toNat_lt
      obtain ⟨i1, i2, hW⟩ := I.out
      rw [hd] at i1 i2
      rw [Puny.dashFrom] at i1
      clear hd I
      by_cases h1 : 127 < s[k].toNat
      · have hz1 : (127 : Int) < (s[k].toNat : Int) := by omega
        have hno : Puny.decB s.data.toList = none := by
          unfold Puny.decB
          rw [← i2]
          unfold Puny.wideB
          rw [List.any_cons, decide_eq_true h1, Bool.true_or, if_pos rfl]
        have HN := Lib.hid hno
        have HW := Lib.hid hW
        clear i1 i2 hno hW
        go_wp2
        go_ret2
        exact dec_no HN.out (by rw [HW.out]; exact Below.refl _ _)
      · have hz1 : (s[k].toNat : Int) ≤ 127 := by omega
        rw [any_next h1] at i2
        by_cases h2 : s[k].toNat = 45
        · rw [if_pos h2] at i1
          have hz2 : (s[k].toNat : Int) = 45 := by omega
          have J : Hid (Puny.dashFrom (s.data.toList.drop (k + 1)) (k + 1) k = Puny.dashAt s.data.toList ∧ Puny.wideB (s.data.toList.drop (k + 1)) = Puny.wideB s.data.toList ∧ w = wr) := ⟨i1, i2, hW⟩
          clear i1 i2 h1 h2 hW
          go_wp2
          go_roundg (s.size - k)
          case measure => omega
          case rel => exact ⟨k + 1, k, rfl, by go_num, by omega, by omega, by omega, J⟩
        · rw [if_neg h2] at i1
          have hz2 : ((s[k].toNat : Int) == 45) = false := by simp; omega
          have J : Hid (Puny.dashFrom (s.data.toList.drop (k + 1)) (k + 1) a = Puny.dashAt s.data.toList ∧ Puny.wideB (s.data.toList.drop (k + 1)) = Puny.wideB s.data.toList ∧ w = wr) := ⟨i1, i2, hW⟩
          clear i1 i2 h1 h2 hW
          go_wp2
          go_roundg (s.size - k)
          case measure => omega
          case rel => exact ⟨k + 1, a, rfl, by go_num, by omega, by omega, by omega, J⟩
    · obtain rfl : k = s.size := by omega
      obtain ⟨i1, i2, rfl⟩ := I.out
      rw [List.drop_of_length_le (by simp)] at i1 i2
      have hDl := Puny.dashAt_lt s.data.toList
      have hDz : a = Puny.dashAt s.data.toList := i1
      have hdec : Puny.decB s.data.toList = Puny.decL s.size (s.data.toList.drop (Puny.tailAt s.data.toList)) 72 true (Puny.start ((s.data.toList.take a).map Puny.byteZ)) := by
        unfold Puny.decB
        rw [← i2, if_neg (by decide), ← hDz]
        congr 1
      have htl : Puny.tailAt s.data.toList = if a = 0 then 0 else a + 1 := by unfold Puny.tailAt; rw [← hDz]
      have hal : a = 0 ∨ (0 < a ∧ a < s.size) := by
        rw [← hDz] at hDl
        have : a = 0 ∨ a < s.size := by simpa using hDl
        omega
      rw [htl] at hdec
      have HD := Lib.hid hdec
      clear i1 i2 I hDl hDz hdec htl
      go_wp2
      go_loopg [4, 7] (a + 1) (fun gk v s7 wr => ∃ k : Nat, s7 = .int .i64 k ∧ k ≤ a ∧ a - k < gk ∧ Hid (OwnR w.heap.size v ((s.data.toList.take k).map Puny.byteZ) wr ∧ Below w.heap.size w wr))
      case atStart => exact ⟨0, rfl, Nat.zero_le _, by omega, ⟨OwnR.nil _ _, Below.refl _ _⟩⟩
      case round =>
        obtain ⟨k, rfl, hk2, hg2, I⟩ := hrel
        by_cases hlt2 : k < a
        · have hkz : (k : Int) < (a : Int) := by omega
          have hks : k < s.size := by omega
          have hksz : (k : Int) < (s.size : Int) := by omega
          have hub : s[k].toNat < 256 := s[k].toNat_lt
          have hnx : (s.data.toList.take (k + 1)).map Puny.byteZ = (s.data.toList.take k).map Puny.byteZ ++ [(s[k].toNat : Int)] := by
            rw [List.take_succ_eq_append_getElem (by simpa using hks), List.map_append]
            rfl
          have hle : ((s.data.toList.take k).map Puny.byteZ).length ≤ 1000000 := by rw [List.length_map, List.length_take]; omega
          have HN := Lib.hid hnx
          clear hnx
          go_wp2_with (at_builtin; refine append_cells wr 29 21 (.int .i32 0) 4 Try.underlying29 info_i32 rfl (by omega) w.heap.size u4 _ _ I.out.1 I.out.2.size hle 1 (by omega) _ rfl rfl rfl _ _ rfl rfl rfl ?_; intro v3 w3 ho3 hb3; have HO := Lib.hid ho3; have HB3 := Lib.hid hb3; clear ho3 hb3)
          have I2 : Hid (OwnR w.heap.size v3 ((s.data.toList.take (k + 1)).map Puny.byteZ) w3 ∧ Below w.heap.size w w3) := by
            refine ⟨?_, I.out.2.trans HB3.out⟩
            rw [HN.out]
            exact OwnR.more HO.out rfl rfl
          go_roundg (a - k)
          case measure => omega
          case rel => exact ⟨k + 1, by go_num, by omega, by omega, I2⟩
        · obtain rfl : k = a := by omega
          rcases hal with h0 | ⟨h0, h00⟩
          · subst h0
            rw [if_pos (rfl : (0 : Nat) = 0)] at HD
            go_wp2
            go_loopg [4, 5, 8, 9, 10, 11, 12, 13, 14, 15] (s.size + 1) (fun gk v s5 s8 s9 s10 s11 _ _ _ _ wr => ∃ (a : Nat) (r : Puny.Rd) (b : Int) (f : Bool), s5 = .int .i64 a ∧ s8 = .int .i64 r.n ∧ s9 = .int .i64 r.i ∧ s10 = .int .i64 b ∧ s11 = .bool f ∧ a ≤ s.size ∧ s.size - a < gk ∧ 0 ≤ r.n ∧ r.n ≤ 1114111 ∧ 0 ≤ r.i ∧ r.i ≤ r.out.length ∧ r.out.length ≤ a ∧ 0 ≤ b ∧ b ≤ 5000000000 ∧
              Hid (OwnR w.heap.size v r.out wr ∧ Below w.heap.size w wr ∧ ∃ fuel, s.size ≤ a + fuel ∧ Puny.decB s.data.toList = Puny.decL fuel (s.data.toList.drop a) b f r))
            case atStart => exact ⟨0, Puny.start ((s.data.toList.take 0).map Puny.byteZ), 72, true, rfl, rfl, rfl, rfl, rfl, by omega, by omega, (show (0 : Int) ≤ 128 by decide), (show (128 : Int) ≤ 1114111 by decide), Int.le_refl _, Int.natCast_nonneg _, Nat.le_refl _, by decide, by decide, ⟨I.out.1, I.out.2, s.size, by omega, HD.out⟩⟩
            case round =>
              clear I HD
              obtain ⟨a, ⟨ro, rn, ri⟩, b, f, rfl, rfl, rfl, rfl, rfl, ha, hg3, hn0, hn1, hi0, hi1, hla, hb0, hb1, I⟩ := hrel
              simp only at hn0 hn1 hi0 hi1 hla I
              by_cases hlt3 : a < s.size
              · have haz : (a : Int) < (s.size : Int) := by omega
                have KN := number5_any (s.extract a s.size) b wr (by simp; omega) (by omega)
                rw [extract_drop] at KN
                have hd := drop_next s a hlt3
                cases hN : Puny.numB b (s.data.toList.drop a) 36 1 0 0 with
                | none =>
                  rw [hN] at KN
                  have hno : Puny.decB s.data.toList = none := by
                    obtain ⟨fuel, -, h⟩ := I.out.2.2
                    rw [h, hd]
                    rw [hd] at hN
                    exact Puny.decL_none hN
                  have HK := Lib.hid KN
                  have HNO := Lib.hid hno
                  clear KN hno hN hd
                  go_wp2_with fail
                  refine HK.out.mono ?_
                  rintro e w1 ⟨rfl, rfl⟩
                  simp only [Puny.numAns]
                  go_wp2
                  go_ret2
                  exact dec_no HNO.out I.out.2.1
                | some p =>
                  obtain ⟨d, u⟩ := p
                  rw [hN] at KN
                  obtain ⟨hd0, hd1, hu0, hu1⟩ := Puny.numB_bd b _ _ _ _ _ _ _ hN (by decide) (by decide)
                  have hu2 : u ≤ s.size - a := by simpa using hu1
                  unfold Puny.limit at hd1
                  have huz : ((u : Int) == 0) = false := by simp; omega
                  have HK := Lib.hid KN
                  have hbad := fun (r : Puny.Rd) (f : Bool) (fuel : Nat) (h : Puny.okStep r d = false) => Puny.decL_bad (k := fuel) (f := f) (hd ▸ hN) h
                  have hgood := fun (r : Puny.Rd) (f : Bool) (fuel : Nat) (h : Puny.okStep r d = true) => Puny.decL_more (k := fuel) (f := f) (hd ▸ hN) h
                  simp only [← hd] at hbad hgood
                  have HBAD := Lib.hid hbad
                  have HGOOD := Lib.hid hgood
                  clear KN hN hd hu1 hbad hgood
                  go_wp2_with fail
                  refine HK.out.mono ?_
                  rintro e w1 ⟨rfl, rfl⟩
                  simp only [Puny.numAns]
                  clear HK
                  by_cases hov : ri + d ≤ 2147483647
                  · have hsum : 0 ≤ ri + d := by omega
                    obtain ⟨A4, c4, hv4, hA4⟩ := I.out.1.shape
                    subst hv4
                    obtain ⟨L, hL⟩ : ∃ L, L = ro.length := ⟨_, rfl⟩
                    have hq0 := Int.ediv_nonneg hsum (show (0 : Int) ≤ (L : Int) + 1 by omega)
                    have hq1 := Int.ediv_le_self ((L : Int) + 1) hsum
                    have hm0 := Int.emod_nonneg (ri + d) (show (L : Int) + 1 ≠ 0 by omega)
                    have hm1 := Int.emod_lt_of_pos (ri + d) (show (0 : Int) < (L : Int) + 1 by omega)
                    obtain ⟨q, hq⟩ : ∃ q, (ri + d) / ((L : Int) + 1) = q := ⟨_, rfl⟩
                    obtain ⟨m, hm⟩ : ∃ m : Nat, (ri + d) % ((L : Int) + 1) = (m : Int) := ⟨((ri + d) % ((L : Int) + 1)).toNat, by omega⟩
                    rw [hq] at hq0 hq1
                    rw [hm] at hm0 hm1
                    have hML : m ≤ L := by omega
                    have hLz : (L : Int) ≤ 1000 := by omega
                    have hqz : q ≤ 2147483647 := by omega
                    have hiL : ri ≤ (L : Int) := by omega
                    have KA := Lib.hid (adapt5_any d ((L : Int) + 1) f wr (by omega) (by omega))
                    have hab := Puny.adapt_bd (delta := d) (count := (L : Int) + 1) f (by omega) (by omega)
                    obtain ⟨b', hb'⟩ : ∃ b', b' = Puny.adapt d ((L : Int) + 1) f := ⟨_, rfl⟩
                    rw [← hb'] at KA hab
                    rw [← hL]
                    have HB' := Lib.hid hb'
                    have HLL := Lib.hid hL
                    clear hb' hL
                    go_wp2_with fail
                    with_reducible refine KA.out.mono ?_
                    rintro e w1 ⟨rfl, rfl⟩
                    clear KA
                    by_cases hN : rn + q ≤ 1114111
                    · have KR := Lib.hid (refRight_any (rn + q) wr)
                      have hpos : (0 : Int) ≤ rn + q := by omega
                      go_wp2_with fail
                      with_reducible refine KR.out.mono ?_
                      rintro e w1 ⟨rfl, rfl⟩
                      clear KR
                      cases hR : rightZ (rn + q) with
                      | false =>
                        have hno : Puny.decB s.data.toList = none := by
                          obtain ⟨fuel, -, h⟩ := I.out.2.2
                          rw [h]
                          refine HBAD.out _ _ _ ?_
                          unfold Puny.okStep
                          show (decide (ri + d ≤ Puny.limit) && rightZ (rn + (ri + d) / ((ro.length : Int) + 1))) = false
                          rw [← HLL.out, hq, hR, Bool.and_false]
                        have HNO := Lib.hid hno
                        clear hno HBAD HGOOD
                        go_wp2
                        go_ret2
                        exact dec_no HNO.out I.out.2.1
                      | true =>
                        rcases I.out.1.parted with ⟨hv, hr0⟩ | ⟨g, c, hv, hcL, hg0, hg1⟩
                        · injection hv with hv1 hv2 hv3
                          subst hv1 hv3
                          have hL0 : L = 0 := by have := HLL.out; omega
                          subst hL0
                          have hm00 : m = 0 := by omega
                          subst hm00
                          have R1 : Hid (Runes (.slice none 0 0) (ro.take 0) wr) := Lib.hid (runes_nil wr)
                          have R2 : Hid (Runes (.slice none 0 0) (ro.drop 0) wr) := Lib.hid (by rw [hr0]; exact runes_nil wr)
                          have hLa : 0 ≤ a := by omega
                          clear hr0 hv2
                          go_wp2_with (first
                            | (at_builtin; refine append_row (wr.alloc (.cells #[] 21)) 29 21 (.int .i32 0) 4 Try.underlying29 info_i32 rfl (by omega) wr.heap.size _ _ _ (own_empty wr _ (Nat.le_refl _)) (by simp) (by omega) _ _ (R1.out.keep (below_one _ _)) (one_runes _) (by rw [List.length_map, List.length_take]; omega) rfl _ _ rfl rfl rfl ?_; intro v3 w3 ho3 hb3; have O3 : Hid (OwnR wr.heap.size v3 (ro.take 0) w3) := Lib.hid (OwnR.more (l := []) (ns := ro.take 0) ho3 rfl (by rw [List.length_map])); have B3 := Lib.hid ((below_one wr _).trans hb3); clear ho3 hb3)
                            | (at_builtin; refine append_cells w3 29 21 (.int .i32 0) 4 Try.underlying29 info_i32 rfl (by omega) wr.heap.size v3 _ _ O3.out B3.out.size (by rw [List.length_take]; omega) 1 (by omega) _ rfl rfl rfl _ _ rfl rfl rfl ?_; intro v4 w4 ho4 hb4; have O4 : Hid (OwnR wr.heap.size v4 (ro.take 0 ++ [rn + q]) w4) := Lib.hid (OwnR.more ho4 rfl rfl); have B4 := Lib.hid (B3.out.trans hb4); clear ho4 hb4)
                            | (at_builtin; refine append_row w4 29 21 (.int .i32 0) 4 Try.underlying29 info_i32 rfl (by omega) wr.heap.size _ _ _ O4.out B4.out.size (by simp only [List.length_append, List.length_take, List.length_singleton]; omega) _ _ (R2.out.keep B4.out) (one_runes _) (by rw [List.length_map, List.length_drop]; omega) rfl _ _ rfl rfl rfl ?_; intro v5 w5 ho5 hb5; have O5 : Hid (OwnR wr.heap.size v5 (ro.take 0 ++ [rn + q] ++ ro.drop 0) w5) := Lib.hid (OwnR.more (ns := ro.drop 0) ho5 rfl (by rw [List.length_map])); have B5 := Lib.hid (B4.out.trans hb5); clear ho5 hb5))
                          have J := dec_next I.out.2.2 HGOOD.out HLL.out hq hm HB'.out hov hR hlt3 hu0 O5.out
                          have I2 := Lib.hid (And.intro (J.1.lower I.out.2.1.size) (And.intro (I.out.2.1.trans (B5.out.mono I.out.2.1.size)) J.2.2))
                          have hl2 := J.2.1
                          clear I O3 O4 O5 J R1 R2 HGOOD HBAD HB'
                          go_roundg (s.size - a)
                          case measure => omega
                          case rel => exact ⟨a + u, ⟨ro.take 0 ++ [rn + q] ++ ro.drop 0, rn + q, ((0 : Nat) : Int) + 1⟩, b', false, by go_num, rfl, rfl, rfl, rfl, by omega, by omega, (show (0 : Int) ≤ rn + q by omega), (show rn + q ≤ 1114111 by omega), (show (0 : Int) ≤ ((0 : Nat) : Int) + 1 by omega), (show ((0 : Nat) : Int) + 1 ≤ (((ro.take 0 ++ [rn + q] ++ ro.drop 0).length : Nat) : Int) by rw [hl2]; omega), (show (ro.take 0 ++ [rn + q] ++ ro.drop 0).length ≤ a + u by rw [hl2]; omega), by omega, by omega, I2⟩
                        · injection hv with hv1 hv2 hv3
                          subst hv1 hv3
                          have hcz : (L : Int) ≤ (c4 : Int) := by rw [← HLL.out] at hcL; omega
                          have hmz : (m : Int) ≤ (L : Int) := by omega
                          have hmcz : (m : Int) ≤ (c4 : Int) := by omega
                          have hmr : m ≤ ro.length := by rw [← HLL.out]; exact hML
                          have hLa : L ≤ a := by rw [HLL.out]; exact hla
                          have R1 := Lib.hid (I.out.1.front hmr hcL hg1)
                          by_cases hmc : m = c4
                          · subst hmc
                            obtain rfl : L = m := by omega
                            have hdr : ro.drop L = [] := List.drop_of_length_le (by rw [HLL.out]; exact Nat.le_refl _)
                            have R2 : Hid (Runes (.slice (some ⟨g, 0, none⟩) 0 0) (ro.drop L) wr) := Lib.hid (by rw [hdr]; exact ⟨some ⟨g, 0, none⟩, 0, rfl, Nat.le_refl _, fun e => (by cases e), fun h => absurd h (by simp)⟩)
                            clear hdr
                            go_wp2_with (first
                              | (at_builtin; refine append_row (wr.alloc (.cells #[] 21)) 29 21 (.int .i32 0) 4 Try.underlying29 info_i32 rfl (by omega) wr.heap.size _ _ _ (own_empty wr _ (Nat.le_refl _)) (by simp) (by omega) _ _ (R1.out.keep (below_one _ _)) (one_runes _) (by rw [List.length_map, List.length_take]; omega) rfl _ _ rfl rfl rfl ?_; intro v3 w3 ho3 hb3; have O3 : Hid (OwnR wr.heap.size v3 (ro.take L) w3) := Lib.hid (OwnR.more (l := []) (ns := ro.take L) ho3 rfl (by rw [List.length_map])); have B3 := Lib.hid ((below_one wr _).trans hb3); clear ho3 hb3)
                              | (at_builtin; refine append_cells w3 29 21 (.int .i32 0) 4 Try.underlying29 info_i32 rfl (by omega) wr.heap.size v3 _ _ O3.out B3.out.size (by rw [List.length_take]; omega) 1 (by omega) _ rfl rfl rfl _ _ rfl rfl rfl ?_; intro v4 w4 ho4 hb4; have O4 : Hid (OwnR wr.heap.size v4 (ro.take L ++ [rn + q]) w4) := Lib.hid (OwnR.more ho4 rfl rfl); have B4 := Lib.hid (B3.out.trans hb4); clear ho4 hb4)
                              | (at_builtin; refine append_row w4 29 21 (.int .i32 0) 4 Try.underlying29 info_i32 rfl (by omega) wr.heap.size _ _ _ O4.out B4.out.size (by simp only [List.length_append, List.length_take, List.length_singleton]; omega) _ _ (R2.out.keep B4.out) (one_runes _) (by rw [List.length_map, List.length_drop]; omega) rfl _ _ rfl rfl rfl ?_; intro v5 w5 ho5 hb5; have O5 : Hid (OwnR wr.heap.size v5 (ro.take L ++ [rn + q] ++ ro.drop L) w5) := Lib.hid (OwnR.more (ns := ro.drop L) ho5 rfl (by rw [List.length_map])); have B5 := Lib.hid (B4.out.trans hb5); clear ho5 hb5))
                            have J := dec_next I.out.2.2 HGOOD.out HLL.out hq hm HB'.out hov hR hlt3 hu0 O5.out
                            have I2 := Lib.hid (And.intro (J.1.lower I.out.2.1.size) (And.intro (I.out.2.1.trans (B5.out.mono I.out.2.1.size)) J.2.2))
                            have hl2 := J.2.1
                            clear I O3 O4 O5 J R1 R2 HGOOD HBAD HB'
                            go_roundg (s.size - a)
                            case measure => omega
                            case rel => exact ⟨a + u, ⟨ro.take L ++ [rn + q] ++ ro.drop L, rn + q, L + 1⟩, b', false, by go_num, rfl, rfl, rfl, rfl, by omega, by omega, (show (0 : Int) ≤ rn + q by omega), (show rn + q ≤ 1114111 by omega), (show (0 : Int) ≤ (L : Int) + 1 by omega), (show (L : Int) + 1 ≤ (((ro.take L ++ [rn + q] ++ ro.drop L).length : Nat) : Int) by rw [hl2]; omega), (show (ro.take L ++ [rn + q] ++ ro.drop L).length ≤ a + u by rw [hl2]; omega), by omega, by omega, I2⟩
                          · have hmcz2 : ((c4 : Int) == (m : Int)) = false := by simp; omega
                            have R2 := I.out.1.back hmr hcL hg1
                            rw [← HLL.out] at R2
                            have R2 := Lib.hid R2
                            go_wp2_with (first
                              | (at_builtin; refine append_row (wr.alloc (.cells #[] 21)) 29 21 (.int .i32 0) 4 Try.underlying29 info_i32 rfl (by omega) wr.heap.size _ _ _ (own_empty wr _ (Nat.le_refl _)) (by simp) (by omega) _ _ (R1.out.keep (below_one _ _)) (one_runes _) (by rw [List.length_map, List.length_take]; omega) rfl _ _ rfl rfl rfl ?_; intro v3 w3 ho3 hb3; have O3 : Hid (OwnR wr.heap.size v3 (ro.take m) w3) := Lib.hid (OwnR.more (l := []) (ns := ro.take m) ho3 rfl (by rw [List.length_map])); have B3 := Lib.hid ((below_one wr _).trans hb3); clear ho3 hb3)
                              | (at_builtin; refine append_cells w3 29 21 (.int .i32 0) 4 Try.underlying29 info_i32 rfl (by omega) wr.heap.size v3 _ _ O3.out B3.out.size (by rw [List.length_take]; omega) 1 (by omega) _ rfl rfl rfl _ _ rfl rfl rfl ?_; intro v4 w4 ho4 hb4; have O4 : Hid (OwnR wr.heap.size v4 (ro.take m ++ [rn + q]) w4) := Lib.hid (OwnR.more ho4 rfl rfl); have B4 := Lib.hid (B3.out.trans hb4); clear ho4 hb4)
                              | (at_builtin; refine append_row w4 29 21 (.int .i32 0) 4 Try.underlying29 info_i32 rfl (by omega) wr.heap.size _ _ _ O4.out B4.out.size (by simp only [List.length_append, List.length_take, List.length_singleton]; omega) _ _ (R2.out.keep B4.out) (one_runes _) (by rw [List.length_map, List.length_drop]; omega) rfl _ _ rfl rfl rfl ?_; intro v5 w5 ho5 hb5; have O5 : Hid (OwnR wr.heap.size v5 (ro.take m ++ [rn + q] ++ ro.drop m) w5) := Lib.hid (OwnR.more (ns := ro.drop m) ho5 rfl (by rw [List.length_map])); have B5 := Lib.hid (B4.out.trans hb5); clear ho5 hb5))
                            have J := dec_next I.out.2.2 HGOOD.out HLL.out hq hm HB'.out hov hR hlt3 hu0 O5.out
                            have I2 := Lib.hid (And.intro (J.1.lower I.out.2.1.size) (And.intro (I.out.2.1.trans (B5.out.mono I.out.2.1.size)) J.2.2))
                            have hl2 := J.2.1
                            clear I O3 O4 O5 J R1 R2 HGOOD HBAD HB'
                            go_roundg (s.size - a)
                            case measure => omega
                            case rel => exact ⟨a + u, ⟨ro.take m ++ [rn + q] ++ ro.drop m, rn + q, m + 1⟩, b', false, by go_num, rfl, rfl, rfl, rfl, by omega, by omega, (show (0 : Int) ≤ rn + q by omega), (show rn + q ≤ 1114111 by omega), (show (0 : Int) ≤ (m : Int) + 1 by omega), (show (m : Int) + 1 ≤ (((ro.take m ++ [rn + q] ++ ro.drop m).length : Nat) : Int) by rw [hl2]; omega), (show (ro.take m ++ [rn + q] ++ ro.drop m).length ≤ a + u by rw [hl2]; omega), by omega, by omega, I2⟩
                    · have hNz : (1114111 : Int) < rn + q := by omega
                      have hno : Puny.decB s.data.toList = none := by
                        obtain ⟨fuel, -, h⟩ := I.out.2.2
                        rw [h]
                        refine HBAD.out _ _ _ ?_
                        unfold Puny.okStep
                        show (decide (ri + d ≤ Puny.limit) && rightZ (rn + (ri + d) / ((ro.length : Int) + 1))) = false
                        rw [← HLL.out, hq, (show rightZ (rn + q) = false by cases h : rightZ (rn + q) with | false => rfl | true => rw [rightZ_iff] at h; omega), Bool.and_false]
                      have HNO := Lib.hid hno
                      clear hno HBAD HGOOD
                      go_wp2
                      go_ret2
                      exact dec_no HNO.out I.out.2.1
                  · have hovz : (2147483647 : Int) < ri + d := by omega
                    have hno : Puny.decB s.data.toList = none := by
                      obtain ⟨fuel, -, h⟩ := I.out.2.2
                      rw [h]
                      exact HBAD.out _ _ _ (by unfold Puny.okStep Puny.limit; rw [decide_eq_false (by omega)]; rfl)
                    have HNO := Lib.hid hno
                    clear hno hov HBAD HGOOD
                    go_wp2
                    go_ret2
                    exact dec_no HNO.out I.out.2.1
              · obtain rfl : a = s.size := by omega
                obtain ⟨ho, hb, fuel, -, h⟩ := I.out
                rw [List.drop_of_length_le (by simp), Puny.decL] at h
                obtain ⟨A4, c4, rfl, -⟩ := ho.shape
                have HO := Lib.hid ho.runes
                have HB := Lib.hid hb
                have HH := Lib.hid h
                clear ho hb h I
                go_wp2
                go_ret2
                rw [HH.out]
                exact ⟨_, _, rfl, HO.out, HB.out⟩
          · have hkz : (0 : Int) < (k : Int) := by omega
            rw [if_neg (show ¬ k = 0 by omega)] at HD
            go_wp2
            go_loopg [4, 5, 8, 9, 10, 11, 12, 13, 14, 15] (s.size + 1) (fun gk v s5 s8 s9 s10 s11 _ _ _ _ wr => ∃ (a : Nat) (r : Puny.Rd) (b : Int) (f : Bool), s5 = .int .i64 a ∧ s8 = .int .i64 r.n ∧ s9 = .int .i64 r.i ∧ s10 = .int .i64 b ∧ s11 = .bool f ∧ a ≤ s.size ∧ s.size - a < gk ∧ 0 ≤ r.n ∧ r.n ≤ 1114111 ∧ 0 ≤ r.i ∧ r.i ≤ r.out.length ∧ r.out.length ≤ a ∧ 0 ≤ b ∧ b ≤ 5000000000 ∧
              Hid (OwnR w.heap.size v r.out wr ∧ Below w.heap.size w wr ∧ ∃ fuel, s.size ≤ a + fuel ∧ Puny.decB s.data.toList = Puny.decL fuel (s.data.toList.drop a) b f r))
            case atStart =>
              have hl : (Puny.start ((s.data.toList.take k).map Puny.byteZ)).out.length ≤ k + 1 := by simp only [Puny.start, List.length_map, List.length_take]; omega
              exact ⟨k + 1, Puny.start ((s.data.toList.take k).map Puny.byteZ), 72, true, by go_num, rfl, rfl, rfl, rfl, by omega, by omega, (show (0 : Int) ≤ 128 by decide), (show (128 : Int) ≤ 1114111 by decide), Int.le_refl _, Int.natCast_nonneg _, hl, by decide, by decide, ⟨I.out.1, I.out.2, s.size, by omega, HD.out⟩⟩
            case round =>
              clear I HD
              obtain ⟨a, ⟨ro, rn, ri⟩, b, f, rfl, rfl, rfl, rfl, rfl, ha, hg3, hn0, hn1, hi0, hi1, hla, hb0, hb1, I⟩ := hrel
              simp only at hn0 hn1 hi0 hi1 hla I
              by_cases hlt3 : a < s.size
              · have haz : (a : Int) < (s.size : Int) := by omega
                have KN := number5_any (s.extract a s.size) b wr (by simp; omega) (by omega)
                rw [extract_drop] at KN
                have hd := drop_next s a hlt3
                cases hN : Puny.numB b (s.data.toList.drop a) 36 1 0 0 with
                | none =>
                  rw [hN] at KN
                  have hno : Puny.decB s.data.toList = none := by
                    obtain ⟨fuel, -, h⟩ := I.out.2.2
                    rw [h, hd]
                    rw [hd] at hN
                    exact Puny.decL_none hN
                  have HK := Lib.hid KN
                  have HNO := Lib.hid hno
                  clear KN hno hN hd
                  go_wp2_with fail
                  refine HK.out.mono ?_
                  rintro e w1 ⟨rfl, rfl⟩
                  simp only [Puny.numAns]
                  go_wp2
                  go_ret2
                  exact dec_no HNO.out I.out.2.1
                | some p =>
                  obtain ⟨d, u⟩ := p
                  rw [hN] at KN
                  obtain ⟨hd0, hd1, hu0, hu1⟩ := Puny.numB_bd b _ _ _ _ _ _ _ hN (by decide) (by decide)
                  have hu2 : u ≤ s.size - a := by simpa using hu1
                  unfold Puny.limit at hd1
                  have huz : ((u : Int) == 0) = false := by simp; omega
                  have HK := Lib.hid KN
                  have hbad := fun (r : Puny.Rd) (f : Bool) (fuel : Nat) (h : Puny.okStep r d = false) => Puny.decL_bad (k := fuel) (f := f) (hd ▸ hN) h
                  have hgood := fun (r : Puny.Rd) (f : Bool) (fuel : Nat) (h : Puny.okStep r d = true) => Puny.decL_more (k := fuel) (f := f) (hd ▸ hN) h
                  simp only [← hd] at hbad hgood
                  have HBAD := Lib.hid hbad
                  have HGOOD := Lib.hid hgood
                  clear KN hN hd hu1 hbad hgood
                  go_wp2_with fail
                  refine HK.out.mono ?_
                  rintro e w1 ⟨rfl, rfl⟩
                  simp only [Puny.numAns]
                  clear HK
                  by_cases hov : ri + d ≤ 2147483647
                  · have hsum : 0 ≤ ri + d := by omega
                    obtain ⟨A4, c4, hv4, hA4⟩ := I.out.1.shape
                    subst hv4
                    obtain ⟨L, hL⟩ : ∃ L, L = ro.length := ⟨_, rfl⟩
                    have hq0 := Int.ediv_nonneg hsum (show (0 : Int) ≤ (L : Int) + 1 by omega)
                    have hq1 := Int.ediv_le_self ((L : Int) + 1) hsum
                    have hm0 := Int.emod_nonneg (ri + d) (show (L : Int) + 1 ≠ 0 by omega)
                    have hm1 := Int.emod_lt_of_pos (ri + d) (show (0 : Int) < (L : Int) + 1 by omega)
                    obtain ⟨q, hq⟩ : ∃ q, (ri + d) / ((L : Int) + 1) = q := ⟨_, rfl⟩
                    obtain ⟨m, hm⟩ : ∃ m : Nat, (ri + d) % ((L : Int) + 1) = (m : Int) := ⟨((ri + d) % ((L : Int) + 1)).toNat, by omega⟩
                    rw [hq] at hq0 hq1
                    rw [hm] at hm0 hm1
                    have hML : m ≤ L := by omega
                    have hLz : (L : Int) ≤ 1000 := by omega
                    have hqz : q ≤ 2147483647 := by omega
                    have hiL : ri ≤ (L : Int) := by omega
                    have KA := Lib.hid (adapt5_any d ((L : Int) + 1) f wr (by omega) (by omega))
                    have hab := Puny.adapt_bd (delta := d) (count := (L : Int) + 1) f (by omega) (by omega)
                    obtain ⟨b', hb'⟩ : ∃ b', b' = Puny.adapt d ((L : Int) + 1) f := ⟨_, rfl⟩
                    rw [← hb'] at KA hab
                    rw [← hL]
                    have HB' := Lib.hid hb'
                    have HLL := Lib.hid hL
                    clear hb' hL
                    go_wp2_with fail
                    with_reducible refine KA.out.mono ?_
                    rintro e w1 ⟨rfl, rfl⟩
                    clear KA
                    by_cases hN : rn + q ≤ 1114111
                    · have KR := Lib.hid (refRight_any (rn + q) wr)
                      have hpos : (0 : Int) ≤ rn + q := by omega
                      go_wp2_with fail
                      with_reducible refine KR.out.mono ?_
                      rintro e w1 ⟨rfl, rfl⟩
                      clear KR
                      cases hR : rightZ (rn + q) with
                      | false =>
                        have hno : Puny.decB s.data.toList = none := by
                          obtain ⟨fuel, -, h⟩ := I.out.2.2
                          rw [h]
                          refine HBAD.out _ _ _ ?_
                          unfold Puny.okStep
                          show (decide (ri + d ≤ Puny.limit) && rightZ (rn + (ri + d) / ((ro.length : Int) + 1))) = false
                          rw [← HLL.out, hq, hR, Bool.and_false]
                        have HNO := Lib.hid hno
                        clear hno HBAD HGOOD
                        go_wp2
                        go_ret2
                        exact dec_no HNO.out I.out.2.1
                      | true =>
                        rcases I.out.1.parted with ⟨hv, hr0⟩ | ⟨g, c, hv, hcL, hg0, hg1⟩
                        · injection hv with hv1 hv2 hv3
                          subst hv1 hv3
                          have hL0 : L = 0 := by have := HLL.out; omega
                          subst hL0
                          have hm00 : m = 0 := by omega
                          subst hm00
                          have R1 : Hid (Runes (.slice none 0 0) (ro.take 0) wr) := Lib.hid (runes_nil wr)
                          have R2 : Hid (Runes (.slice none 0 0) (ro.drop 0) wr) := Lib.hid (by rw [hr0]; exact runes_nil wr)
                          have hLa : 0 ≤ a := by omega
                          clear hr0 hv2
                          go_wp2_with (first
                            | (at_builtin; refine append_row (wr.alloc (.cells #[] 21)) 29 21 (.int .i32 0) 4 Try.underlying29 info_i32 rfl (by omega) wr.heap.size _ _ _ (own_empty wr _ (Nat.le_refl _)) (by simp) (by omega) _ _ (R1.out.keep (below_one _ _)) (one_runes _) (by rw [List.length_map, List.length_take]; omega) rfl _ _ rfl rfl rfl ?_; intro v3 w3 ho3 hb3; have O3 : Hid (OwnR wr.heap.size v3 (ro.take 0) w3) := Lib.hid (OwnR.more (l := []) (ns := ro.take 0) ho3 rfl (by rw [List.length_map])); have B3 := Lib.hid ((below_one wr _).trans hb3); clear ho3 hb3)
                            | (at_builtin; refine append_cells w3 29 21 (.int .i32 0) 4 Try.underlying29 info_i32 rfl (by omega) wr.heap.size v3 _ _ O3.out B3.out.size (by rw [List.length_take]; omega) 1 (by omega) _ rfl rfl rfl _ _ rfl rfl rfl ?_; intro v4 w4 ho4 hb4; have O4 : Hid (OwnR wr.heap.size v4 (ro.take 0 ++ [rn + q]) w4) := Lib.hid (OwnR.more ho4 rfl rfl); have B4 := Lib.hid (B3.out.trans hb4); clear ho4 hb4)
                            | (at_builtin; refine append_row w4 29 21 (.int .i32 0) 4 Try.underlying29 info_i32 rfl (by omega) wr.heap.size _ _ _ O4.out B4.out.size (by simp only [List.length_append, List.length_take, List.length_singleton]; omega) _ _ (R2.out.keep B4.out) (one_runes _) (by rw [List.length_map, List.length_drop]; omega) rfl _ _ rfl rfl rfl ?_; intro v5 w5 ho5 hb5; have O5 : Hid (OwnR wr.heap.size v5 (ro.take 0 ++ [rn + q] ++ ro.drop 0) w5) := Lib.hid (OwnR.more (ns := ro.drop 0) ho5 rfl (by rw [List.length_map])); have B5 := Lib.hid (B4.out.trans hb5); clear ho5 hb5))
                          have J := dec_next I.out.2.2 HGOOD.out HLL.out hq hm HB'.out hov hR hlt3 hu0 O5.out
                          have I2 := Lib.hid (And.intro (J.1.lower I.out.2.1.size) (And.intro (I.out.2.1.trans (B5.out.mono I.out.2.1.size)) J.2.2))
                          have hl2 := J.2.1
                          clear I O3 O4 O5 J R1 R2 HGOOD HBAD HB'
                          go_roundg (s.size - a)
                          case measure => omega
                          case rel => exact ⟨a + u, ⟨ro.take 0 ++ [rn + q] ++ ro.drop 0, rn + q, ((0 : Nat) : Int) + 1⟩, b', false, by go_num, rfl, rfl, rfl, rfl, by omega, by omega, (show (0 : Int) ≤ rn + q by omega), (show rn + q ≤ 1114111 by omega), (show (0 : Int) ≤ ((0 : Nat) : Int) + 1 by omega), (show ((0 : Nat) : Int) + 1 ≤ (((ro.take 0 ++ [rn + q] ++ ro.drop 0).length : Nat) : Int) by rw [hl2]; omega), (show (ro.take 0 ++ [rn + q] ++ ro.drop 0).length ≤ a + u by rw [hl2]; omega), by omega, by omega, I2⟩
                        · injection hv with hv1 hv2 hv3
                          subst hv1 hv3
                          have hcz : (L : Int) ≤ (c4 : Int) := by rw [← HLL.out] at hcL; omega
                          have hmz : (m : Int) ≤ (L : Int) := by omega
                          have hmcz : (m : Int) ≤ (c4 : Int) := by omega
                          have hmr : m ≤ ro.length := by rw [← HLL.out]; exact hML
                          have hLa : L ≤ a := by rw [HLL.out]; exact hla
                          have R1 := Lib.hid (I.out.1.front hmr hcL hg1)
                          by_cases hmc : m = c4
                          · subst hmc
                            obtain rfl : L = m := by omega
                            have hdr : ro.drop L = [] := List.drop_of_length_le (by rw [HLL.out]; exact Nat.le_refl _)
                            have R2 : Hid (Runes (.slice (some ⟨g, 0, none⟩) 0 0) (ro.drop L) wr) := Lib.hid (by rw [hdr]; exact ⟨some ⟨g, 0, none⟩, 0, rfl, Nat.le_refl _, fun e => (by cases e), fun h => absurd h (by simp)⟩)
                            clear hdr
                            go_wp2_with (first
                              | (at_builtin; refine append_row (wr.alloc (.cells #[] 21)) 29 21 (.int .i32 0) 4 Try.underlying29 info_i32 rfl (by omega) wr.heap.size _ _ _ (own_empty wr _ (Nat.le_refl _)) (by simp) (by omega) _ _ (R1.out.keep (below_one _ _)) (one_runes _) (by rw [List.length_map, List.length_take]; omega) rfl _ _ rfl rfl rfl ?_; intro v3 w3 ho3 hb3; have O3 : Hid (OwnR wr.heap.size v3 (ro.take L) w3) := Lib.hid (OwnR.more (l := []) (ns := ro.take L) ho3 rfl (by rw [List.length_map])); have B3 := Lib.hid ((below_one wr _).trans hb3); clear ho3 hb3)
                              | (at_builtin; refine append_cells w3 29 21 (.int .i32 0) 4 Try.underlying29 info_i32 rfl (by omega) wr.heap.size v3 _ _ O3.out B3.out.size (by rw [List.length_take]; omega) 1 (by omega) _ rfl rfl rfl _ _ rfl rfl rfl ?_; intro v4 w4 ho4 hb4; have O4 : Hid (OwnR wr.heap.size v4 (ro.take L ++ [rn + q]) w4) := Lib.hid (OwnR.more ho4 rfl rfl); have B4 := Lib.hid (B3.out.trans hb4); clear ho4 hb4)
                              | (at_builtin; refine append_row w4 29 21 (.int .i32 0) 4 Try.underlying29 info_i32 rfl (by omega) wr.heap.size _ _ _ O4.out B4.out.size (by simp only [List.length_append, List.length_take, List.length_singleton]; omega) _ _ (R2.out.keep B4.out) (one_runes _) (by rw [List.length_map, List.length_drop]; omega) rfl _ _ rfl rfl rfl ?_; intro v5 w5 ho5 hb5; have O5 : Hid (OwnR wr.heap.size v5 (ro.take L ++ [rn + q] ++ ro.drop L) w5) := Lib.hid (OwnR.more (ns := ro.drop L) ho5 rfl (by rw [List.length_map])); have B5 := Lib.hid (B4.out.trans hb5); clear ho5 hb5))
                            have J := dec_next I.out.2.2 HGOOD.out HLL.out hq hm HB'.out hov hR hlt3 hu0 O5.out
                            have I2 := Lib.hid (And.intro (J.1.lower I.out.2.1.size) (And.intro (I.out.2.1.trans (B5.out.mono I.out.2.1.size)) J.2.2))
                            have hl2 := J.2.1
                            clear I O3 O4 O5 J R1 R2 HGOOD HBAD HB'
                            go_roundg (s.size - a)
                            case measure => omega
                            case rel => exact ⟨a + u, ⟨ro.take L ++ [rn + q] ++ ro.drop L, rn + q, L + 1⟩, b', false, by go_num, rfl, rfl, rfl, rfl, by omega, by omega, (show (0 : Int) ≤ rn + q by omega), (show rn + q ≤ 1114111 by omega), (show (0 : Int) ≤ (L : Int) + 1 by omega), (show (L : Int) + 1 ≤ (((ro.take L ++ [rn + q] ++ ro.drop L).length : Nat) : Int) by rw [hl2]; omega), (show (ro.take L ++ [rn + q] ++ ro.drop L).length ≤ a + u by rw [hl2]; omega), by omega, by omega, I2⟩
                          · have hmcz2 : ((c4 : Int) == (m : Int)) = false := by simp; omega
                            have R2 := I.out.1.back hmr hcL hg1
                            rw [← HLL.out] at R2
                            have R2 := Lib.hid R2
                            go_wp2_with (first
                              | (at_builtin; refine append_row (wr.alloc (.cells #[] 21)) 29 21 (.int .i32 0) 4 Try.underlying29 info_i32 rfl (by omega) wr.heap.size _ _ _ (own_empty wr _ (Nat.le_refl _)) (by simp) (by omega) _ _ (R1.out.keep (below_one _ _)) (one_runes _) (by rw [List.length_map, List.length_take]; omega) rfl _ _ rfl rfl rfl ?_; intro v3 w3 ho3 hb3; have O3 : Hid (OwnR wr.heap.size v3 (ro.take m) w3) := Lib.hid (OwnR.more (l := []) (ns := ro.take m) ho3 rfl (by rw [List.length_map])); have B3 := Lib.hid ((below_one wr _).trans hb3); clear ho3 hb3)
                              | (at_builtin; refine append_cells w3 29 21 (.int .i32 0) 4 Try.underlying29 info_i32 rfl (by omega) wr.heap.size v3 _ _ O3.out B3.out.size (by rw [List.length_take]; omega) 1 (by omega) _ rfl rfl rfl _ _ rfl rfl rfl ?_; intro v4 w4 ho4 hb4; have O4 : Hid (OwnR wr.heap.size v4 (ro.take m ++ [rn + q]) w4) := Lib.hid (OwnR.more ho4 rfl rfl); have B4 := Lib.hid (B3.out.trans hb4); clear ho4 hb4)
                              | (at_builtin; refine append_row w4 29 21 (.int .i32 0) 4 Try.underlying29 info_i32 rfl (by omega) wr.heap.size _ _ _ O4.out B4.out.size (by simp only [List.length_append, List.length_take, List.length_singleton]; omega) _ _ (R2.out.keep B4.out) (one_runes _) (by rw [List.length_map, List.length_drop]; omega) rfl _ _ rfl rfl rfl ?_; intro v5 w5 ho5 hb5; have O5 : Hid (OwnR wr.heap.size v5 (ro.take m ++ [rn + q] ++ ro.drop m) w5) := Lib.hid (OwnR.more (ns := ro.drop m) ho5 rfl (by rw [List.length_map])); have B5 := Lib.hid (B4.out.trans hb5); clear ho5 hb5))
                            have J := dec_next I.out.2.2 HGOOD.out HLL.out hq hm HB'.out hov hR hlt3 hu0 O5.out
                            have I2 := Lib.hid (And.intro (J.1.lower I.out.2.1.size) (And.intro (I.out.2.1.trans (B5.out.mono I.out.2.1.size)) J.2.2))
                            have hl2 := J.2.1
                            clear I O3 O4 O5 J R1 R2 HGOOD HBAD HB'
                            go_roundg (s.size - a)
                            case measure => omega
                            case rel => exact ⟨a + u, ⟨ro.take m ++ [rn + q] ++ ro.drop m, rn + q, m + 1⟩, b', false, by go_num, rfl, rfl, rfl, rfl, by omega, by omega, (show (0 : Int) ≤ rn + q by omega), (show rn + q ≤ 1114111 by omega), (show (0 : Int) ≤ (m : Int) + 1 by omega), (show (m : Int) + 1 ≤ (((ro.take m ++ [rn + q] ++ ro.drop m).length : Nat) : Int) by rw [hl2]; omega), (show (ro.take m ++ [rn + q] ++ ro.drop m).length ≤ a + u by rw [hl2]; omega), by omega, by omega, I2⟩
                    · have hNz : (1114111 : Int) < rn + q := by omega
                      have hno : Puny.decB s.data.toList = none := by
                        obtain ⟨fuel, -, h⟩ := I.out.2.2
                        rw [h]
                        refine HBAD.out _ _ _ ?_
                        unfold Puny.okStep
                        show (decide (ri + d ≤ Puny.limit) && rightZ (rn + (ri + d) / ((ro.length : Int) + 1))) = false
                        rw [← HLL.out, hq, (show rightZ (rn + q) = false by cases h : rightZ (rn + q) with | false => rfl | true => rw [rightZ_iff] at h; omega), Bool.and_false]
                      have HNO := Lib.hid hno
                      clear hno HBAD HGOOD
                      go_wp2
                      go_ret2
                      exact dec_no HNO.out I.out.2.1
                  · have hovz : (2147483647 : Int) < ri + d := by omega
                    have hno : Puny.decB s.data.toList = none := by
                      obtain ⟨fuel, -, h⟩ := I.out.2.2
                      rw [h]
                      exact HBAD.out _ _ _ (by unfold Puny.okStep Puny.limit; rw [decide_eq_false (by omega)]; rfl)
                    have HNO := Lib.hid hno
                    clear hno hov HBAD HGOOD
                    go_wp2
                    go_ret2
                    exact dec_no HNO.out I.out.2.1
              · obtain rfl : a = s.size := by omega
                obtain ⟨ho, hb, fuel, -, h⟩ := I.out
                rw [List.drop_of_length_le (by simp), Puny.decL] at h
                obtain ⟨A4, c4, rfl, -⟩ := ho.shape
                have HO := Lib.hid ho.runes
                have HB := Lib.hid hb
                have HH := Lib.hid h
                clear ho hb h I
                go_wp2
                go_ret2
                rw [HH.out]
                exact ⟨_, _, rfl, HO.out, HB.out⟩
end Go.Proofs.Ytkgikkdgfhonlaa
