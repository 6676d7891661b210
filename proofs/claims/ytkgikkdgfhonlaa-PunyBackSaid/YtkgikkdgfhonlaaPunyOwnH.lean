/-
  Proved here: puny's Decode, walked. Conditions: the string has at most 10,000 bytes.
-/
import Derived.Test.YtkgikkdgfhonlaaPunyOwnG
namespace Go.Proofs.Ytkgikkdgfhonlaa
open Go.RowKit Utf
theorem bytes_len (R : ByteArray) : R.data.toList.length = R.size := by simp
theorem rightZ_wrap {z : Int} (h0 : 1114111 < z) (h1 : z ≤ 4294967295) : rightZ (wrap32 z) = false := by
  have : wrap32 z < 0 ∨ 1114111 < wrap32 z := by unfold wrap32; omega
  cases h : rightZ (wrap32 z) with
  | false => rfl
  | true => have := (rightZ_iff _).1 h; omega
theorem dec_yes {l : List Int} {o : Option (List Int)} {g c base : Nat} {w w' : World} (h : o = some l) (hr : Room g c l w') (hg : base ≤ g) (hc : c ≤ 1000000) (hb : Below w.heap.size w w') : DecPost o w (.returned (.tuple #[.slice (some ⟨g, 0, none⟩) l.length c, .bool true])) w' := by
  subst h
  exact ⟨_, c, rfl, (hr.own hg (by simp only [maxLen]; omega)).runes, hb⟩
set_option maxHeartbeats 8000000 in
set_option maxRecDepth 100000 in
theorem decodeP_any (s : ByteArray) (w : World) (hs : s.size ≤ 10000) :
    Calls Try.prog 18 #[.string s] w (DecPost (Puny.decB s.data.toList) w) := by
  have KH := Lib.hid (halves_any s w (by omega))
  obtain ⟨i0, hi0, hz0, hs0, hb0⟩ := info_parts info_i32
  have hby : i0.bytes * s.size ≤ 281474976710656 := by rw [hb0]; omega
  go_enter Try.func18, Try.ntmps18
  go_wp2
  refine wp_ahead 0 rfl ?_
  go_wp2_with fail
  refine KH.out.mono ?_
  rintro e w1 ⟨hd, re, rfl, hb1, hhd, hre⟩
  have B1 := Lib.hid hb1
  have HHD := Lib.hid hhd
  have HRE := Lib.hid hre
  clear hb1 hhd hre KH
  go_wp2_with (at_make; refine wpList_make_own _ rfl _ _ 29 rfl w.heap.size 21 i0 (.int .i32 0) 1 Try.underlying29 hi0 hz0 hs0 _ _ _ s.size rfl rfl rfl hby (by simp only [maxLen]; omega) B1.out.size ?_; intro w2 ho2 hg2)
  have hb2 := madeBelow hg2
  have hgl : w1.heap.size < w2.heap.size := (World.ownsRow.lt ho2 w1.heap.size rfl).2
  have hbg : w.heap.size ≤ w1.heap.size := B1.out.size
  have hbw : Below w.heap.size w w2 := B1.out.trans (hb2.mono hbg)
  have hr2 := (Room.of_own (base := w.heap.size) (l := []) ho2).1
  generalize w1.heap.size = g at hgl hbg hr2 ⊢
  have HR2 := Lib.hid hr2
  have BW := Lib.hid hbw
  have hdl : hd.size ≤ s.size := by
    have := congrArg List.length HHD.out
    rw [List.length_take] at this
    simp at this
    omega
  have hrl : hd.size + re.size ≤ s.size := by
    have h1 := congrArg List.length HHD.out
    have h2 := congrArg List.length HRE.out
    have h3 := Puny.dashAt_lt s.data.toList
    have h4 := Puny.tailAt_le s.data.toList
    rw [List.length_take] at h1
    rw [List.length_drop] at h2
    unfold Puny.tailAt at h2 h4
    simp at h1 h2 h3 h4
    split at h2 <;> omega
  have K8 := eight_any hd w2 (by omega)
  unfold eightOf at K8
  rcases eightFrom_is hd.data.toList 0 with ⟨e1, e2⟩ | ⟨e1, e2⟩
  · rw [e1] at K8
    rw [HHD.out] at e2
    have HDEC := Lib.hid (Puny.decB_plain e2)
    have HK8 := Lib.hid K8
    obtain ⟨cap, W1, hconv, hcap, h8, hb8⟩ := bytes8_of hd w2
    have H8 := Lib.hid h8
    have B8 := Lib.hid hb8
    obtain ⟨G8, hG8⟩ : ∃ G8, G8 = w2.heap.size := ⟨_, rfl⟩
    rw [← hG8] at hconv H8 hgl
    have HG8 := Lib.hid hG8
    clear e1 e2 K8 h8 hb8 hG8 ho2 hg2 hb2 hbw hr2 hi0 hz0 hs0 hb0 hby B1
    go_wp2_with fail
    refine HK8.out.mono ?_
    rintro e w3 ⟨rfl, rfl⟩
    go_wp2
    go_loopg [6, 11, 30] (hd.size + 1) (fun gk s6 _ i wr => ∃ k : Nat, k ≤ hd.size ∧ i = .int .i64 k ∧ s6 = .slice (some ⟨g, 0, none⟩) k s.size ∧ hd.size - k < gk ∧ Hid (Room g s.size ((hd.data.toList.take k).map Puny.byteZ) wr ∧ Only g W1 wr))
    case atStart => exact ⟨0, Nat.zero_le _, rfl, rfl, by omega, ⟨HR2.out.keep (B8.out.block g (by rw [← HG8.out]; exact hgl)), Only.refl _ _⟩⟩
    case round =>
      obtain ⟨k, hk, rfl, rfl, hg, I⟩ := hrel
      by_cases hlt : k < hd.size
      · have hkz : (k : Int) < (hd.size : Int) := by omega
        have hx := (H8.out.2 k (by simpa using hlt)).1
        have hx' : wr.cell? ⟨G8, k, none⟩ = _ := (World.cell?_of_block (I.out.2.block G8 H8.out.1 (by omega))).trans hx
        obtain ⟨x, hxe⟩ : ∃ x, x = hd.data.toList[k]! := ⟨_, rfl⟩
        rw [← hxe] at hx'
        unfold byteV at hx'
        have hxb : x.toNat < 256 := x.toNat_lt
        have hnx : (hd.data.toList.take (k + 1)).map Puny.byteZ = (hd.data.toList.take k).map Puny.byteZ ++ [(x.toNat : Int)] := by
          rw [List.take_succ_eq_append_getElem (by simpa using hlt), List.map_append, hxe, getElem!_pos hd.data.toList k (by simpa using hlt)]
          rfl
        have hle : k = ((hd.data.toList.take k).map Puny.byteZ).length := by rw [List.length_map, List.length_take]; simp; omega
        have HN := Lib.hid hnx
        have HLE := Lib.hid hle
        clear hx hxe hnx hle
        go_wp2_with (at_builtin; refine append_push wr Try.underlying29 info_i32 g s.size _ (x.toNat : Int) I.out.1 (by rw [← HLE.out]; omega) k HLE.out _ rfl rfl _ _ rfl rfl rfl ?_; intro w5 hr5 ho5; have HR5 := Lib.hid hr5; have HO5 := Lib.hid ho5; clear hr5 ho5)
        go_roundg (hd.size - k)
        case measure => omega
        case rel => exact ⟨k + 1, by omega, by go_num, by go_num, by omega, ⟨by rw [HN.out]; exact HR5.out, I.out.2.trans HO5.out⟩⟩
      · obtain rfl : k = hd.size := by omega
        have R0 : Hid (Room g s.size (Puny.start ((s.data.toList.take (Puny.dashAt s.data.toList)).map Puny.byteZ)).out wr) := by
          have h := I.out.1
          rw [List.take_of_length_le (by simp), HHD.out] at h
          exact h
        have hl0 : hd.size = (Puny.start ((s.data.toList.take (Puny.dashAt s.data.toList)).map Puny.byteZ)).out.length := by
          show hd.size = ((s.data.toList.take (Puny.dashAt s.data.toList)).map Puny.byteZ).length
          rw [← HHD.out, List.length_map]; simp
        have HL0 := Lib.hid hl0
        have B0 : Hid (Below w.heap.size w wr) := BW.out.trans ((B8.out.mono BW.out.size).trans (I.out.2.below (Nat.le_trans BW.out.size B8.out.size) hbg))
        clear I hl0 hconv hcap
        go_wp2
        go_loopg [5, 6, 7, 8, 9, 12, 13, 14, 15] (s.size + 1) (fun gk s5 s6 s7 s8 s9 s12 _ _ _ wr => ∃ (R : ByteArray) (r : Puny.Rd) (L : Nat) (b : Int) (f : Bool), s5 = .string R ∧ s6 = .slice (some ⟨g, 0, none⟩) L s.size ∧ s7 = .int .i64 r.n ∧ s8 = .int .i64 r.i ∧ s9 = .int .i64 b ∧ s12 = .bool f ∧ R.size < gk ∧ 0 ≤ r.n ∧ r.n ≤ 1114111 ∧ 0 ≤ r.i ∧ r.i ≤ L ∧ L + R.size ≤ s.size ∧ 0 ≤ b ∧ b ≤ 5000000000 ∧
          Hid (L = r.out.length ∧ Room g s.size r.out wr ∧ Below w.heap.size w wr ∧ ∃ fuel, R.data.toList.length ≤ fuel ∧ Puny.decB s.data.toList = Puny.decL fuel R.data.toList b f r))
        case atStart =>
          refine ⟨re, Puny.start ((s.data.toList.take (Puny.dashAt s.data.toList)).map Puny.byteZ), hd.size, 72, true, rfl, rfl, rfl, rfl, rfl, rfl, by omega, (show (0 : Int) ≤ 128 by decide), (show (128 : Int) ≤ 1114111 by decide), Int.le_refl _, Int.natCast_nonneg _, hrl, by decide, by decide, ⟨HL0.out, R0.out, B0.out, s.data.toList.length, ?_, ?_⟩⟩
          · rw [HRE.out, List.length_drop]; omega
          · rw [HRE.out]; exact HDEC.out
        case round =>
          clear R0 B0 HL0 hrl
          obtain ⟨R, ⟨ro, rn, ri⟩, L, b, f, rfl, rfl, rfl, rfl, rfl, rfl, hg3, hn0, hn1, hi0, hi1, hla, hb0, hb1, I⟩ := hrel
          simp only at hn0 hn1 hi0 hi1 hla I
          obtain ⟨i1, i2, i3, i4⟩ := I.out
          have I1 := Lib.hid i1
          have I2 := Lib.hid i2
          have I3 := Lib.hid i3
          have I4 := Lib.hid i4
          clear I i1 i2 i3 i4
          by_cases hlt3 : 0 < R.size
          · have haz : (0 : Int) < (R.size : Int) := by omega
            have hRne : R.data.toList ≠ [] := fun e => by
              have := bytes_len R
              rw [e] at this
              simp only [List.length_nil] at this
              omega
            have KN := read_any R b wr (by omega) (by omega)
            cases hN : Puny.numB b R.data.toList 36 1 0 0 with
            | none =>
              rw [hN] at KN
              have HNO := Lib.hid (Puny.decP_none I4.out hRne hN)
              have HK := Lib.hid KN
              clear KN hN hRne
              go_wp2_with fail
              refine HK.out.mono ?_
              rintro e w6 ⟨rfl, rfl⟩
              simp only [Puny.numAns]
              go_wp2
              go_step3
              refine ⟨rfl, ?_⟩
              go_wp2
              rw [Exit.noGoto_ret]
              go_ret2
              exact dec_no HNO.out I3.out
            | some p =>
              obtain ⟨d, u⟩ := p
              rw [hN] at KN
              obtain ⟨hd0, hd1, hu0, hu1⟩ := Puny.numB_bd b _ _ _ _ _ _ _ hN (by decide) (by decide)
              have hu2 : u ≤ R.size := by simpa using hu1
              unfold Puny.limit at hd1
              have huz : ((u : Int) == 0) = false := by simp; omega
              have huR : (u : Int) ≤ (R.size : Int) := by omega
              have HK := Lib.hid KN
              have HN := Lib.hid hN
              clear KN hN hu1 hRne
              go_wp2_with fail
              refine HK.out.mono ?_
              rintro e w6 ⟨rfl, rfl⟩
              simp only [Puny.numAns]
              clear HK
              by_cases hov : ri + d ≤ 2147483647
              · have hsum : 0 ≤ ri + d := by omega
                have hq0 := Int.ediv_nonneg hsum (show (0 : Int) ≤ (L : Int) + 1 by omega)
                have hq1 := Int.ediv_le_self ((L : Int) + 1) hsum
                have hm0 := Int.emod_nonneg (ri + d) (show (L : Int) + 1 ≠ 0 by omega)
                have hm1 := Int.emod_lt_of_pos (ri + d) (show (0 : Int) < (L : Int) + 1 by omega)
                obtain ⟨q, hq⟩ : ∃ q, (ri + d) / ((L : Int) + 1) = q := ⟨_, rfl⟩
                obtain ⟨m, hm⟩ : ∃ m : Nat, (ri + d) % ((L : Int) + 1) = (m : Int) := ⟨((ri + d) % ((L : Int) + 1)).toNat, by omega⟩
                rw [hq] at hq0 hq1
                rw [hm] at hm0 hm1
                have hML : m ≤ L := by omega
                have hLz : (L : Int) ≤ 10000 := by omega
                have hqz : q ≤ 2147483647 := by omega
                have hov2 : ¬ 2147483647 < ri + d := by omega
                have KA := Lib.hid (adaptP_any d ((L : Int) + 1) f wr (by omega) (by omega))
                have hab := Puny.adapt_bd (delta := d) (count := (L : Int) + 1) f (by omega) (by omega)
                obtain ⟨b', hb'⟩ : ∃ b', b' = Puny.adapt d ((L : Int) + 1) f := ⟨_, rfl⟩
                rw [← hb'] at KA hab
                have HB' := Lib.hid hb'
                clear hb'
                go_wp2_with fail
                with_reducible refine KA.out.mono ?_
                rintro e w1 ⟨rfl, rfl⟩
                clear KA
                by_cases hN : rn + q ≤ 1114111
                · have KR := Lib.hid (right_any (rn + q) wr)
                  have hpos : (0 : Int) ≤ rn + q := by omega
                  go_wp2_with fail
                  with_reducible refine KR.out.mono ?_
                  rintro e w1 ⟨rfl, rfl⟩
                  clear KR
                  cases hR : rightZ (rn + q) with
                  | false =>
                    have HNO := Lib.hid (Puny.decP_bad I4.out HN.out (by
                      unfold Puny.okStep Puny.limit
                      show (decide (ri + d ≤ 2147483647) && rightZ (rn + (ri + d) / ((ro.length : Int) + 1))) = false
                      rw [← I1.out, hq, hR, Bool.and_false]))
                    clear hR
                    go_wp2
                    go_step3
                    refine ⟨rfl, ?_⟩
                    go_wp2
                    rw [Exit.noGoto_ret]
                    go_ret2
                    exact dec_no HNO.out I3.out
                  | true =>
                    have NX := Lib.hid (Puny.decP_next I4.out HN.out I1.out hq hm HB'.out hov hR)
                    obtain ⟨ro', hro'⟩ : ∃ ro', ro' = ro.take m ++ [rn + q] ++ ro.drop m := ⟨_, rfl⟩
                    rw [← hro'] at NX
                    have KI := Lib.hid (insert_any w.heap.size g s.size wr.heap.size m L ro ro' (rn + q) (wr.alloc (.cells #[.int .i32 (rn + q)] 21)) (I2.out.keep (heap_alloc_old wr _ I2.out.lt)) (by omega) (by omega) hbg (heap_alloc_new wr _) (by have := I2.out.lt; omega) I1.out hML hro')
                    have HLN := Lib.hid (show L + 1 = ro'.length by
                      rw [hro', List.length_append, List.length_append, List.length_take, List.length_drop, List.length_singleton, ← I1.out]
                      omega)
                    have hXL : (R.extract u R.size).data.toList = R.data.toList.drop u := extract_drop R u
                    have hXS : (R.extract u R.size).size = R.size - u := by
                      rw [← bytes_len, hXL, List.length_drop, bytes_len]
                    rw [← hXL] at NX
                    obtain ⟨X, hX⟩ : ∃ X, X = R.extract u R.size := ⟨_, rfl⟩
                    rw [← hX] at NX hXS
                    have HX := Lib.hid hX
                    have BN := Lib.hid I3.out
                    clear hR hro' hX hXL I4 HN I1 I2
                    go_wp2_with fail
                    with_reducible refine KI.out.mono ?_
                    rintro e w7 ⟨rfl, hr7, hb7⟩
                    have HR7 := Lib.hid hr7
                    have HB7 := Lib.hid ((BN.out.alloc BN.out.size _).trans hb7)
                    clear hr7 hb7 KI
                    go_wp2
                    go_roundg (R.size)
                    case measure => omega
                    case rel => exact ⟨X, ⟨ro', rn + q, (m : Int) + 1⟩, L + 1, b', false, by rw [HX.out], rfl, rfl, rfl, rfl, rfl, by omega, hpos, hN, (by show (0 : Int) ≤ (m : Int) + 1; omega), (by show (m : Int) + 1 ≤ ((L + 1 : Nat) : Int); omega), by omega, hab.1, hab.2, ⟨HLN.out, HR7.out, HB7.out, NX.out⟩⟩
                · have KR := Lib.hid (right_any (wrap32 (rn + q)) wr)
                  have hN2 : 1114111 < rn + q := by omega
                  rw [rightZ_wrap hN2 (by omega)] at KR
                  have hR : rightZ (rn + q) = false := by
                    cases h : rightZ (rn + q) with
                    | false => rfl
                    | true => have := (rightZ_iff _).1 h; omega
                  have HNO := Lib.hid (Puny.decP_bad I4.out HN.out (by
                    unfold Puny.okStep Puny.limit
                    show (decide (ri + d ≤ 2147483647) && rightZ (rn + (ri + d) / ((ro.length : Int) + 1))) = false
                    rw [← I1.out, hq, hR, Bool.and_false]))
                  clear hR hN
                  go_wp2_with fail
                  with_reducible refine KR.out.mono ?_
                  rintro e w1 ⟨rfl, rfl⟩
                  go_wp2
                  go_step3
                  refine ⟨rfl, ?_⟩
                  go_wp2
                  rw [Exit.noGoto_ret]
                  go_ret2
                  exact dec_no HNO.out I3.out
              · have HNO := Lib.hid (Puny.decP_bad I4.out HN.out (by
                  unfold Puny.okStep Puny.limit
                  show (decide (ri + d ≤ 2147483647) && _) = false
                  rw [decide_eq_false hov, Bool.false_and]))
                have hov2 : 2147483647 < ri + d := by omega
                clear hov
                go_wp2
                go_step3
                refine ⟨rfl, ?_⟩
                go_wp2
                rw [Exit.noGoto_ret]
                go_ret2
                exact dec_no HNO.out I3.out
          · have hz : R.data.toList = [] := List.eq_nil_of_length_eq_zero (by rw [bytes_len]; omega)
            have HY := Lib.hid (show Puny.decB s.data.toList = some ro by
              have h := I4.out
              rw [hz] at h
              exact Puny.decP_end h)
            clear hz
            go_wp2
            rw [jump_ret]
            go_ret2
            have hl := I1.out
            subst hl
            exact dec_yes HY.out I2.out hbg (by omega) I3.out
  · have HNO := Lib.hid (Puny.decB_wide (bs := s.data.toList) (by rw [← HHD.out]; exact e2))
    obtain ⟨z, hz⟩ : ∃ z, z = eightFrom hd.data.toList 0 := ⟨_, rfl⟩
    rw [← hz] at K8 e1
    have HK8 := Lib.hid K8
    clear e2 K8 hz ho2 hg2 hb2 hbw hr2 hi0 hz0 hs0 hb0 hby B1
    go_wp2_with fail
    refine HK8.out.mono ?_
    rintro e w3 ⟨rfl, rfl⟩
    go_wp2
    go_step3
    refine ⟨rfl, ?_⟩
    go_wp2
    rw [Exit.noGoto_ret]
    go_ret2
    exact dec_no HNO.out BW.out
end Go.Proofs.Ytkgikkdgfhonlaa
