/-
  Proved here: LineBack's walk: lines that are printed come back. Conditions: the lines have 1,048,576 bytes at most, with one more each; the library's tables are laid.
-/
import Derived.Test.YtkcabnodhdhaaaaDoorLinSmall
import Derived.Test.YtkcabnodhdhaaaaDoorLinRefB
namespace Go.Proofs.YtkcabnodhdhaaaaDoor
open Go.RowKit
namespace Lin
theorem told_print (m : Int) (ls : List (List UInt8)) (h : ∀ l ∈ ls, bare l = false) : told m [] (printL ls) = ls.map (frame m) ∧ rest ([] ++ printL ls) = [] := by
  have e := cut_print ls h
  unfold told wholes rest
  rw [List.nil_append, e]
  exact ⟨rfl, rfl⟩
def fines (l : List (List UInt8)) : List Fr := l.map fun x => ⟨x, false, false⟩
theorem fines_at {l : List (List UInt8)} {k : Nat} (h : k < l.length) : nthF (fines l) k = ⟨l[k]!, false, false⟩ := by
  unfold nthF fines
  rw [List.getD_eq_getElem?_getD, List.getElem?_map, List.getElem?_eq_getElem h, getElem!_pos l k h]
  rfl
theorem fines_of {m : Int} {l : List (List UInt8)} (h : ∀ k, k < l.length → bare l[k]! = false ∧ ¬ m < l[k]!.length) : l.map (frame m) = fines l ∧ ∀ x ∈ l, bare x = false := by
  have hm : ∀ x ∈ l, bare x = false ∧ ¬ m < x.length := fun x hx => by
    obtain ⟨k, hk, rfl⟩ := List.getElem_of_mem hx
    have := h k hk
    rw [getElem!_pos l k hk] at this
    exact this
  exact ⟨List.map_congr_left fun x hx => frame_fine (hm x hx).1 (hm x hx).2, fun x hx => (hm x hx).1⟩
theorem room_one {l : List (List UInt8)} {k : Nat} (h : k < l.length) : l[k]!.length + 1 ≤ room l := by
  have h1 := room_take h
  have h2 := room_le l (k + 1)
  omega
end Lin
set_option maxHeartbeats 4000000 in
set_option maxRecDepth 100000 in
theorem back16_walk (v : Value) (l : List (List UInt8)) (w : World) (hT : LTabs w) (hv : Strs v l w) (hr : Lin.room l ≤ 1048576) : Calls Tryd.prog 6 #[v] w fun e w' => e = .returned (.bool true) ∧ Below w.heap.size w w' := by
  obtain ⟨A, c, hve, hc, hcell⟩ := hv.form
  have K1 := Lib.hid (small16_any w hT)
  have K2 := Lib.hid fun W (h : Strs v l W) => short_any v l 3000 W h (by omega)
  have HT := Lib.hid hT
  have HC := Lib.hid hcell
  have HV := Lib.hid hv
  have hll := Lin.room_len l
  have hlp := Lin.room_print l
  clear hT hv hcell
  generalize hlen : l.length = n at *
  have HN := Lib.hid hlen
  clear hlen
  subst hve
  go_enter Tryd.func6, Tryd.ntmps6
  go_wp2_with fail
  refine K1.out.mono ?_
  rintro e w1 ⟨rfl, hb1⟩
  have B1 := Lib.hid hb1
  have V1 := Lib.hid (HV.out.keep hb1)
  clear hb1
  have K2' := K2.out w1 V1.out
  have KN := new_frm 3000 w1
  rw [show max (3000 : Int) 0 = 3000 by decide] at KN
  by_cases h5 : Lin.room l ≤ 3000
  · rw [show decide ((Lin.room l : Int) ≤ 3000) = true from decide_eq_true (by omega)] at K2'
    have K2'' := Lib.hid K2'
    have KN' := Lib.hid KN
    have hone : Hid (∀ k, k < n → l[k]!.length + 1 ≤ 3000) := Lib.hid fun k hk => by have := Lin.room_one (l := l) (k := k) (by rw [HN.out]; exact hk); omega
    have hn3 : n ≤ 3000 := by omega
    have hlp' : (Lin.printL l).length ≤ 6000 := by omega
    clear K2' KN hr hlp hll h5 K2
    go_wp2_with fail
    refine K2''.out.mono ?_
    rintro e w1' ⟨rfl, rfl⟩
    go_wp2_with fail
    refine KN'.out.mono ?_
    rintro e w2 ⟨rfl, hF2, hb2⟩
    have F2 := Lib.hid hF2
    have B2 := Lib.hid (B1.out.trans (hb2.mono B1.out.size))
    have BW := Lib.hid hb2
    have V2 := Lib.hid (V1.out.keep hb2)
    clear hF2 hb2 KN' K2''
    go_wp2_with fail
    go_loopg [6] (n + 1) (fun gk s6 wr => ∃ k : Nat, k ≤ n ∧ s6 = .int .i64 k ∧ n - k < gk ∧ wr = w2 ∧ Hid (∀ j, j < k → Lin.bare l[j]! = false))
    case atStart => exact ⟨0, Nat.zero_le _, rfl, by omega, rfl, Lib.hid fun j hj => absurd hj (Nat.not_lt_zero _)⟩
    case round =>
      obtain ⟨k, hk, rfl, hg, rfl, I⟩ := hrel
      by_cases hlt : k < n
      · obtain ⟨ad, rfl, hb, hx⟩ := HC.out k hlt
        have hx' := (B2.out.cell (by rw [add_block]; exact hb)).trans hx
        obtain ⟨x, hxe⟩ : ∃ x, l[k]! = x := ⟨_, rfl⟩
        rw [hxe] at hx'
        unfold strV at hx'
        have hxs : x.length + 1 ≤ 3000 := by rw [← hxe]; exact hone.out k hlt
        obtain ⟨X, hX⟩ : ∃ X, (⟨x.toArray⟩ : ByteArray) = X := ⟨_, rfl⟩
        have hXl : X.data.toList = x := by rw [← hX]
        have hXs : X.size ≤ 3000 := by rw [← Lin.len_of, hXl]; omega
        rw [hX] at hx'
        have HXE := Lib.hid hxe
        have HXL := Lib.hid hXl
        clear hb hx hxe hX hXl
        go_wp2_with fail
        go_loopg [7] (X.size + 1) (fun gk2 s7 wx => ∃ q : Nat, q ≤ X.size ∧ s7 = .int .i64 q ∧ X.size - q < gk2 ∧ wx = wr ∧ Hid (Lin.bare (X.data.toList.take q) = false))
        case atStart => exact ⟨0, Nat.zero_le _, rfl, by omega, rfl, Lib.hid rfl⟩
        case round =>
          obtain ⟨q, hq, rfl, hg2, rfl, J⟩ := hrel
          by_cases hlq : q < X.size
          · obtain ⟨y, hy⟩ : ∃ y, X[q]'hlq = y := ⟨_, rfl⟩
            have hb : Lin.bare (X.data.toList.take (q + 1)) = Lin.bar y := by
              rw [Lin.take_snoc _ _ (by rw [Lin.len_of]; exact hlq), Lin.byte_of X q hlq, hy]
              have := J.out
              unfold Lin.bare at this ⊢
              rw [List.any_append, this]
              show (false || (Lin.bar y || false)) = _
              rw [Bool.or_false, Bool.false_or]
            have HB := Lib.hid hb
            clear hb
            by_cases h13 : y.toNat = 13
            · have e13 : ((y.toNat : Int) == 13) = true := beq_iff_eq.2 (by omega)
              go_wp2_with fail
              go_ret
              exact ⟨rfl, B2.out⟩
            · have e13 : ((y.toNat : Int) == 13) = false := beq_eq_false_iff_ne.2 (by omega)
              by_cases h10 : y.toNat = 10
              · have e10 : ((y.toNat : Int) == 10) = true := beq_iff_eq.2 (by omega)
                go_wp2_with fail
                go_ret
                exact ⟨rfl, B2.out⟩
              · have e10 : ((y.toNat : Int) == 10) = false := beq_eq_false_iff_ne.2 (by omega)
                go_wp2_with fail
                go_roundg (X.size - q)
                case measure => omega
                case rel => exact ⟨q + 1, by omega, by simp, by omega, rfl, Lib.hid (by rw [HB.out]; unfold Lin.bar; rw [beq_eq_false_iff_ne.2 h13, beq_eq_false_iff_ne.2 h10]; rfl)⟩
          · obtain rfl : q = X.size := by omega
            have hbx : Lin.bare x = false := by
              have := J.out
              rw [List.take_of_length_le (by rw [Lin.len_of]; exact Nat.le_refl _), HXL.out] at this
              exact this
            have HBX := Lib.hid hbx
            clear hbx
            go_wp2_with fail
            go_roundg (n - k)
            case measure => omega
            case rel => exact ⟨k + 1, by omega, by simp, by omega, rfl, Lib.hid fun j hj => by
              by_cases h : j = k
              · subst h; rw [HXE.out]; exact HBX.out
              · exact I.out j (by omega)⟩
      · obtain rfl : k = n := by omega
        have FO := Lin.fines_of (m := 3000) (l := l) fun j hj => ⟨I.out j (by rw [← HN.out]; exact hj), by have := hone.out j (by rw [← HN.out]; exact hj); omega⟩
        have TP := Lin.told_print 3000 l FO.2
        rw [FO.1] at TP
        have PR := Lib.hid (print16_any (.slice A k c) l wr V2.out (by rw [HN.out]; omega) (by omega))
        obtain ⟨P, hP⟩ : ∃ P, (⟨(Lin.printL l).toArray⟩ : ByteArray) = P := ⟨_, rfl⟩
        have hPl : P.data.toList = Lin.printL l := by rw [← hP]
        have hPs : P.size ≤ 6000 := by rw [← Lin.len_of, hPl]; exact hlp'
        rw [hP] at PR
        rw [← hPl] at TP
        have HTP := Lib.hid TP
        clear TP FO hP
        go_wp2_with fail
        refine PR.out.mono ?_
        rintro e w3 ⟨rfl, hb3⟩
        have B3 := Lib.hid (B2.out.trans (hb3.mono B2.out.size))
        have V3 := Lib.hid (V2.out.keep hb3)
        have F3 := Lib.hid (F2.out.keep hb3)
        have FE := Lib.hid (feed_to w1.heap.size w1.heap.size 3000 _ [] P w3 F3.out (Nat.le_refl _) (by have := BW.out.size; have := hb3.size; omega) ((LT.of (HT.out.keep B1.out)).keep (BW.out.trans (hb3.mono BW.out.size))) rfl (by simp; omega) _ _ HTP.out.1 HTP.out.2)
        clear hb3 PR
        go_wp2_with fail
        refine FE.out.mono ?_
        rintro e w4 ⟨L, v4, rfl, hO, hF, hD⟩
        have B4 := Lib.hid (B3.out.trans (hD.below B3.out.size B1.out.size fun g hg => by cases hg))
        have F4 := Lib.hid hF
        have hfl : (Lin.fines l).length = k := by unfold Lin.fines; rw [List.length_map, HN.out]
        obtain ⟨A4, p4, e4, hp4, -, h4⟩ := hO.frs
        rw [hfl] at e4 hp4 h4
        subst e4
        have H4 := Lib.hid h4
        clear h4 hO hF hD FE hfl
        have hne : ((k : Int) != (k : Int)) = false := by simp
        go_wp2_with fail
        go_loopg [9] (k + 1) (fun gk2 s9 wx => ∃ q : Nat, q ≤ k ∧ s9 = .int .i64 q ∧ k - q < gk2 ∧ Hid (Below w4.heap.size w4 wx))
        case atStart => exact ⟨0, Nat.zero_le _, rfl, by omega, Lib.hid (Below.refl _ _)⟩
        case round =>
          obtain ⟨q, hq, rfl, hg2, J⟩ := hrel
          by_cases hlq : q < k
          · obtain ⟨ad, rfl, hb, hx⟩ := HC.out q hlq
            have hx' := (J.out.cell (by rw [add_block]; exact Nat.lt_of_lt_of_le hb B4.out.size)).trans ((B4.out.cell (by rw [add_block]; exact hb)).trans hx)
            obtain ⟨g, o, rfl, hg4, h4⟩ := H4.out (by omega)
            obtain ⟨x0, x1, x2⟩ := (h4 q hlq).keep (J.out.block g hg4)
            rw [Lin.fines_at (by rw [HN.out]; exact hlq)] at x0 x1 x2
            dsimp only at x0 x1 x2
            unfold strV at hx'
            obtain ⟨X, hX⟩ : ∃ X, (⟨l[q]!.toArray⟩ : ByteArray) = X := ⟨_, rfl⟩
            rw [hX] at hx' x0
            clear hb hx hX h4
            go_wp2_with fail
            go_quiet (fail)
            go_wp2
            go_roundg (k - q)
            case measure => omega
            case rel => exact ⟨q + 1, by omega, by simp, by omega, Lib.hid (below_drewN J.out _)⟩
          · obtain rfl : q = k := by omega
            have RR := Lib.hid (rest_any w1.heap.size w1.heap.size 3000 v4 [] wr (F4.out.keep J.out))
            go_wp2_with fail
            refine RR.out.mono ?_
            rintro e w7' ⟨rfl, rfl⟩
            go_wp2_with fail
            go_ret
            exact ⟨rfl, B4.out.trans (J.out.mono B4.out.size)⟩
  · rw [show decide ((Lin.room l : Int) ≤ 3000) = false from decide_eq_false (by omega)] at K2'
    clear hr hlp hll h5
    go_wp2_with fail
    refine K2'.mono ?_
    rintro e w1' ⟨rfl, rfl⟩
    go_wp2_with fail
    refine KN.mono ?_
    rintro e w2 ⟨rfl, hF2, hb2⟩
    have B2 := Lib.hid (B1.out.trans (hb2.mono B1.out.size))
    clear hF2 hb2
    go_wp2_with fail
    go_ret
    exact ⟨rfl, B2.out⟩
end Go.Proofs.YtkcabnodhdhaaaaDoor
