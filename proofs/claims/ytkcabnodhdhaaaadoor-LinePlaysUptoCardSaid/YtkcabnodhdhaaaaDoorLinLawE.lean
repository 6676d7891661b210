/-
  Proved here: LinePlays' walk: a framer tells, piece by piece, what the document's own one tells. Conditions: the pieces have 1,048,576 bytes at most, with one more each; the library's tables are laid.
-/
import Derived.Test.YtkcabnodhdhaaaaDoorLinLawB
namespace Go.Proofs.YtkcabnodhdhaaaaDoor
open Go.RowKit
/-- The document's framer is no part of a framer, nor of a row of lines. -/
theorem YAt.fed {base B Y : Nat} {m n : Int} {v v' : Value} {r inn : List UInt8} {w w' : World} (h : YAt Y inn n w) (hF : FAt base B m v r w) (k : Fed B v v' w w') : YAt Y inn n w' := by
  refine (k.block Y h.lt (fun e => ?_) fun e => ?_).trans h
  · subst e
    unfold YAt at h
    rw [hF.blk] at h
    injection h with h
    injection h with h1 h2 h3
    cases h2
  · rcases hF.own.2 with ⟨h0, -⟩ | ⟨g', cap, cur, h0, -, hg', -⟩
    · rw [h0] at e; cases e
    · rw [h0] at e
      change some Y = some g' at e
      injection e with e
      subst e
      unfold YAt at h
      rw [h] at hg'
      injection hg' with hg'
      injection hg' with h1 h2 h3
      cases h2
theorem FAt.yfed {base B Y : Nat} {m n : Int} {v u' : Value} {r inn : List UInt8} {w w' : World} (h : FAt base B m v r w) (hY : YAt Y inn n w) (k : Fed Y (.slice none 0 0) u' w w') : FAt base B m v r w' := by
  have hne : ∀ (g : Nat) (cur : Array Value) (T : TypeId), w.heap[g]? = some (.cells cur T (0, 0)) → T ≠ 32 → w'.heap[g]? = w.heap[g]? := fun g cur T hg hT => k.block g (Array.getElem?_eq_some_iff.1 hg).1 (fun e => by
    subst e
    unfold YAt at hY
    rw [hY] at hg
    injection hg with hg
    injection hg with h1 h2 h3
    exact hT h2.symm) fun e => by cases e
  refine ⟨(hne B _ _ h.blk (by decide)).trans h.blk, h.own.1, ?_⟩
  rcases h.own.2 with h0 | ⟨g, cap, cur, rfl, h1, hg, h2⟩
  · exact .inl h0
  · exact .inr ⟨g, cap, cur, rfl, h1, (hne g _ _ hg (by decide)).trans hg, h2⟩
theorem OwnF.yfed {b2 Y : Nat} {n : Int} {L u' : Value} {ts : List Lin.Fr} {inn : List UInt8} {w w' : World} (h : OwnF b2 L ts w) (hY : YAt Y inn n w) (k : Fed Y (.slice none 0 0) u' w w') : OwnF b2 L ts w' :=
  h.same fun g cur hL hg => k.block g (Array.getElem?_eq_some_iff.1 hg).1 (fun e => by
    subst e
    unfold YAt at hY
    rw [hY] at hg
    injection hg with hg
    injection hg with h1 h2 h3
    cases h2) fun e => by cases e
set_option maxHeartbeats 8000000 in
set_option maxRecDepth 100000 in
theorem plays16_walk (most : Int) (v : Value) (l : List (List UInt8)) (u : Value) (ms : List Int) (w : World) (hT : LTabs w) (hv : Strs v l w) (hu : Nums u ms w) (hr : Lin.room l ≤ 1048576) : Calls Tryd.prog 3 #[.int .i64 most, v, u] w fun e w' => e = .returned (.bool true) ∧ Below w.heap.size w w' := by
  obtain ⟨A, c, hve, hc, hcell⟩ := hv.form
  obtain ⟨A2, c2, hue, hc2, hcell2⟩ := hu.form
  have K1 := Lib.hid (small16_any w hT)
  have K2 := Lib.hid fun W (h : Strs v l W) => short_any v l 3000 W h (by omega)
  have HT := Lib.hid hT
  have HC := Lib.hid hcell
  have HC2 := Lib.hid hcell2
  have HV := Lib.hid hv
  have hll := Lin.room_len l
  clear hT hv hu hcell hcell2
  generalize hlen : l.length = n at *
  have HN := Lib.hid hlen
  generalize hlen2 : ms.length = n2 at *
  clear hlen hlen2
  subst hve hue
  go_enter Tryd.func3, Tryd.ntmps3
  go_wp2_with fail
  refine K1.out.mono ?_
  rintro e w1 ⟨rfl, hb1⟩
  have B1 := Lib.hid hb1
  have V1 := Lib.hid (HV.out.keep hb1)
  clear hb1
  have K2' := K2.out w1 V1.out
  by_cases h5 : Lin.room l ≤ 3000
  · rw [show decide ((Lin.room l : Int) ≤ 3000) = true from decide_eq_true (by omega)] at K2'
    have K2'' := Lib.hid K2'
    have H5 := Lib.hid h5
    have hn3 : n ≤ 3000 := by omega
    clear K2' hr hll h5 K2
    go_wp2_with fail
    refine K2''.out.mono ?_
    rintro e w1' ⟨rfl, rfl⟩
    obtain ⟨m, hm⟩ : ∃ m, max most 0 = m := ⟨_, rfl⟩
    go_wp2_with fail
    refine (new_frm most w1).mono ?_
    rintro e w2 ⟨rfl, hF2, hb2⟩
    rw [hm] at hF2
    have B2 := Lib.hid (B1.out.trans (hb2.mono B1.out.size))
    have hX := hF2.lt
    have F2 := Lib.hid hF2
    clear hF2 hb2 K2''
    go_wp2_with fail
    refine (refNew_any most w2).mono ?_
    rintro e w3 ⟨rfl, hY3, hb3⟩
    rw [hm] at hY3
    have B3 := Lib.hid (B2.out.trans (hb3.mono B2.out.size))
    have F3 := Lib.hid (F2.out.keep hb3)
    have Y3 := Lib.hid hY3
    have hs1 := B1.out.size
    have hs3 := hb3.size
    have hY3l := hY3.lt
    clear hm hY3 hb3 F2 B2
    obtain ⟨X, hXe⟩ : ∃ X, w1.heap.size = X := ⟨_, rfl⟩
    obtain ⟨Y, hYe⟩ : ∃ Y, w2.heap.size = Y := ⟨_, rfl⟩
    rw [hXe] at hX F3 hs1 ⊢
    rw [hYe] at Y3 hs3 hX hY3l ⊢
    have hwX : w.heap.size ≤ X := by omega
    have L0 : Hid (∀ W, Below w.heap.size w W → LT X W) := Lib.hid fun W hb => ((LT.of HT.out).keep hb).up hwX
    clear hXe hYe
    go_wp2_with fail
    go_loopg [11] (n + 1) (fun gk s11 wr => ∃ (k : Nat) (m : Int) (r : List UInt8) (vx : Value), k ≤ n ∧ s11 = .int .i64 k ∧ n - k < gk ∧ Hid (FAt X X m vx r wr ∧ YAt Y r m wr ∧ Below w.heap.size w wr ∧ Lin.wholes r = [] ∧ r.length ≤ Lin.room (l.take k)))
    case atStart => exact ⟨0, m, [], _, Nat.zero_le _, rfl, by omega, Lib.hid ⟨F3.out, Y3.out, B3.out, rfl, Nat.zero_le _⟩⟩
    case round =>
      obtain ⟨k, m1, r, vx, hk, rfl, hg, I⟩ := hrel
      by_cases hlt : k < n
      · obtain ⟨ad, rfl, hb, hx⟩ := HC.out k hlt
        obtain ⟨p, hp⟩ : ∃ p, l[k]! = p := ⟨_, rfl⟩
        have hrt := Lin.room_take (l := l) (k := k) (by rw [HN.out]; exact hlt)
        have hle := Lin.room_le l (k + 1)
        have h5 := H5.out
        have hrl := I.out.2.2.2.2
        rw [hp] at hx hrt
        unfold strV at hx
        obtain ⟨P, hP⟩ : ∃ P, (⟨p.toArray⟩ : ByteArray) = P := ⟨_, rfl⟩
        have hPl : P.data.toList = p := by rw [← hP]
        have hPs : P.size = p.length := by rw [← Lin.len_of, hPl]
        rw [hP] at hx
        have CL : Hid (∀ W, Below w.heap.size w W → W.cell? (ad.add k) = some (.string P)) := Lib.hid fun W h => (h.cell (by rw [add_block]; exact hb)).trans hx
        have hrP : r.length + P.size ≤ 100000 := by omega
        have hRk : r.length + P.size ≤ Lin.room (l.take (k + 1)) := by omega
        have HRK := Lib.hid hRk
        clear hb hx hp hP hPl hPs hrt hle h5 hrl hRk
        go_upto_if 39 with (fail)
        go_cut [] from 39 to 53 (fun wx => ∃ (m2 : Int) (vx2 : Value), Hid (FAt X X m2 vx2 r wx ∧ YAt Y r m2 wx ∧ Below w.heap.size w wx))
        case first =>
          by_cases hm : k < n2
          · obtain ⟨ad2, rfl, hb2, hx2⟩ := HC2.out k hm
            have hmz : (k : Int) < (n2 : Int) := by omega
            obtain ⟨z, hz⟩ : ∃ z, ms[k]! = z := ⟨_, rfl⟩
            rw [hz] at hx2
            have hx2' := (I.out.2.2.1.cell (by rw [add_block]; exact hb2)).trans hx2
            have MO := Lib.hid (most_any X X m1 z vx r wr I.out.1)
            have HX2 := Lib.hid fun W (h : Below w.heap.size w W) => (h.cell (by rw [add_block]; exact hb2)).trans hx2
            clear hb2 hx2 hz
            go_wp2_with fail
            refine MO.out.mono ?_
            rintro e w4 ⟨rfl, hF4, hD4⟩
            have Y4 := I.out.2.1.fed I.out.1 hD4
            have B4 := I.out.2.2.1.trans (hD4.below I.out.2.2.1.size hwX fun g hg => Nat.le_trans hwX (I.out.1.own.off g hg))
            have hx4 := HX2.out w4 B4
            have y0 := Y4.c1
            have y1 := Y4.free 1
            have F4 := Lib.hid hF4
            have HY4 := Lib.hid Y4
            have HB4 := Lib.hid B4
            clear hF4 hD4 Y4 B4 MO
            go_wp2_with fail
            go_meet
            have PT := Fed.put Y 1 (.int .i64 (max z 0)) (.slice none 0 0) w4
            exact ⟨max z 0, vx, Lib.hid ⟨F4.out.yfed HY4.out PT, HY4.out.set1 _, HB4.out.trans (PT.below HB4.out.size (by omega) fun g hg => by cases hg)⟩⟩
          · have hmz : ¬ (k : Int) < (n2 : Int) := by omega
            go_wp2_with fail
            go_meet
            exact ⟨m1, vx, Lib.hid ⟨I.out.1, I.out.2.1, I.out.2.2.1⟩⟩
        case rest =>
          obtain ⟨m2, vx2, J⟩ := hcut
          obtain ⟨TS, hTS⟩ : ∃ TS, Lin.told m2 r P.data.toList = TS := ⟨_, rfl⟩
          have hbl := Lin.both_le m2 r P.data.toList
          rw [Lin.len_of] at hbl
          have HRR : Hid ((Lin.rest (r ++ P.data.toList)).length ≤ Lin.room (l.take (k + 1))) := Lib.hid (by have := HRK.out; omega)
          have hTl : TS.length ≤ 1000000 := by rw [← hTS]; omega
          have HW : Hid (Lin.wholes r = []) := Lib.hid I.out.2.2.2.1
          have FX := Lib.hid J.out.1
          have FY := Lib.hid J.out.2.1
          have BB := Lib.hid J.out.2.2
          have PX : Hid (∀ W v rY mY, FAt X X m2 v r W → YAt Y rY mY W → Below w.heap.size w W → Lin.wholes r = [] → r.length + P.size ≤ 100000 → Calls Tryd.prog 14 #[.pointer (some ⟨X, 0, none⟩), .string P] W fun e w' => ∃ L v', e = .returned L ∧ OwnF W.heap.size L (Lin.told m2 r P.data.toList) w' ∧ FAt X X m2 v' (Lin.rest (r ++ P.data.toList)) w' ∧ YAt Y rY mY w' ∧ Below w.heap.size w w' ∧ (∀ b K ts, OwnF b K ts W → OwnF b K ts w')) := Lib.hid fun W v rY mY hF hY hB hw hr =>
            (feed_any X X m2 v r P W hF (Nat.le_refl _) (Nat.le_of_lt hF.lt) (L0.out W hB) hw hr).mono fun e w' ⟨L, v', h1, h2, h3, h4⟩ => ⟨L, v', h1, h2, h3, hY.fed hF h4, hB.trans (h4.below hB.size hwX fun g hg => Nat.le_trans hwX (hF.own.off g hg)), fun b K ts h => h.fed hF h4⟩
          have PY : Hid (∀ W v rX mX, FAt X X mX v rX W → YAt Y r m2 W → Below w.heap.size w W → r.length + P.size ≤ 100000 → Calls Tryd.prog 15 #[.pointer (some ⟨Y, 0, none⟩), .string P] W fun e w' => ∃ L, e = .returned L ∧ OwnF W.heap.size L (Lin.told m2 r P.data.toList) w' ∧ YAt Y (Lin.rest (r ++ P.data.toList)) m2 w' ∧ FAt X X mX v rX w' ∧ Below w.heap.size w w' ∧ (∀ b K ts, OwnF b K ts W → OwnF b K ts w')) := Lib.hid fun W v rX mX hF hY hB hr =>
            (refFeed_any Y r m2 P W hY hr).mono fun e w' ⟨L, h1, h2, h3, h4⟩ => ⟨L, h1, h2, h3, hF.yfed hY h4, hB.trans (h4.below hB.size (by omega) fun g hg => by cases hg), fun b K ts h => h.yfed hY h4⟩
          clear hbl J
          go_upto_region 13 with (fail)
          refine wp_region_held_drew (S := (fun w' : World => w'.cell? (ad.add k) = some (.string P))) (by kernel_rfl) ?_ (fun hHeld => ?_)
          · exact CL.out _ BB.out.drew
          replace FX : Hid (FAt X X m2 vx2 r wc.drew) := Lib.hid ⟨FX.out.blk, World.ownsRow.drew FX.out.own⟩
          replace FY : Hid (YAt Y r m2 wc.drew) := Lib.hid FY.out
          replace BB : Hid (Below w.heap.size w wc.drew) := Lib.hid BB.out.drew
          generalize wc.drew = d1 at FX FY BB hHeld ⊢
          refine takeL 0 54 (v := ?_) rfl rfl (by kernel_rfl) (by kernel_rfl) (by kernel_rfl) (fun _ _ _ h => h) (Or.inl ⟨by rfl, ?_⟩) (by assumption) ?_
          rotate_left
          · intro w hSw
            (try dsimp only at hSw)
            go_simp
            first | done | with_reducible rfl
          simp only [Act.put, List.setIfInBounds_toArray, List.set_cons_zero, List.set_cons_succ]
          refine takeL 1 55 (v := ?_) rfl rfl (by kernel_rfl) (by kernel_rfl) (by kernel_rfl) (fun _ _ _ h => h) (Or.inl ⟨by rfl, ?_⟩) (by assumption) ?_
          rotate_left
          · intro w hSw
            (try dsimp only at hSw)
            go_simp
            first | done | with_reducible rfl
          simp only [Act.put, List.setIfInBounds_toArray, List.set_cons_zero, List.set_cons_succ]
          refine takeL 2 56 (v := ?_) rfl rfl (by kernel_rfl) (by kernel_rfl) (by kernel_rfl) (fun _ _ _ h => h) (Or.inl ⟨by rfl, ?_⟩) (by assumption) ?_
          rotate_left
          · intro w hSw
            (try dsimp only at hSw)
            go_simp
            first | done | with_reducible rfl
          simp only [Act.put, List.setIfInBounds_toArray, List.set_cons_zero, List.set_cons_succ]
          refine takeL 3 57 (v := ?_) rfl rfl (by kernel_rfl) (by kernel_rfl) (by kernel_rfl) (fun _ _ _ h => h) (Or.inl ⟨by rfl, ?_⟩) (by assumption) ?_
          rotate_left
          · intro w hSw
            (try dsimp only at hSw)
            go_simp
            first | done | with_reducible rfl
          simp only [Act.put, List.setIfInBounds_toArray, List.set_cons_zero, List.set_cons_succ]
          refine takeL 4 58 (v := ?_) rfl rfl (by kernel_rfl) (by kernel_rfl) (by kernel_rfl) (fun _ _ _ h => h) (Or.inl ⟨by rfl, ?_⟩) (by assumption) ?_
          rotate_left
          · intro w hSw
            (try dsimp only at hSw)
            go_simp
            first | done | with_reducible rfl
          simp only [Act.put, List.setIfInBounds_toArray, List.set_cons_zero, List.set_cons_succ]
          refine takeL 6 60 (v := ?_) rfl rfl (by kernel_rfl) (by kernel_rfl) (by kernel_rfl) (fun _ _ _ h => h) (Or.inl ⟨by rfl, ?_⟩) (by assumption) ?_
          rotate_left
          · intro w hSw
            (try dsimp only at hSw)
            go_simp
            first | done | with_reducible rfl
          simp only [Act.put, List.setIfInBounds_toArray, List.set_cons_zero, List.set_cons_succ]
          refine takeL 7 61 (v := ?_) rfl rfl (by kernel_rfl) (by kernel_rfl) (by kernel_rfl) (fun _ _ _ h => h) (Or.inl ⟨by rfl, ?_⟩) (by assumption) ?_
          rotate_left
          · intro w hSw
            (try dsimp only at hSw)
            go_simp
            first | done | with_reducible rfl
          simp only [Act.put, List.setIfInBounds_toArray, List.set_cons_zero, List.set_cons_succ]
          refine takeL 8 62 (v := ?_) rfl rfl (by kernel_rfl) (by kernel_rfl) (by kernel_rfl) (fun _ _ _ h => h) (Or.inl ⟨by rfl, ?_⟩) (by assumption) ?_
          rotate_left
          · intro w hSw
            (try dsimp only at hSw)
            go_simp
            first | done | with_reducible rfl
          simp only [Act.put, List.setIfInBounds_toArray, List.set_cons_zero, List.set_cons_succ]
          refine takeL 9 63 (v := ?_) rfl rfl (by kernel_rfl) (by kernel_rfl) (by kernel_rfl) (fun _ _ _ h => h) (Or.inl ⟨by rfl, ?_⟩) (by assumption) ?_
          rotate_left
          · intro w hSw
            (try dsimp only at hSw)
            go_simp
            first | done | with_reducible rfl
          simp only [Act.put, List.setIfInBounds_toArray, List.set_cons_zero, List.set_cons_succ]
          refine takeL 10 64 (v := ?_) rfl rfl (by kernel_rfl) (by kernel_rfl) (by kernel_rfl) (fun _ _ _ h => h) (Or.inl ⟨by rfl, ?_⟩) (by assumption) ?_
          rotate_left
          · intro w hSw
            (try dsimp only at hSw)
            go_simp
            first | done | with_reducible rfl
          simp only [Act.put, List.setIfInBounds_toArray, List.set_cons_zero, List.set_cons_succ]
          refine wpAnyH_ready (rs := [5]) (by kernel_rfl) (by simp) ?_
          refine (AllReadyH.cons (o := { dst := some 59, op := .call { callee := .value (.func 14), args := #[.tmp 54, .tmp 58], argTypes := #[26, 9] }, type := _, pos := "law.go:53", after := _, guard := none }) rfl (fun K_ hK => ?_) AllReadyH.nil)
          (try go_simp)
          go_at_call 14
          refine (PX.out _ _ _ _ FX.out FY.out BB.out HW.out hrP).mono ?_
          rintro e w2 ⟨L1, v2, rfl, hO1, hF2, hY2, hB2, hO2⟩
          replace FX := Lib.hid hF2
          replace FY := Lib.hid hY2
          replace BB := Lib.hid hB2
          have OX := Lib.hid hO1
          have OT := Lib.hid hO2
          clear hO1 hF2 hY2 hB2 hO2
          go_wp2_with fail
          clear hHeld
          refine hK.out _ _ ?_ (fun hHeld => ?_)
          · exact CL.out _ BB.out
          clear hK K_
          have SX0 := Lib.hid OX.out
          clear OT OX
          refine wpAnyH_ready (rs := [11]) (by kernel_rfl) (by simp) ?_
          refine (AllReadyH.cons (o := { dst := some 65, op := .call { callee := .value (.func 15), args := #[.tmp 60, .tmp 64], argTypes := #[28, 9] }, type := _, pos := "law.go:53", after := _, guard := none }) rfl (fun K_ hK => ?_) AllReadyH.nil)
          (try go_simp)
          go_at_call 15
          refine (PY.out _ _ _ _ FX.out FY.out BB.out hrP).mono ?_
          rintro e w3 ⟨L2, rfl, hO1, hY2, hF2, hB2, hO2⟩
          replace FX := Lib.hid hF2
          replace FY := Lib.hid hY2
          replace BB := Lib.hid hB2
          have OY := Lib.hid hO1
          have OT := Lib.hid hO2
          clear hO1 hF2 hY2 hB2 hO2
          go_wp2_with fail
          clear hHeld
          refine hK.out _ _ ?_ (fun hHeld => ?_)
          · exact CL.out _ BB.out
          clear hK K_
          have SX := Lib.hid (OT.out _ _ _ SX0.out)
          have SY := Lib.hid OY.out
          clear OT OY SX0
          rw [hTS] at SX SY
          refine wpAnyH_ready (rs := [12]) (by kernel_rfl) (by simp) ?_
          refine (AllReadyH.cons (o := { dst := some 66, op := .call { callee := .value (.func 13), args := #[.tmp 59, .tmp 65], argTypes := #[34, 34] }, type := _, pos := "law.go:53", after := _, guard := none }) rfl (fun K_ hK => ?_) AllReadyH.nil)
          (try go_simp)
          go_at_call 13
          refine (same16_yes _ _ _ _ SX.out.frs SY.out.frs hTl).mono ?_
          rintro e w4 ⟨rfl, hb4⟩
          replace FX := Lib.hid (FX.out.keep hb4)
          replace FY := Lib.hid (FY.out.keep hb4)
          replace BB := Lib.hid (BB.out.trans (hb4.mono BB.out.size))
          clear hb4
          go_wp2_with fail
          clear hHeld
          refine hK.out _ _ ?_ (fun hHeld => ?_)
          · exact CL.out _ BB.out
          clear hK K_
          refine takeL 13 67 (v := ?_) rfl rfl (by kernel_rfl) (by kernel_rfl) (by kernel_rfl) (fun _ _ _ h => h) (Or.inl ⟨by rfl, ?_⟩) (by assumption) ?_
          rotate_left
          · intro w hSw
            (try dsimp only at hSw)
            go_simp
            first | done | with_reducible rfl
          simp only [Act.put, List.setIfInBounds_toArray, List.set_cons_zero, List.set_cons_succ]
          refine takeL 14 68 (v := ?_) rfl rfl (by kernel_rfl) (by kernel_rfl) (by kernel_rfl) (fun _ _ _ h => h) (Or.inl ⟨by rfl, ?_⟩) (by assumption) ?_
          rotate_left
          · intro w hSw
            (try dsimp only at hSw)
            go_simp
            first | done | with_reducible rfl
          simp only [Act.put, List.setIfInBounds_toArray, List.set_cons_zero, List.set_cons_succ]
          refine takeL 15 69 (v := ?_) rfl rfl (by kernel_rfl) (by kernel_rfl) (by kernel_rfl) (fun _ _ _ h => h) (Or.inl ⟨by rfl, ?_⟩) (by assumption) ?_
          rotate_left
          · intro w hSw
            (try dsimp only at hSw)
            go_simp
            first | done | with_reducible rfl
          simp only [Act.put, List.setIfInBounds_toArray, List.set_cons_zero, List.set_cons_succ]
          refine takeL 17 71 (v := ?_) rfl rfl (by kernel_rfl) (by kernel_rfl) (by kernel_rfl) (fun _ _ _ h => h) (Or.inl ⟨by rfl, ?_⟩) (by assumption) ?_
          rotate_left
          · intro w hSw
            (try dsimp only at hSw)
            go_simp
            first | done | with_reducible rfl
          simp only [Act.put, List.setIfInBounds_toArray, List.set_cons_zero, List.set_cons_succ]
          refine takeL 18 72 (v := ?_) rfl rfl (by kernel_rfl) (by kernel_rfl) (by kernel_rfl) (fun _ _ _ h => h) (Or.inl ⟨by rfl, ?_⟩) (by assumption) ?_
          rotate_left
          · intro w hSw
            (try dsimp only at hSw)
            go_simp
            first | done | with_reducible rfl
          simp only [Act.put, List.setIfInBounds_toArray, List.set_cons_zero, List.set_cons_succ]
          refine takeL 19 73 (v := ?_) rfl rfl (by kernel_rfl) (by kernel_rfl) (by kernel_rfl) (fun _ _ _ h => h) (Or.inl ⟨by rfl, ?_⟩) (by assumption) ?_
          rotate_left
          · intro w hSw
            (try dsimp only at hSw)
            go_simp
            first | done | with_reducible rfl
          simp only [Act.put, List.setIfInBounds_toArray, List.set_cons_zero, List.set_cons_succ]
          refine wpAnyH_ready (rs := [16, 20]) (by kernel_rfl) (by simp) ?_
          refine (AllReadyH.cons (o := { dst := some 70, op := .call { callee := .value (.func 16), args := #[.tmp 69], argTypes := #[26] }, type := _, pos := "law.go:53", after := _, guard := some (14, false) }) rfl (fun K_ hK => ?_) (AllReadyH.cons (o := { dst := some 74, op := .load 9 (.tmp 73), type := _, pos := "law.go:53", after := _, guard := some (14, false) }) rfl (fun K_ hK => ?_) AllReadyH.nil))
          · skip
            (try go_simp)
            go_at_call 16
            refine (rest_any _ _ _ _ _ _ FX.out).mono ?_
            rintro e w5 ⟨rfl, rfl⟩
            go_wp2_with fail
            clear hHeld
            refine hK.out _ _ ?_ (fun hHeld => ?_)
            · exact CL.out _ BB.out
            clear hK K_
            refine wpAnyH_ready (rs := [20]) (by kernel_rfl) (by simp) ?_
            refine (AllReadyH.cons (o := { dst := some 74, op := .load 9 (.tmp 73), type := _, pos := "law.go:53", after := _, guard := some (14, false) }) rfl (fun K_ hK => ?_) AllReadyH.nil)
            have y0 := FY.out.c0
            (try go_simp)
            go_wp2_with fail
            clear hHeld
            refine hK.out _ _ ?_ (fun hHeld => ?_)
            · exact CL.out _ BB.out
            clear hK K_
            refine takeL 21 75 (v := ?_) rfl rfl (by kernel_rfl) (by kernel_rfl) (by kernel_rfl) (fun _ _ _ h => h) (Or.inl ⟨by rfl, ?_⟩) (by assumption) ?_
            rotate_left
            · intro w hSw
              (try dsimp only at hSw)
              go_simp
              first | done | with_reducible rfl
            simp only [Act.put, List.setIfInBounds_toArray, List.set_cons_zero, List.set_cons_succ]
            refine takeL 22 76 (v := ?_) rfl rfl (by kernel_rfl) (by kernel_rfl) (by kernel_rfl) (fun _ _ _ h => h) (Or.inl ⟨by rfl, ?_⟩) (by assumption) ?_
            rotate_left
            · intro w hSw
              (try dsimp only at hSw)
              go_simp
              first | done | with_reducible rfl
            simp only [Act.put, List.setIfInBounds_toArray, List.set_cons_zero, List.set_cons_succ]
            refine takeL 23 77 (v := ?_) rfl rfl (by kernel_rfl) (by kernel_rfl) (by kernel_rfl) (fun _ _ _ h => h) (Or.inl ⟨by rfl, ?_⟩) (by assumption) ?_
            rotate_left
            · intro w hSw
              (try dsimp only at hSw)
              go_simp
              first | done | with_reducible rfl
            simp only [Act.put, List.setIfInBounds_toArray, List.set_cons_zero, List.set_cons_succ]
            refine wpAnyH_done (by kernel_rfl) ?_ _
            go_wp2_with fail
            go_roundg (n - k)
            case measure => omega
            case rel => exact ⟨k + 1, m2, _, _, by omega, by simp, by omega, Lib.hid ⟨FX.out, FY.out, BB.out, Lin.whole_rest _, HRR.out⟩⟩
          · skip
            have y0 := FY.out.c0
            (try go_simp)
            go_wp2_with fail
            clear hHeld
            refine hK.out _ _ ?_ (fun hHeld => ?_)
            · exact CL.out _ BB.out
            clear hK K_
            refine takeL 21 75 (v := ?_) rfl rfl (by kernel_rfl) (by kernel_rfl) (by kernel_rfl) (fun _ _ _ h => h) (Or.inl ⟨by rfl, ?_⟩) (by assumption) ?_
            rotate_left
            · intro w hSw
              (try dsimp only at hSw)
              go_simp
              first | done | with_reducible rfl
            simp only [Act.put, List.setIfInBounds_toArray, List.set_cons_zero, List.set_cons_succ]
            refine wpAnyH_ready (rs := [16]) (by kernel_rfl) (by simp) ?_
            refine (AllReadyH.cons (o := { dst := some 70, op := .call { callee := .value (.func 16), args := #[.tmp 69], argTypes := #[26] }, type := _, pos := "law.go:53", after := _, guard := some (14, false) }) rfl (fun K_ hK => ?_) AllReadyH.nil)
            (try go_simp)
            go_at_call 16
            refine (rest_any _ _ _ _ _ _ FX.out).mono ?_
            rintro e w5 ⟨rfl, rfl⟩
            go_wp2_with fail
            clear hHeld
            refine hK.out _ _ ?_ (fun hHeld => ?_)
            · exact CL.out _ BB.out
            clear hK K_
            refine takeL 22 76 (v := ?_) rfl rfl (by kernel_rfl) (by kernel_rfl) (by kernel_rfl) (fun _ _ _ h => h) (Or.inl ⟨by rfl, ?_⟩) (by assumption) ?_
            rotate_left
            · intro w hSw
              (try dsimp only at hSw)
              go_simp
              first | done | with_reducible rfl
            simp only [Act.put, List.setIfInBounds_toArray, List.set_cons_zero, List.set_cons_succ]
            refine takeL 23 77 (v := ?_) rfl rfl (by kernel_rfl) (by kernel_rfl) (by kernel_rfl) (fun _ _ _ h => h) (Or.inl ⟨by rfl, ?_⟩) (by assumption) ?_
            rotate_left
            · intro w hSw
              (try dsimp only at hSw)
              go_simp
              first | done | with_reducible rfl
            simp only [Act.put, List.setIfInBounds_toArray, List.set_cons_zero, List.set_cons_succ]
            refine wpAnyH_done (by kernel_rfl) ?_ _
            go_wp2_with fail
            go_roundg (n - k)
            case measure => omega
            case rel => exact ⟨k + 1, m2, _, _, by omega, by simp, by omega, Lib.hid ⟨FX.out, FY.out, BB.out, Lin.whole_rest _, HRR.out⟩⟩
      · obtain rfl : k = n := by omega
        have RS := Lib.hid (reset_fed X X m1 vx r wr I.out.1)
        go_wp2_with fail
        refine RS.out.mono ?_
        rintro e w4 ⟨rfl, hF4, hD4⟩
        have B4 := Lib.hid (I.out.2.2.1.trans (hD4.below I.out.2.2.1.size hwX fun g hg => Nat.le_trans hwX (I.out.1.own.off g hg)))
        have RE := Lib.hid (rest_any X X m1 _ [] w4 hF4)
        have FE := Lib.hid (feed_to X X m1 _ [] ⟨#[]⟩ w4 hF4 (Nat.le_refl _) (Nat.le_of_lt hF4.lt) (L0.out w4 B4.out) rfl (by decide) [] [] rfl rfl)
        clear hF4 hD4 RS
        go_wp2_with fail
        refine RE.out.mono ?_
        rintro e w5 ⟨rfl, rfl⟩
        go_wp2_with fail
        refine FE.out.mono ?_
        rintro e w6 ⟨L6, v6, rfl, hO6, hF6, hD6⟩
        have B6 := Lib.hid (B4.out.trans (hD6.below B4.out.size hwX fun g hg => by cases hg))
        obtain ⟨A6, p6, e6, -, -⟩ := hO6.shape
        subst e6
        clear hO6 hF6 hD6
        go_wp2_with fail
        go_ret
        exact ⟨rfl, B6.out⟩
  · rw [show decide ((Lin.room l : Int) ≤ 3000) = false from decide_eq_false (by omega)] at K2'
    clear hr hll h5
    go_wp2_with fail
    refine K2'.mono ?_
    rintro e w1' ⟨rfl, rfl⟩
    go_wp2_with fail
    refine (new_frm most w1).mono ?_
    rintro e w2 ⟨rfl, hF2, hb2⟩
    have B2 := Lib.hid (B1.out.trans (hb2.mono B1.out.size))
    clear hF2 hb2
    go_wp2_with fail
    refine (refNew_any most w2).mono ?_
    rintro e w3 ⟨rfl, hY3, hb3⟩
    have B3 := Lib.hid (B2.out.trans (hb3.mono B2.out.size))
    clear hY3 hb3
    go_wp2_with fail
    go_ret
    exact ⟨rfl, B3.out⟩
end Go.Proofs.YtkcabnodhdhaaaaDoor
