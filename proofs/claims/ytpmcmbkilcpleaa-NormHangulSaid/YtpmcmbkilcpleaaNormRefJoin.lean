/-
  Proved here: the document's own 'make2' and 'Join' of layer 3: what two make, and what is joined. Conditions: the slice can be read, and holds at most 10,000 numbers.
-/
import Derived.Test.YtpmcmbkilcpleaaNormRefOne
import Derived.Deep.RegionWith
namespace Go.Proofs.Ytpmcmbkilcpleaa
open Go.RowKit Utf
theorem mk_lv {a b : Int} (h : 4352 ≤ a ∧ a ≤ 4370 ∧ 4449 ≤ b ∧ b ≤ 4469) : Norm.make2 a b = some (44032 + (a - 4352) * 588 + (b - 4449) * 28) := by
  unfold Norm.make2; rw [if_pos h]
theorem mk_lvt {a b : Int} (h : 44032 ≤ a ∧ a ≤ 55203 ∧ (a - 44032) % 28 = 0 ∧ 4520 ≤ b ∧ b ≤ 4546) : Norm.make2 a b = some (a + b - 4519) := by
  unfold Norm.make2; rw [if_neg (by omega), if_pos ⟨(Norm.syl_iff a).2 ⟨h.1, h.2.1⟩, h.2.2⟩]
theorem mk_pair {a b : Int} (h1 : ¬ (4352 ≤ a ∧ a ≤ 4370 ∧ 4449 ≤ b ∧ b ≤ 4469)) (h2 : ¬ (44032 ≤ a ∧ a ≤ 55203 ∧ (a - 44032) % 28 = 0 ∧ 4520 ≤ b ∧ b ≤ 4546)) : Norm.make2 a b = pairOf a b := by
  unfold Norm.make2; rw [if_neg h1, if_neg fun h => h2 ⟨((Norm.syl_iff a).1 h.1).1, ((Norm.syl_iff a).1 h.1).2, h.2⟩]
set_option maxHeartbeats 4000000 in
set_option maxRecDepth 100000 in
theorem make2_any (a b : Int) (w : World) : Calls Try.prog 40 #[.int .i32 a, .int .i32 b] w (TellsRune (Norm.make2 a b) w) := by
  have hS := fun W => syllable_any a W
  have hP := fun W => refPair_any a b W
  have HP := Lib.hid hP
  clear hP
  cases hsy : Norm.syl a with
  | true =>
    obtain ⟨h1, h2⟩ := (Norm.syl_iff a).1 hsy
    rw [hsy] at hS
    have HS := Lib.hid hS
    clear hS hsy
    go_enter Try.func40, Try.ntmps40
    go_wp2_with (first
      | (go_at_call 56; refine (HS.out _).mono ?_; rintro e w1 ⟨rfl, rfl⟩)
      | (go_at_call 58; refine (HP.out _).mono ?_; rintro e w1 ⟨rfl, hb1⟩))
    all_goals go_ret2
    all_goals first
      | exact ⟨by rw [mk_lvt (by omega)]; rfl, Below.refl _ _⟩
      | exact ⟨by rw [mk_pair (by omega) (by omega)]; rfl, by assumption⟩
  | false =>
    have hno : ¬ (44032 ≤ a ∧ a ≤ 55203) := fun h => by rw [(Norm.syl_iff a).2 h] at hsy; cases hsy
    have HNO := Lib.hid hno
    rw [hsy] at hS
    have HS := Lib.hid hS
    clear hS hsy hno
    go_enter Try.func40, Try.ntmps40
    go_wp2_with (first
      | (go_at_call 56; refine (HS.out _).mono ?_; rintro e w1 ⟨rfl, rfl⟩)
      | (go_at_call 58; refine (HP.out _).mono ?_; rintro e w1 ⟨rfl, hb1⟩))
    all_goals go_ret2
    all_goals first
      | exact ⟨by rw [mk_lv (by omega)]; rfl, Below.refl _ _⟩
      | exact ⟨by rw [mk_pair (by omega) (by have := HNO.out; omega)]; rfl, by assumption⟩
namespace Norm
theorem while_all {p : Int → Bool} : ∀ {M : List Int} (B : List Int), (∀ y ∈ M, p y = true) → (∀ s t, B = s :: t → p s = false) → (M ++ B).takeWhile p = M ∧ (M ++ B).dropWhile p = B
  | [], B, _, hB => by
    cases B with
    | nil => exact ⟨rfl, rfl⟩
    | cons s t =>
      have := hB s t rfl
      simp [this]
  | y :: M, B, hM, hB => by
    obtain ⟨h1, h2⟩ := while_all B (M := M) (fun z hz => hM z (by simp [hz])) hB
    have hy := hM y (by simp)
    simp only [List.cons_append, List.takeWhile_cons, List.dropWhile_cons, hy, if_true, h1, h2]
    exact ⟨trivial, trivial⟩
/-- What is joined so far, with one more. -/
def next (o : List Int) (x : Int) : List Int := (step o.reverse x).reverse
theorem join_take (l : List Int) (k : Nat) (h : k < l.length) : join (l.take (k + 1)) = next (join (l.take k)) l[k]! := by
  unfold join joinR next
  rw [List.take_succ_eq_append_getElem h, List.foldl_append, getElem!_pos l k h, List.reverse_reverse]
  rfl
theorem next_none {M : List Int} (x : Int) (hM : ∀ y ∈ M, 0 < clsOf y) : next M x = M ++ [x] := by
  obtain ⟨h1, h2⟩ := while_all (p := fun y => decide (0 < clsOf y)) (M := M.reverse) [] (fun y hy => by simpa using hM y (by simpa using hy)) (fun s t h => by cases h)
  rw [List.append_nil] at h1 h2
  unfold next step
  rw [h2]
  simp
theorem next_at {Q M : List Int} (s x : Int) (hM : ∀ y ∈ M, 0 < clsOf y) (hs : ¬ 0 < clsOf s) :
    next (Q ++ s :: M) x = if M.all (fun y => decide (clsOf y < clsOf x)) = true then (match make2 s x with | some z => Q ++ z :: M | none => Q ++ s :: M ++ [x]) else Q ++ s :: M ++ [x] := by
  have e : (Q ++ s :: M).reverse = M.reverse ++ s :: Q.reverse := by simp
  obtain ⟨h1, h2⟩ := while_all (p := fun y => decide (0 < clsOf y)) (M := M.reverse) (s :: Q.reverse) (fun y hy => by simpa using hM y (by simpa using hy)) (fun s' t h => by cases h; simpa using hs)
  unfold next step
  rw [e, h1, h2, List.all_reverse]
  simp only
  split
  · cases make2 s x with
    | some z => simp
    | none => simp
  · simp
theorem at_end (Q : List Int) (s : Int) (M : List Int) : (Q ++ s :: M)[Q.length]! = s := by simp
theorem set_end (Q : List Int) (s z : Int) (M : List Int) : (Q ++ s :: M).set Q.length z = Q ++ z :: M := by
  rw [List.set_append_right _ _ (Nat.le_refl _), Nat.sub_self]
  rfl
theorem next_len (o : List Int) (x : Int) : (next o x).length ≤ o.length + 1 := by
  unfold next step
  split
  · simp
  · rename_i s A hA
    split
    · split
      · have := congrArg List.length (List.takeWhile_append_dropWhile (p := fun y => decide (0 < clsOf y)) (l := o.reverse))
        rw [hA] at this
        simp only [List.length_append, List.length_cons, List.length_reverse] at this ⊢
        omega
      · simp
    · simp
theorem join_len : ∀ (l : List Int) (k : Nat), k ≤ l.length → (join (l.take k)).length ≤ k
  | _, 0, _ => by simp [join, joinR]
  | l, k + 1, h => by
    rw [join_take l k (by omega)]
    have := join_len l k (by omega)
    have := next_len (join (l.take k)) l[k]!
    omega
end Norm
set_option maxHeartbeats 4000000 in
set_option maxRecDepth 100000 in
theorem join3_any (v : Value) (l : List Int) (w : World) (hl : Runes v l w) (hn : l.length ≤ 10000) : Calls Try.prog 18 #[v] w (PiecesPost (Norm.join l) w) := by
  obtain ⟨A, c, rfl, -, hcell⟩ := hl.form
  have HC := Lib.hid hcell
  clear hl hcell
  go_enter Try.func18, Try.ntmps18
  go_wp2
  go_loopg [3, 4] (l.length + 1) (fun gk v i wr => ∃ k : Nat, k ≤ l.length ∧ i = .int .i64 k ∧ l.length - k < gk ∧ Hid (OwnR w.heap.size v (Norm.join (l.take k)) wr ∧ Below w.heap.size w wr))
  case atStart => exact ⟨0, Nat.zero_le _, rfl, by omega, ⟨OwnR.nil _ _, Below.refl _ _⟩⟩
  case round =>
    obtain ⟨k, hk, rfl, hg, I⟩ := hrel
    by_cases hlt : k < l.length
    · obtain ⟨ad, rfl, hb, hx⟩ := HC.out k hlt
      have hx' := (I.out.2.cell (by rw [add_block]; exact hb)).trans hx
      obtain ⟨x, hxe⟩ : ∃ x, x = l[k]! := ⟨_, rfl⟩
      rw [← hxe] at hx'
      have hol := Norm.join_len l k hk
      have hjt := Norm.join_take l k hlt
      rw [← hxe] at hjt
      generalize Norm.join (l.take k) = o at I hol hjt
      obtain ⟨A2, c2, rfl, hA2⟩ := I.out.1.shape
      have HA2 := Lib.hid hA2
      have HJ := Lib.hid hjt
      have hK := refClass_any x wr
      obtain ⟨cx, hcx⟩ : ∃ cx, cx = clsOf x := ⟨_, rfl⟩
      rw [← hcx] at hK
      have HCX := Lib.hid hcx
      have HXA := Lib.hid hb
      have HXC := Lib.hid (show w.cell? (ad.add k) = some (.int .i32 x) by rw [hxe]; exact hx)
      clear hx hxe hA2 hjt hcx hb
      go_wp2_with fail
      refine hK.mono ?_
      rintro e w3 ⟨rfl, hb3⟩
      have O3 := Lib.hid (I.out.1.keep hb3)
      have B3 := Lib.hid (I.out.2.trans (hb3.mono I.out.2.size))
      clear hb3 hK I hx'
      go_wp2
      go_loopg [6, 7] (o.length + 1) (fun gk s6 s7 wr => ∃ (Q M : List Int) (fr : Bool), s6 = .int .i64 ((Q.length : Int) - 1) ∧ s7 = .bool fr ∧ Q.length < gk ∧ Q.length ≤ o.length ∧ Hid (o = Q ++ M ∧ fr = M.all (fun y => decide (clsOf y < cx)) ∧ (∀ y ∈ M, 0 < clsOf y) ∧ OwnR w.heap.size (.slice A2 o.length c2) o wr ∧ Below w.heap.size w wr))
      case atStart => exact ⟨o, [], true, rfl, rfl, by omega, Nat.le_refl _, ⟨by simp, rfl, fun y hy => (by cases hy), O3.out, B3.out⟩⟩
      case round =>
        obtain ⟨Q, M, fr, rfl, rfl, hgq, hqo, J⟩ := hrel
        rcases List.eq_nil_or_concat Q with rfl | ⟨Q', s, rfl⟩
        · have NX := Lib.hid (show Norm.next o x = o ++ [x] by rw [J.out.1]; exact Norm.next_none x J.out.2.2.1)
          have O9 := Lib.hid J.out.2.2.2.1
          have B9 := Lib.hid J.out.2.2.2.2
          clear J
          have hx9 := (B9.out.cell (by rw [add_block]; exact HXA.out)).trans HXC.out
          have hol9 : o.length ≤ 1000000 := by omega
          go_wp2_with (at_builtin; refine append_cells wr 22 21 (.int .i32 0) 4 Try.underlying22 info_i32 rfl (by omega) w.heap.size _ _ _ O9.out B9.out.size hol9 1 (by omega) _ rfl rfl rfl _ _ rfl rfl rfl ?_; intro v8 w8 ho8 hb8; have O8 := Lib.hid ho8; have B8 := Lib.hid hb8; clear ho8 hb8)
          have I2 : Hid (OwnR w.heap.size v8 (Norm.join (l.take (k + 1))) w8 ∧ Below w.heap.size w w8) := by
            refine ⟨?_, B9.out.trans B8.out⟩
            rw [HJ.out, NX.out]
            exact OwnR.more O8.out rfl rfl
          go_roundg (l.length - k)
          case measure => omega
          case rel => exact ⟨k + 1, by omega, by go_num, by omega, I2⟩
        · rw [List.concat_eq_append] at J hgq hqo ⊢
          have hol1 : 0 < o.length := by have := congrArg List.length J.out.1; simp at this; omega
          obtain ⟨g, rfl, hgb, -⟩ := HA2.out hol1
          have HG := Lib.hid hgb
          clear hgb
          have hql : Q'.length < o.length := by have := congrArg List.length J.out.1; simp at this; omega
          have hoe : o = Q' ++ s :: M := by rw [J.out.1]; simp
          have hle : ((Q' ++ [s]).length : Int) - 1 = (Q'.length : Int) := by simp
          rw [hle]
          have cs := J.out.2.2.2.1.cell Q'.length hql
          rw [show o[Q'.length]! = s by rw [hoe, Norm.at_end]] at cs
          have HOE := Lib.hid hoe
          have hqz : (Q'.length : Int) < (o.length : Int) := by omega
          obtain ⟨cl, hcl⟩ : ∃ cl, cl = clsOf s := ⟨_, rfl⟩
          have kS := fun W => refClass_any s W
          rw [← hcl] at kS
          have KS := Lib.hid kS
          have HCL := Lib.hid hcl
          clear hoe hle kS hcl
          by_cases hpos : 0 < cl
          · cases fr with
            | true =>
              go_wp2_with fail
              refine (KS.out _).mono ?_
              rintro e w5 ⟨rfl, hb5⟩
              have O5 := Lib.hid (J.out.2.2.2.1.keep hb5)
              have B5 := Lib.hid (J.out.2.2.2.2.trans (hb5.mono J.out.2.2.2.2.size))
              have cs5 := O5.out.cell Q'.length hql
              rw [show o[Q'.length]! = s by rw [HOE.out, Norm.at_end]] at cs5
              clear hb5 cs
              go_wp2_with fail
              refine (KS.out _).mono ?_
              rintro e w6 ⟨rfl, hb6⟩
              have O6 := Lib.hid (O5.out.keep hb6)
              have B6 := Lib.hid (B5.out.trans (hb6.mono B5.out.size))
              clear hb6 cs5
              have J2 : Hid (o = Q' ++ (s :: M) ∧ decide (cl < cx) = (s :: M).all (fun y => decide (clsOf y < cx)) ∧ (∀ y ∈ s :: M, 0 < clsOf y) ∧ OwnR w.heap.size (.slice (some ⟨g, 0, none⟩) o.length c2) o w6 ∧ Below w.heap.size w w6) := by
                refine ⟨HOE.out, ?_, fun y hy => ?_, O6.out, B6.out⟩
                · rw [List.all_cons, ← J.out.2.1, Bool.and_true, HCL.out]
                · rcases List.mem_cons.1 hy with rfl | hy
                  · rw [← HCL.out]; exact hpos
                  · exact J.out.2.2.1 y hy
              clear J
              go_wp2
              all_goals
                go_roundg (Q'.length + 1)
                case measure => simp at hgq; omega
                case rel => exact ⟨Q', s :: M, decide (cl < cx), by simp, by simp [*], by omega, by omega, J2⟩
            | false =>
              go_wp2_with fail
              refine (KS.out _).mono ?_
              rintro e w5 ⟨rfl, hb5⟩
              have J2 : Hid (o = Q' ++ (s :: M) ∧ false = (s :: M).all (fun y => decide (clsOf y < cx)) ∧ (∀ y ∈ s :: M, 0 < clsOf y) ∧ OwnR w.heap.size (.slice (some ⟨g, 0, none⟩) o.length c2) o w5 ∧ Below w.heap.size w w5) := by
                refine ⟨HOE.out, ?_, fun y hy => ?_, J.out.2.2.2.1.keep hb5, J.out.2.2.2.2.trans (hb5.mono J.out.2.2.2.2.size)⟩
                · rw [List.all_cons, ← J.out.2.1, Bool.and_false]
                · rcases List.mem_cons.1 hy with rfl | hy
                  · rw [← HCL.out]; exact hpos
                  · exact J.out.2.2.1 y hy
              clear J hb5 cs
              go_wp2
              go_roundg (Q'.length + 1)
              case measure => simp at hgq; omega
              case rel => exact ⟨Q', s :: M, false, by simp, rfl, by omega, by omega, J2⟩
          · have hneg : cl ≤ 0 := by omega
            have NA := Lib.hid (Norm.next_at (Q := Q') s x J.out.2.2.1 (by rw [← HCL.out]; exact hpos))
            clear hpos
            cases fr with
            | false =>
              go_wp2_with fail
              refine (KS.out _).mono ?_
              rintro e w5 ⟨rfl, hb5⟩
              have O9 := Lib.hid (J.out.2.2.2.1.keep hb5)
              have B9 := Lib.hid (J.out.2.2.2.2.trans (hb5.mono J.out.2.2.2.2.size))
              have NX := Lib.hid (show Norm.next o x = o ++ [x] by rw [HOE.out, NA.out, if_neg (by rw [← HCX.out, ← J.out.2.1]; decide)])
              clear hb5 cs J
              have hx9 := (B9.out.cell (by rw [add_block]; exact HXA.out)).trans HXC.out
              have hol9 : o.length ≤ 1000000 := by omega
              go_wp2_with (at_builtin; refine append_cells w5 22 21 (.int .i32 0) 4 Try.underlying22 info_i32 rfl (by omega) w.heap.size _ _ _ O9.out B9.out.size hol9 1 (by omega) _ rfl rfl rfl _ _ rfl rfl rfl ?_; intro v8 w8 ho8 hb8; have O8 := Lib.hid ho8; have B8 := Lib.hid hb8; clear ho8 hb8)
              have I2 : Hid (OwnR w.heap.size v8 (Norm.join (l.take (k + 1))) w8 ∧ Below w.heap.size w w8) := by
                refine ⟨?_, B9.out.trans B8.out⟩
                rw [HJ.out, NX.out]
                exact OwnR.more O8.out rfl rfl
              go_roundg (l.length - k)
              case measure => omega
              case rel => exact ⟨k + 1, by omega, by go_num, by omega, I2⟩
            | true =>
              have NF := Lib.hid (show M.all (fun y => decide (clsOf y < clsOf x)) = true by rw [← HCX.out]; exact J.out.2.1.symm)
              go_wp2_with fail
              refine (KS.out _).mono ?_
              rintro e w5 ⟨rfl, hb5⟩
              have O5 := Lib.hid (J.out.2.2.2.1.keep hb5)
              have B5 := Lib.hid (J.out.2.2.2.2.trans (hb5.mono J.out.2.2.2.2.size))
              have cs5 := O5.out.cell Q'.length hql
              rw [show o[Q'.length]! = s by rw [HOE.out, Norm.at_end]] at cs5
              have hx5 := (B5.out.cell (by rw [add_block]; exact HXA.out)).trans HXC.out
              have hkz : (k : Int) < (l.length : Int) := by omega
              have MK := Lib.hid (fun W => make2_any s x W)
              clear hb5 cs J
              go_wp2_with fail
              cases hmk : Norm.make2 s x with
              | none =>
                have NX := Lib.hid (show Norm.next o x = o ++ [x] by rw [HOE.out, NA.out, if_pos NF.out, hmk])
                have hM := MK.out
                simp only [hmk] at hM
                have HM := Lib.hid hM
                clear hM hmk MK
                go_region_with ((go_at_call 40; refine (HM.out _).mono ?_; rintro e w6 ⟨rfl, hb6⟩; have HB6 := Lib.hid (below_of_drew hb6); have O9 := Lib.hid (O5.out.keep HB6.out); have B9 := Lib.hid (B5.out.trans (HB6.out.mono B5.out.size)); have hx9 := (B9.out.cell (by rw [add_block]; exact HXA.out)).trans HXC.out; have cs9 := O9.out.cell Q'.length hql; have fr9 := O9.out.free Q'.length; clear hb6 cs5 hx5))
                all_goals
                  have hol9 : o.length ≤ 1000000 := by omega
                  go_wp2_with (at_builtin; refine append_cells w6 22 21 (.int .i32 0) 4 Try.underlying22 info_i32 rfl (by omega) w.heap.size _ _ _ O9.out B9.out.size hol9 1 (by omega) _ rfl rfl rfl _ _ rfl rfl rfl ?_; intro v8 w8 ho8 hb8; have O8 := Lib.hid ho8; have B8 := Lib.hid hb8; clear ho8 hb8)
                  have I2 : Hid (OwnR w.heap.size v8 (Norm.join (l.take (k + 1))) w8 ∧ Below w.heap.size w w8) := by
                    refine ⟨?_, B9.out.trans B8.out⟩
                    rw [HJ.out, NX.out]
                    exact OwnR.more O8.out rfl rfl
                  go_roundg (l.length - k)
                  case measure => omega
                  case rel => exact ⟨k + 1, by omega, by go_num, by omega, I2⟩
              | some z =>
                have NX := Lib.hid (show Norm.next o x = Q' ++ z :: M by rw [HOE.out, NA.out, if_pos NF.out, hmk])
                have hM := MK.out
                simp only [hmk] at hM
                have HM := Lib.hid hM
                clear hM hmk MK
                go_region_with ((go_at_call 40; refine (HM.out _).mono ?_; rintro e w6 ⟨rfl, hb6⟩; have HB6 := Lib.hid (below_of_drew hb6); have O9 := Lib.hid (O5.out.keep HB6.out); have B9 := Lib.hid (B5.out.trans (HB6.out.mono B5.out.size)); have hx9 := (B9.out.cell (by rw [add_block]; exact HXA.out)).trans HXC.out; have cs9 := O9.out.cell Q'.length hql; have fr9 := O9.out.free Q'.length; clear hb6 cs5 hx5))
                all_goals
                  have I2 : Hid (OwnR w.heap.size (.slice (some ⟨g, 0, none⟩) o.length c2) (Norm.join (l.take (k + 1))) (w6.setCell ⟨g, Q'.length, none⟩ (.int .i32 z)) ∧ Below w.heap.size w (w6.setCell ⟨g, Q'.length, none⟩ (.int .i32 z))) := by
                    refine ⟨?_, B9.out.setCell (p := ⟨g, Q'.length, none⟩) HG.out _⟩
                    rw [HJ.out, NX.out]
                    have h := O9.out.put Q'.length z
                    rw [show o.set Q'.length z = Q' ++ z :: M by rw [HOE.out, Norm.set_end]] at h
                    exact h
                  go_wp2
                  go_roundg (l.length - k)
                  case measure => omega
                  case rel => exact ⟨k + 1, by omega, by go_num, by omega, I2⟩
    · obtain rfl : k = l.length := by omega
      go_wp2
      go_ret
      have h := I.out.1
      rw [List.take_length] at h
      exact ⟨_, rfl, h, I.out.2⟩
end Go.Proofs.Ytpmcmbkilcpleaa
