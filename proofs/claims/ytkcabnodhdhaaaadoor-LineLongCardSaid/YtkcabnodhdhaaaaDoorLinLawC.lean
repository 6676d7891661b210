/-
  Proved here: LineLong's walk: a line that is as long as may be is told, and a longer one told to be too long. Conditions: none; the library's tables are laid.
-/
import Derived.Test.YtkcabnodhdhaaaaDoorLinSmall
import Derived.Test.YtkcabnodhdhaaaaDoorLinRefB
import Derived.Laws.MakeOwn
namespace Go.Proofs.YtkcabnodhdhaaaaDoor
open Go.RowKit
namespace Lin
theorem bare_zeros (n : Nat) : bare (List.replicate n 0) = false := by
  unfold bare
  rw [List.any_eq_false]
  intro c hc
  rw [List.eq_of_mem_replicate hc]
  decide
theorem two_lines (m : Int) (a b : List UInt8) (ha : bare a = false) (hb : bare b = false) : told m [] (a ++ 13 :: 10 :: (b ++ [13, 10])) = [frame m a, frame m b] ∧ rest ([] ++ (a ++ 13 :: 10 :: (b ++ [13, 10]))) = [] := by
  have h2 := cut_line b [] hb
  have h1 := cut_line a (b ++ [13, 10]) ha
  rw [show b ++ [13, 10] = b ++ 13 :: 10 :: [] from rfl] at h1 ⊢
  rw [h2] at h1
  unfold told wholes rest
  rw [List.nil_append, h1]
  exact ⟨rfl, rfl⟩
end Lin
theorem make_zeros (n : Nat) (hn : n ≤ 1000000) (W : World) : (Instr.makeSlice 43 (.int .i64 (n : Int)) (.int .i64 (n : Int))).run Tryd.prog W = .ok (.slice (some ⟨W.heap.size, 0, none⟩) n n) (W.alloc (.cells ((List.replicate n (0 : UInt8)).map byteV).toArray 5)) := by
  obtain ⟨i0, hi, hz0, hz1, hz2⟩ := info_parts info_u8
  have h := run_makeSlice (P := Tryd.prog) (w := W) 43 5 i0 (.int .u8 0) Tryd.underlying43 hi hz0 .i64 .i64 (n : Int) (n : Int) (by omega) (Int.le_refl _) (by rw [hz1]; omega) (by rw [hz2]; omega) (by omega)
  rw [h, Int.toNat_natCast, hz1, Nat.mul_one]
  have e : madeCells (Value.int .u8 0).cells n = ((List.replicate n (0 : UInt8)).map byteV).toArray := by
    unfold madeCells
    rw [show (Value.int IntKind.u8 0).cells = #[Value.int .u8 0] from rfl]
    apply Array.ext
    · simp
    · intro i h1 h2
      simp [Nat.mod_one, byteV]
  rw [e]
theorem zeros_string (n : Nat) (W : World) : (convert 43 9 (.slice (some ⟨W.heap.size, 0, none⟩) n n)).run Tryd.prog (W.alloc (.cells ((List.replicate n (0 : UInt8)).map byteV).toArray 5)) = .ok (.string ⟨(List.replicate n (0 : UInt8)).toArray⟩) (W.alloc (.cells ((List.replicate n (0 : UInt8)).map byteV).toArray 5)) := by
  refine string_of ⟨some ⟨W.heap.size, 0, none⟩, n, by rw [List.length_map, List.length_replicate], by rw [List.length_map, List.length_replicate]; exact Nat.le_refl _, fun h => (by cases h), fun _ => ⟨_, rfl, by simp, fun j u hu => ?_⟩⟩
  have e : (⟨W.heap.size, 0, none⟩ : Addr).add j = ⟨W.heap.size, j, none⟩ := by unfold Addr.add; split <;> simp_all
  rw [e, World.cell?_alloc_at _ _ _ _ (by simp), ← hu]
  simp [Array.getElem?_replicate, List.getElem?_replicate]
set_option maxHeartbeats 4000000 in
set_option maxRecDepth 100000 in
theorem long16_walk (most n : Int) (s : ByteArray) (w : World) (hT : LTabs w) : Calls Tryd.prog 7 #[.int .i64 most, .int .i64 n, .string s] w fun e w' => e = .returned (.bool true) ∧ Below w.heap.size w w' := by
  have K1 := Lib.hid (small16_any w hT)
  have HT := Lib.hid hT
  clear hT
  by_cases hc : 0 ≤ most ∧ most ≤ 1500 ∧ 0 ≤ n ∧ n ≤ 1600 ∧ (s.size : Int) ≤ most
  · obtain ⟨c1, c2, c3, c4, c5⟩ := hc
    obtain ⟨M, rfl⟩ : ∃ M : Nat, most = M := ⟨most.toNat, by omega⟩
    obtain ⟨N, rfl⟩ : ∃ N : Nat, n = N := ⟨n.toNat, by omega⟩
    have d1 : ¬ (M : Int) < 0 := by omega
    have d2 : ¬ (1500 : Int) < (M : Int) := by omega
    have d3 : ¬ (N : Int) < 0 := by omega
    have d4 : ¬ (1600 : Int) < (N : Int) := by omega
    have d5 : ¬ (M : Int) < (s.size : Int) := by omega
    have hM : M ≤ 1500 := by omega
    have hN : N ≤ 1600 := by omega
    have hsM : s.size ≤ M := by omega
    go_enter Tryd.func7, Tryd.ntmps7
    go_wp2_with fail
    refine K1.out.mono ?_
    rintro e w1 ⟨rfl, hb1⟩
    have B1 := Lib.hid hb1
    clear hb1
    go_wp2_with fail
    go_loopg [8] (s.size + 1) (fun gk s8 wr => ∃ k : Nat, k ≤ s.size ∧ s8 = .int .i64 k ∧ s.size - k < gk ∧ wr = w1 ∧ Hid (Lin.bare (s.data.toList.take k) = false))
    case atStart => exact ⟨0, Nat.zero_le _, rfl, by omega, rfl, Lib.hid rfl⟩
    case round =>
      obtain ⟨k, hk, rfl, hg, rfl, I⟩ := hrel
      by_cases hlt : k < s.size
      · obtain ⟨x, hx⟩ : ∃ x, s[k]'hlt = x := ⟨_, rfl⟩
        have hb : Lin.bare (s.data.toList.take (k + 1)) = Lin.bar x := by
          rw [Lin.take_snoc _ _ (by rw [Lin.len_of]; exact hlt), Lin.byte_of s k hlt, hx]
          have := I.out
          unfold Lin.bare at this ⊢
          rw [List.any_append, this]
          show (false || (Lin.bar x || false)) = _
          rw [Bool.or_false, Bool.false_or]
        have HB := Lib.hid hb
        clear hb
        by_cases h13 : x.toNat = 13
        · have e13 : ((x.toNat : Int) == 13) = true := beq_iff_eq.2 (by omega)
          go_wp2_with fail
          go_ret
          exact ⟨rfl, B1.out⟩
        · have e13 : ((x.toNat : Int) == 13) = false := beq_eq_false_iff_ne.2 (by omega)
          by_cases h10 : x.toNat = 10
          · have e10 : ((x.toNat : Int) == 10) = true := beq_iff_eq.2 (by omega)
            go_wp2_with fail
            go_ret
            exact ⟨rfl, B1.out⟩
          · have e10 : ((x.toNat : Int) == 10) = false := beq_eq_false_iff_ne.2 (by omega)
            go_wp2_with fail
            go_roundg (s.size - k)
            case measure => omega
            case rel => exact ⟨k + 1, by omega, by simp, by omega, rfl, Lib.hid (by rw [HB.out]; unfold Lin.bar; rw [beq_eq_false_iff_ne.2 h13, beq_eq_false_iff_ne.2 h10]; rfl)⟩
      · obtain rfl : k = s.size := by omega
        have hbs : Lin.bare s.data.toList = false := by
          have := I.out
          rw [List.take_of_length_le (by rw [Lin.len_of]; exact Nat.le_refl _)] at this
          exact this
        have HBS := Lib.hid hbs
        clear hbs
        have KN := new_frm M wr
        rw [show max (M : Int) 0 = M by omega] at KN
        go_wp2_with fail
        refine KN.mono ?_
        rintro e w2 ⟨rfl, hF2, hb2⟩
        have F2 := Lib.hid hF2
        have B2 := Lib.hid (B1.out.trans (hb2.mono B1.out.size))
        have BW := Lib.hid hb2
        clear hF2 hb2 KN
        have MK := make_zeros N (by omega) w2
        have CV := zeros_string N w2
        obtain ⟨W3, hW3⟩ : ∃ W3, w2.alloc (.cells ((List.replicate N (0 : UInt8)).map byteV).toArray 5) = W3 := ⟨_, rfl⟩
        have B3 : Below w2.heap.size w2 W3 := by rw [← hW3]; exact below_one w2 _
        obtain ⟨Z, hZ⟩ : ∃ Z, (⟨(List.replicate N (0 : UInt8)).toArray⟩ : ByteArray) = Z := ⟨_, rfl⟩
        have hZs : Z.size = N := by rw [← hZ]; show (List.replicate N (0 : UInt8)).toArray.size = N; simp
        have hZl : Z.data.toList = List.replicate N 0 := by rw [← hZ]
        rw [hW3] at MK CV
        rw [hZ] at CV
        have HZ := Lib.hid hZ
        clear hW3 hZ
        obtain ⟨T, hT⟩ : ∃ T, Z ++ (⟨#[13, 10]⟩ : ByteArray) ++ s ++ (⟨#[13, 10]⟩ : ByteArray) = T := ⟨_, rfl⟩
        have hTl : T.data.toList = List.replicate N 0 ++ 13 :: 10 :: (s.data.toList ++ [13, 10]) := by
          rw [← hT]
          simp only [ByteArray.data_append, Array.toList_append, hZl]
          simp
        have hTs : T.size = N + 2 + s.size + 2 := by
          rw [← Lin.len_of, hTl]
          simp
          have := Lin.len_of s
          omega
        have TL := Lin.two_lines M (List.replicate N 0) s.data.toList (Lin.bare_zeros N) HBS.out
        rw [← hTl] at TL
        have hfs : Lin.frame M s.data.toList = ⟨s.data.toList, false, false⟩ := Lin.frame_fine HBS.out (by rw [Lin.len_of]; omega)
        have hsl := Lin.ba_list s
        have FE := Lib.hid (feed_to wr.heap.size wr.heap.size M _ [] T W3 (F2.out.keep B3) (Nat.le_refl _) (by have := B3.size; have := F2.out.lt; omega) (((LT.of (HT.out.keep B1.out))).keep (((show Below wr.heap.size wr w2 from BW.out)).trans (B3.mono (by have := F2.out.lt; omega)))) rfl (by simp; omega) _ _ TL.1 TL.2)
        have B4 := Lib.hid (B2.out.trans (B3.mono (by have := B2.out.size; omega)))
        have F4 := Lib.hid (F2.out.keep B3)
        have HT2 := Lib.hid hT
        have HZL := Lib.hid hZl
        have HFS := Lib.hid hfs
        have HSL := Lib.hid hsl
        clear TL hTl B3 hZl hfs hsl
        go_wp2_with fail
        refine FE.out.mono ?_
        rintro e w4 ⟨L, v4, rfl, hO, hF, hD⟩
        have B5 := Lib.hid (B4.out.trans (hD.below B4.out.size B1.out.size fun g hg => by cases hg))
        obtain ⟨A4, p4, e4, hp4, -, h4⟩ := hO.frs
        obtain ⟨g, o, rfl, hg4, h4⟩ := h4 (by simp)
        subst e4
        obtain ⟨x0, x1, x2⟩ := h4 0 (by simp)
        obtain ⟨y0, y1, y2⟩ := h4 1 (by simp)
        clear h4 hO hF hD FE F4
        simp only [Lin.nthF, List.getD_cons_zero, List.getD_cons_succ, Nat.zero_mul, Nat.add_zero, Nat.one_mul] at x0 x1 x2 y0 y1 y2
        rw [HFS.out] at y0 y1 y2
        dsimp only at y0 y1 y2
        by_cases hNM : N ≤ M
        · have hf : Lin.frame M (List.replicate N 0) = ⟨List.replicate N 0, false, false⟩ := Lin.frame_fine (Lin.bare_zeros N) (by rw [List.length_replicate]; omega)
          rw [hf] at x0 x1 x2
          simp only [HZ.out] at x0 x1 x2
          have q1 : ¬ (M : Int) < (N : Int) := by omega
          have q2 : (N : Int) ≤ (M : Int) := by omega
          clear hf
          go_wp2_with fail
          go_ret
          refine ⟨?_, B5.out⟩
          simp
          omega
        · have hf : Lin.frame M (List.replicate N 0) = ⟨[], true, false⟩ := Lin.frame_long (Lin.bare_zeros N) (by rw [List.length_replicate]; omega)
          rw [hf] at x0 x1 x2
          have q1 : (M : Int) < (N : Int) := by omega
          have q2 : ¬ (N : Int) ≤ (M : Int) := by omega
          have q3 : (([] : List UInt8) == Z.toList) = false := by
            rw [beq_eq_false_iff_ne, Lib.toList_data, HZL.out]
            intro h
            have := congrArg List.length h
            simp at this
            omega
          clear hf
          go_wp2_with fail
          go_ret
          refine ⟨?_, B5.out⟩
          simp
  · go_enter Tryd.func7, Tryd.ntmps7
    go_wp2_with fail
    refine K1.out.mono ?_
    rintro e w1 ⟨rfl, hb1⟩
    have B1 := Lib.hid hb1
    clear hb1
    go_wp2_with fail
    all_goals first
      | (go_ret; exact ⟨rfl, B1.out⟩)
      | (exfalso; omega)
end Go.Proofs.YtkcabnodhdhaaaaDoor
