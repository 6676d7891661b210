/-
  Proved here: the document's own Source of layer 12; the law LexSource, given what the program's functions tell. Conditions: strings of at most 100,000 bytes; the law: none.
-/
import Derived.Test.YtmcjgdajnppbhaaGreatDoorLexSmall
import Derived.Test.YtmcjgdajnppbhaaGreatDoorRepSource
import Derived.BigQuiet
import Derived.StillTailTactics
namespace Go.Proofs.YtmcjgdajnppbhaaGreatDoor
open Go.RowKit Utf
theorem ownB_one (W : World) (base N : Nat) (hN : N = W.heap.size) (hb : base ≤ W.heap.size) (c : UInt8) : OwnB base (.slice (some ⟨N, 0, none⟩) 1 1) [c] (W.alloc (.cells #[.int .u8 (c.toNat : Int)] 5)) := by
  subst hN
  exact ⟨rfl, .inr ⟨W.heap.size, 1, #[.int .u8 (c.toNat : Int)], rfl, hb, heap_alloc_new W _, Nat.le_refl _, by simp [maxLen], rfl, rfl⟩⟩
set_option maxHeartbeats 4000000 in
set_option maxRecDepth 100000 in
theorem source12_quo (p : Int) (s : ByteArray) (w : World) (hs : s.size ≤ 100000) : Calls Tryz.prog 10 #[.agg #[.int .i64 1, .string s, .int .i64 p]] w fun e w' => e = .returned (.string ⟨(Lex.srcT 1 s.data.toList).toArray⟩) ∧ Below w.heap.size w w' := by
  have hsl : s.data.toList.length = s.size := by simp
  obtain ⟨R, hR⟩ : ∃ R : ByteArray, R = ⟨(Lex.srcT 1 s.data.toList).toArray⟩ := ⟨_, rfl⟩
  rw [← hR]
  have HR := Lib.hid hR
  clear hR
  go_enter Tryz.func10, Tryz.ntmps10
  go_wp2
  obtain ⟨W2, hW2⟩ : ∃ W2, W2 = (w.alloc (.cells #[.int .i64 1, .string s, .int .i64 p] 23)).alloc (.cells #[.int .u8 34] 5) := ⟨_, rfl⟩
  have I0 := Lib.hid (show OwnB (w.heap.size + 1) (.slice (some ⟨w.heap.size + 1, 0, none⟩) 1 1) [34] W2 ∧ Below w.heap.size w W2 ∧ W2.cell? ⟨w.heap.size, 1, none⟩ = some (.string s) ∧ w.heap.size + 1 ≤ W2.heap.size from by
    rw [hW2]
    refine ⟨ownB_one _ _ _ (by simp) (by simp) 34, ((Below.refl _ w).alloc (Nat.le_refl _) _).alloc (by simp) _, ?_, by simp⟩
    exact ((below_one _ _).cell (p := ⟨w.heap.size, 1, none⟩) (by simp)).trans (by go_simp))
  rw [← hW2]
  clear hW2
  go_loopg [3, 4] (s.size + 1) (fun gk s3 s4 wr => ∃ (i : Nat) (x : List UInt8), s4 = .int .i64 i ∧ i ≤ s.size ∧ s.size - i < gk ∧ Hid (x = 34 :: Lex.esc (s.data.toList.take i) ∧ OwnB (w.heap.size + 1) s3 x wr ∧ x.length ≤ 2 * i + 1 ∧ Below (w.heap.size + 1) W2 wr))
  case atStart => exact ⟨0, [34], rfl, Nat.zero_le _, by omega, Lib.hid ⟨rfl, I0.out.1, Nat.le_refl _, Below.refl _ _⟩⟩
  case round =>
    obtain ⟨i, x, rfl, hi, hg, I⟩ := hrel
    have hbx : wr.cell? ⟨w.heap.size, 1, none⟩ = some (.string s) := (I.out.2.2.2.cell (p := ⟨w.heap.size, 1, none⟩) (Nat.lt_succ_self _)).trans I0.out.2.2.1
    have hws := I.out.2.2.2.size
    have hw0 := I0.out.2.2.2
    have hxl : x.length ≤ 1000000 := by have := I.out.2.2.1; omega
    by_cases hlt : i < s.size
    · have hiz : (i : Int) < (s.size : Int) := by omega
      have hmore := Lex.esc_more hlt
      have hm := Lib.hid hmore
      clear hmore
      by_cases hc : s[i].toNat = 34 ∨ s[i].toNat = 92
      · have HM := Lib.hid (hm.out.trans (by rw [if_pos hc]))
        have hcs : (((s[i].toNat : Int) == 34) = true) ∨ ((((s[i].toNat : Int) == 34) = false) ∧ (((s[i].toNat : Int) == 92) = true)) := by
          rcases hc with h | h
          · exact .inl (by simpa using (by omega : (s[i].toNat : Int) = 34))
          · exact .inr ⟨by simpa using (by omega : ¬ (s[i].toNat : Int) = 34), by simpa using (by omega : (s[i].toNat : Int) = 92)⟩
        clear hc hm
        rcases hcs with q1 | ⟨q1, q2⟩
        all_goals
          go_wp2_with (first | (at_builtin; refine append_cells _ 36 5 (.int .u8 0) 1 Tryz.underlying36 info_u8 rfl (by omega) (w.heap.size + 1) u3 _ _ I.out.2.1 (by omega) hxl 1 (by omega) _ rfl rfl rfl _ _ rfl rfl rfl ?_; intro v2 w2 ho2 hb2; have HO := Lib.hid (OwnB.more (ns := [92]) ho2 rfl rfl); have HB2 := Lib.hid hb2; have hbx2 : w2.cell? ⟨w.heap.size, 1, none⟩ = some (.string s) := (hb2.cell (p := ⟨w.heap.size, 1, none⟩) (Nat.lt_succ_self _)).trans hbx; have hws2 := hb2.size; clear ho2 hb2 hbx) | (at_builtin; refine append_cells _ 36 5 (.int .u8 0) 1 Tryz.underlying36 info_u8 rfl (by omega) (w.heap.size + 1) v2 _ _ HO.out (by omega) (by rw [List.length_append]; have := I.out.2.2.1; simp; omega) 1 (by omega) _ rfl rfl rfl _ _ rfl rfl rfl ?_; intro v3 w3 ho3 hb3; have HO3 := Lib.hid (OwnB.more (ns := [s[i]]) ho3 rfl rfl); have HB3 := Lib.hid hb3; clear ho3 hb3 hbx2))
          have I2 : Hid (x ++ [92] ++ [s[i]] = 34 :: Lex.esc (s.data.toList.take (i + 1)) ∧ OwnB (w.heap.size + 1) v3 (x ++ [92] ++ [s[i]]) w3 ∧ (x ++ [92] ++ [s[i]]).length ≤ 2 * (i + 1) + 1 ∧ Below (w.heap.size + 1) W2 w3) :=
            Lib.hid ⟨by rw [HM.out, I.out.1]; simp, HO3.out, by have := I.out.2.2.1; simp; omega, (I.out.2.2.2.trans HB2.out).trans HB3.out⟩
          go_roundg (s.size - i)
          case measure => omega
          case rel => exact ⟨i + 1, _, by go_num, by omega, by omega, I2⟩
      · have HM := Lib.hid (hm.out.trans (by rw [if_neg hc]))
        have q1 : ((s[i].toNat : Int) == 34) = false := by simpa using (by omega : ¬ (s[i].toNat : Int) = 34)
        have q2 : ((s[i].toNat : Int) == 92) = false := by simpa using (by omega : ¬ (s[i].toNat : Int) = 92)
        clear hc hm
        go_wp2_with (at_builtin; refine append_cells _ 36 5 (.int .u8 0) 1 Tryz.underlying36 info_u8 rfl (by omega) (w.heap.size + 1) u3 _ _ I.out.2.1 (by omega) hxl 1 (by omega) _ rfl rfl rfl _ _ rfl rfl rfl ?_; intro v3 w3 ho3 hb3; have HO3 := Lib.hid (OwnB.more (ns := [s[i]]) ho3 rfl rfl); have HB3 := Lib.hid hb3; clear ho3 hb3 hbx)
        have I2 : Hid (x ++ [s[i]] = 34 :: Lex.esc (s.data.toList.take (i + 1)) ∧ OwnB (w.heap.size + 1) v3 (x ++ [s[i]]) w3 ∧ (x ++ [s[i]]).length ≤ 2 * (i + 1) + 1 ∧ Below (w.heap.size + 1) W2 w3) :=
          Lib.hid ⟨by rw [HM.out, I.out.1]; simp, HO3.out, by have := I.out.2.2.1; simp; omega, I.out.2.2.2.trans HB3.out⟩
        go_roundg (s.size - i)
        case measure => omega
        case rel => exact ⟨i + 1, _, by go_num, by omega, by omega, I2⟩
    · obtain rfl : i = s.size := by omega
      have hiz : ¬ (s.size : Int) < (s.size : Int) := by omega
      have E := Lib.hid (show R = ⟨(x ++ [34]).toArray⟩ by
        rw [HR.out, I.out.1, List.take_of_length_le (by rw [hsl]; exact Nat.le_refl _)]
        rfl)
      go_wp2_with (at_builtin; refine append_cells _ 36 5 (.int .u8 0) 1 Tryz.underlying36 info_u8 rfl (by omega) (w.heap.size + 1) u3 _ _ I.out.2.1 (by omega) hxl 1 (by omega) _ rfl rfl rfl _ _ rfl rfl rfl ?_; intro v3 w3 ho3 hb3; have HO3 := Lib.hid (OwnB.more (ns := [34]) ho3 rfl rfl); have HB3 := Lib.hid hb3; have hcv := string_of HO3.out.bytes; clear ho3 hb3 hbx)
      go_ret
      exact ⟨congrArg (fun x => Ending.returned (.string x)) E.out.symm, I0.out.2.1.trans ((I.out.2.2.2.trans HB3.out).mono (Nat.le_succ _))⟩
set_option maxHeartbeats 4000000 in
set_option maxRecDepth 100000 in
theorem source12_ref (k p : Int) (s : ByteArray) (w : World) (hs : s.size ≤ 100000) : Calls Tryz.prog 10 #[.agg #[.int .i64 k, .string s, .int .i64 p]] w fun e w' => e = .returned (.string ⟨(Lex.srcT k s.data.toList).toArray⟩) ∧ Below w.heap.size w w' := by
  by_cases h1 : k = 1
  · subst h1
    exact source12_quo p s w hs
  obtain ⟨R, hR⟩ : ∃ R : ByteArray, R = ⟨(Lex.srcT k s.data.toList).toArray⟩ := ⟨_, rfl⟩
  rw [← hR]
  by_cases h3 : k = 3
  · subst h3
    have E := Lib.hid (show R = ⟨#[40]⟩ ++ s ++ ⟨#[41]⟩ by
      rw [hR, Lex.srcT, if_pos rfl]
      have := Lex.ba_three 40 41 s.data.toList
      rw [Lex.ba_list] at this
      exact this.symm)
    clear hR
    go_enter Tryz.func10, Tryz.ntmps10
    go_wp2
    go_ret
    exact ⟨congrArg (fun x => Ending.returned (.string x)) E.out.symm, (Below.refl _ _).alloc (Nat.le_refl _) _⟩
  by_cases h5 : k = 5
  · subst h5
    have E := Lib.hid (show R = ⟨#[91]⟩ ++ s ++ ⟨#[93]⟩ by
      rw [hR, Lex.srcT, if_neg (by decide), if_pos rfl]
      have := Lex.ba_three 91 93 s.data.toList
      rw [Lex.ba_list] at this
      exact this.symm)
    clear hR
    go_enter Tryz.func10, Tryz.ntmps10
    go_wp2
    go_ret
    exact ⟨congrArg (fun x => Ending.returned (.string x)) E.out.symm, (Below.refl _ _).alloc (Nat.le_refl _) _⟩
  have E := Lib.hid (show R = s by rw [hR, Lex.srcT, if_neg h3, if_neg h5, if_neg h1, Lex.ba_list])
  have n1 : (k == 1) = false := by simpa using h1
  have n3 : (k == 3) = false := by simpa using h3
  have n5 : (k == 5) = false := by simpa using h5
  clear hR h1 h3 h5
  go_enter Tryz.func10, Tryz.ntmps10
  go_wp2
  go_ret
  exact ⟨congrArg (fun x => Ending.returned (.string x)) E.out.symm, (Below.refl _ _).alloc (Nat.le_refl _) _⟩
end Go.Proofs.YtmcjgdajnppbhaaGreatDoor
