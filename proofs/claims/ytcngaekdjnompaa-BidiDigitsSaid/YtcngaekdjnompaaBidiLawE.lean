/-
  Proved here: the law BidiDigits, given what the program's Has, Side, End and Rule tell. Conditions: the slice can be read; d is a byte.
-/
import Derived.Test.YtcngaekdjnompaaBidiLawB
import Derived.Deep.QuietTactic
import Derived.BigQuiet
namespace Go.Proofs.Ytcngaekdjnompaa
open Go.RowKit
set_option maxHeartbeats 8000000 in
set_option maxRecDepth 100000 in
theorem digits6_walk (B : BidiOk) (va : Value) (l : List Int) (d : Int) (w : World) (ha : Runes va l w) (hd : 0 ≤ d ∧ d ≤ 255) : Calls Try.prog 7 #[va, .int .u8 d] w fun e w' => e = .returned (.bool true) ∧ Below w.heap.size w w' := by
  have HL := Lib.hid ha
  obtain ⟨A, c, rfl, -, hcell⟩ := ha.form
  obtain ⟨dd0, dd1⟩ := hd
  have HC := Lib.hid hcell
  clear ha hcell
  by_cases h0 : l.length = 0
  · have hz : ((l.length : Int) == 0) = true := by rw [h0]; rfl
    clear h0
    go_enter Try.func7, Try.ntmps7
    go_wp2_with fail
    refine (small6_any B _).mono ?_
    rintro e w0 ⟨rfl, hb0⟩
    have B0 := Lib.hid hb0
    clear hb0
    go_wp2
    go_ret
    exact ⟨rfl, B0.out⟩
  have hz : ((l.length : Int) == 0) = false := by rw [beq_eq_false_iff_ne]; omega
  by_cases hn : l.length ≤ 200
  · have hnz : ¬ (200 : Int) < (l.length : Int) := by omega
    have hne : l ≠ [] := fun e => h0 (by rw [e]; rfl)
    cases hr : Bidi.rule l with
    | false =>
      have HRU := Lib.hid hr
      clear hr hne
      go_enter Try.func7, Try.ntmps7
      go_wp2_with fail
      refine (small6_any B _).mono ?_
      rintro e w0 ⟨rfl, hb0⟩
      have B0 := Lib.hid hb0
      clear hb0
      go_wp2_with fail
      refine (new_any _).mono ?_
      rintro e w1 ⟨tt, rfl, hT, hb1⟩
      have hT' := hT
      obtain ⟨b0, b1, b2, b3, rfl, -, -, -, -⟩ := hT'
      have K1 := Lib.hid (kept_new (b0 := b0) (b1 := b1) (b2 := b2) (b3 := b3) (below_then B0.out hb1) hT 29)
      obtain ⟨hS, c0, c1, c2, c3⟩ := K1.out.held
      clear hT hb1 B0
      go_wp2_with fail
      refine (B.rule_at (.agg #[.slice (some ⟨b0, 0, none⟩) 74 74, .slice (some ⟨b1, 0, none⟩) 10 10, .slice (some ⟨b2, 0, none⟩) 11 11, .slice (some ⟨b3, 0, none⟩) 42 42]) _ l _ K1.out.table (HL.out.keep K1.out.below) (by omega) HRU.out).mono ?_
      rintro e w2 ⟨rfl, hb2⟩
      have K2 := Lib.hid (K1.out.next hb2)
      clear hb2 K1 hS c0 c1 c2 c3
      go_wp2
      go_ret
      exact ⟨rfl, K2.out.below⟩
    | true =>
      have HRU := Lib.hid hr
      have hdg : 48 ≤ 48 + d % 10 ∧ 48 + d % 10 ≤ 57 := by omega
      obtain ⟨e1, e2, e3⟩ := Bidi.digits hne hr hdg
      have E1 := Lib.hid e1
      have E2 := Lib.hid e2
      have E3 := Lib.hid e3
      obtain ⟨dm, hdm⟩ : ∃ dm, d % 10 = dm := ⟨_, rfl⟩
      rw [hdm] at hdg E1 E2 E3
      clear hr hne e1 e2 e3
      go_enter Try.func7, Try.ntmps7
      go_wp2_with fail
      refine (small6_any B _).mono ?_
      rintro e w0 ⟨rfl, hb0⟩
      have B0 := Lib.hid hb0
      clear hb0
      go_wp2_with fail
      refine (new_any _).mono ?_
      rintro e w1 ⟨tt, rfl, hT, hb1⟩
      have hT' := hT
      obtain ⟨b0, b1, b2, b3, rfl, -, -, -, -⟩ := hT'
      have K1 := Lib.hid (kept_new (b0 := b0) (b1 := b1) (b2 := b2) (b3 := b3) (below_then B0.out hb1) hT 29)
      obtain ⟨hS, c0, c1, c2, c3⟩ := K1.out.held
      clear hT hb1 B0
      go_wp2_with fail
      refine (B.rule_at (.agg #[.slice (some ⟨b0, 0, none⟩) 74 74, .slice (some ⟨b1, 0, none⟩) 10 10, .slice (some ⟨b2, 0, none⟩) 11 11, .slice (some ⟨b3, 0, none⟩) 42 42]) _ l _ K1.out.table (HL.out.keep K1.out.below) (by omega) HRU.out).mono ?_
      rintro e w2 ⟨rfl, hb2⟩
      have K2 := Lib.hid (K1.out.next hb2)
      have Z2 : Hid (w1.heap.size + 1 ≤ w2.heap.size) := Lib.hid (by have := hb2.size; simp at this; omega)
      clear hb2 K1 hS c0 c1 c2 c3
      go_wp2
      go_loopg [7, 8] (l.length + 1) (fun gk s7 i wr => ∃ k : Nat, k ≤ l.length ∧ i = .int .i64 k ∧ l.length - k < gk ∧ s7 = .bool (Bidi.any 5 (l.take k)) ∧ Hid (Kept w w1.heap.size b0 b1 b2 b3 wr ∧ w1.heap.size + 1 ≤ wr.heap.size))
      case atStart => exact ⟨0, Nat.zero_le _, rfl, by omega, rfl, ⟨K2.out, Z2.out⟩⟩
      case round =>
        obtain ⟨k, hk2, rfl, hg, rfl, I0⟩ := hrel
        have I : Hid (Kept w w1.heap.size b0 b1 b2 b3 wr) := Lib.hid I0.out.1
        have IZ := Lib.hid I0.out.2
        clear I0
        obtain ⟨hS, c0, c1, c2, c3⟩ := I.out.held
        by_cases hlt : k < l.length
        · obtain ⟨ad, rfl, hb, hx⟩ := HC.out k hlt
          have hx' := (I.out.below.cell (by rw [add_block]; exact hb)).trans hx
          obtain ⟨x, hxe⟩ : ∃ x, l[k]! = x := ⟨_, rfl⟩
          have ht := Bidi.take_snoc l k hlt
          rw [hxe] at hx' ht
          have hkz2 : (k : Int) < (l.length : Int) := by omega
          have hbz : ad.block < wr.heap.size := Nat.lt_of_lt_of_le hb I.out.below.size
          have KB : Hid (Calls Try.prog 18 #[(.agg #[.slice (some ⟨b0, 0, none⟩) 74 74, .slice (some ⟨b1, 0, none⟩) 10 10, .slice (some ⟨b2, 0, none⟩) 11 11, .slice (some ⟨b3, 0, none⟩) 42 42]), .int .i32 x] wr.drew fun e w' => e = .returned (.int .i64 (bidiOf x)) ∧ Below wr.drew.heap.size wr.drew w') := Lib.hid (bidi_any _ x wr.drew I.out.drew.table)
          have hA := Bidi.any_more 5 (l.take k) x
          rw [← ht] at hA
          obtain ⟨y, hy⟩ : ∃ y, bidiOf x = y := ⟨_, rfl⟩
          rw [hy] at KB hA
          generalize Bidi.any 5 (l.take k) = ar at hA ⊢
          clear hx hb hxe ht hy
          cases ar with
          | true =>
            rw [Bool.true_or] at hA
            have HA := Lib.hid hA
            clear hA KB
            go_wp2
            go_quiet (fail)
            go_wp2
            go_roundg (l.length - k)
            case measure => omega
            case rel => exact ⟨k + 1, by omega, by go_num, by omega, by rw [HA.out], ⟨I.out.next (below_drewN (Below.refl _ _) _), IZ.out⟩⟩
          | false =>
            rw [Bool.false_or] at hA
            have HA := Lib.hid hA
            clear hA
            go_wp2
            go_region_held3 (fun w' => w'.cell? (ad.add k) = some (.int .i32 x) ∧ w'.cell? ⟨w1.heap.size, 0, none⟩ = some (.slice (some ⟨b0, 0, none⟩) 74 74) ∧ w'.cell? ⟨w1.heap.size, 1, none⟩ = some (.slice (some ⟨b1, 0, none⟩) 10 10) ∧ w'.cell? ⟨w1.heap.size, 2, none⟩ = some (.slice (some ⟨b2, 0, none⟩) 11 11) ∧ w'.cell? ⟨w1.heap.size, 3, none⟩ = some (.slice (some ⟨b3, 0, none⟩) 42 42)) (go_keep) ((go_at_call 18; (with_reducible refine KB.out.mono ?_); rintro e w5 ⟨rfl, hb5⟩; have hB5 := below_of_drew hb5; have hx5 := (hB5.cell (by rw [add_block]; exact hbz)).trans hx'; have I5 := Lib.hid (I.out.next hB5); have IZ5 := Lib.hid (Nat.le_trans IZ.out hB5.size); obtain ⟨hS5, d0, d1, d2, d3⟩ := I5.out.held; clear hb5 hB5))
            all_goals
              go_wp2
              go_roundg (l.length - k)
              case measure => omega
              case rel => exact ⟨k + 1, by omega, by go_num, by omega, by rw [HA.out], ⟨I5.out, IZ5.out⟩⟩
        · obtain rfl : k = l.length := by omega
          rw [List.take_length]
          have hown := own_empty wr wr.heap.size (Nat.le_refl _)
          have OW := Lib.hid hown
          clear hown
          generalize Bidi.any 5 l = ar at E1 ⊢
          go_wp2_with (first
            | (at_builtin; refine append_row (wr.alloc (.cells #[] 21)) 22 21 (.int .i32 0) 4 Try.underlying22 info_i32 rfl (by omega) wr.heap.size _ _ _ OW.out (by simp) (by omega) _ _ (HL.out.keep (I.out.next (below_one wr _)).below) (one_runes _) (by rw [List.length_map]; omega) rfl _ _ rfl rfl rfl ?_; intro v3 w3 ho3 hb3; have O3 : Hid (OwnR wr.heap.size v3 l w3) := Lib.hid (OwnR.more (l := []) ho3 rfl (by rw [List.length_map])); have BB3 := Lib.hid ((below_one wr _).trans hb3); clear ho3 hb3)
            | (at_builtin; refine append_cells w3 22 21 (.int .i32 0) 4 Try.underlying22 info_i32 rfl (by omega) wr.heap.size _ _ _ O3.out BB3.out.size (by omega) 1 (by omega) _ rfl rfl rfl _ _ rfl rfl rfl ?_; intro v4 w4 ho4 hb4; have HO := Lib.hid ho4; have BB4 := Lib.hid (BB3.out.trans hb4); clear ho4 hb4))
          have io : OwnR wr.heap.size v4 (l ++ [48 + dm]) w4 := OwnR.more HO.out rfl rfl
          have IK := Lib.hid (I.out.next BB4.out)
          clear hS c0 c1 c2 c3
          obtain ⟨hS, c0, c1, c2, c3⟩ := IK.out.held
          have hML : (l ++ [48 + dm]).length ≤ 1000 := by rw [List.length_append, List.length_singleton]; omega
          obtain ⟨M, hM⟩ : ∃ M, M = l ++ [48 + dm] := ⟨_, rfl⟩
          rw [← hM] at io hML E1 E2 E3
          obtain ⟨A6, c6, hv6, -⟩ := io.shape
          obtain ⟨nM, hnM⟩ : ∃ nM, nM = M.length := ⟨_, rfl⟩
          rw [← hnM] at hv6
          subst hv6
          have RM0 := Lib.hid io.runes
          have RL0 := Lib.hid (HL.out.keep IK.out.below)
          have HML := Lib.hid hML
          obtain ⟨sd, hsd⟩ : ∃ sd, Bidi.side l = sd := ⟨_, rfl⟩
          have X1 := Lib.hid E1.out
          have X2 := Lib.hid (E2.out.trans hsd)
          have X3 := Lib.hid hsd
          have X4 := Lib.hid E3.out
          clear io hM hnM hML hsd E1 E2 E3 HO O3 BB3 BB4 OW
          go_wp2
          go_region_held3 (fun w' => w'.cell? ⟨w1.heap.size, 0, none⟩ = some (.slice (some ⟨b0, 0, none⟩) 74 74) ∧ w'.cell? ⟨w1.heap.size, 1, none⟩ = some (.slice (some ⟨b1, 0, none⟩) 10 10) ∧ w'.cell? ⟨w1.heap.size, 2, none⟩ = some (.slice (some ⟨b2, 0, none⟩) 11 11) ∧ w'.cell? ⟨w1.heap.size, 3, none⟩ = some (.slice (some ⟨b3, 0, none⟩) 42 42)) (go_keep) (first
            | (go_at_call 16; (with_reducible refine (B.rule_at (.agg #[.slice (some ⟨b0, 0, none⟩) 74 74, .slice (some ⟨b1, 0, none⟩) 10 10, .slice (some ⟨b2, 0, none⟩) 11 11, .slice (some ⟨b3, 0, none⟩) 42 42]) _ M _ IK.out.drew.table (RM0.out.keep (Below.refl _ w4).drew) (by first | omega | exact HML.out) X1.out).mono ?_); rintro e w10 ⟨rfl, hb10⟩; have hB10 := below_of_drew hb10; have M1 := Lib.hid (IK.out.next hB10); have RM1 := Lib.hid (RM0.out.keep hB10); have RL1 := Lib.hid (RL0.out.keep hB10); obtain ⟨hS1, d10, d11, d12, d13⟩ := M1.out.held; clear hb10)
            | (go_at_call 12; (with_reducible refine (B.side_at (.agg #[.slice (some ⟨b0, 0, none⟩) 74 74, .slice (some ⟨b1, 0, none⟩) 10 10, .slice (some ⟨b2, 0, none⟩) 11 11, .slice (some ⟨b3, 0, none⟩) 42 42]) _ M _ M1.out.table RM1.out (by first | omega | exact HML.out) X2.out).mono ?_); rintro e w11 ⟨rfl, hb11⟩; have M2 := Lib.hid (M1.out.next hb11); have RM2 := Lib.hid (RM1.out.keep hb11); have RL2 := Lib.hid (RL1.out.keep hb11); obtain ⟨hS2, d20, d21, d22, d23⟩ := M2.out.held; clear hb11)
            | (go_at_call 12; (with_reducible refine (B.side_at (.agg #[.slice (some ⟨b0, 0, none⟩) 74 74, .slice (some ⟨b1, 0, none⟩) 10 10, .slice (some ⟨b2, 0, none⟩) 11 11, .slice (some ⟨b3, 0, none⟩) 42 42]) _ l _ M2.out.table RL2.out (by first | omega | exact HML.out) X3.out).mono ?_); rintro e w12 ⟨rfl, hb12⟩; have M3 := Lib.hid (M2.out.next hb12); have RM3 := Lib.hid (RM2.out.keep hb12); have RL3 := Lib.hid (RL2.out.keep hb12); obtain ⟨hS3, d30, d31, d32, d33⟩ := M3.out.held; clear hb12)
            | (go_at_call 14; (with_reducible refine (B.stop_at (.agg #[.slice (some ⟨b0, 0, none⟩) 74 74, .slice (some ⟨b1, 0, none⟩) 10 10, .slice (some ⟨b2, 0, none⟩) 11 11, .slice (some ⟨b3, 0, none⟩) 42 42]) _ M _ M3.out.table RM3.out (by first | omega | exact HML.out) X4.out).mono ?_); rintro e w13 ⟨rfl, hb13⟩; have M4 := Lib.hid (M3.out.next hb13); have RM4 := Lib.hid (RM3.out.keep hb13); have RL4 := Lib.hid (RL3.out.keep hb13); obtain ⟨hS4, d40, d41, d42, d43⟩ := M4.out.held; clear hb13))
          all_goals
            go_wp2
            go_ret
            exact ⟨rfl, M4.out.below⟩
  · have hnz : (200 : Int) < (l.length : Int) := by omega
    go_enter Try.func7, Try.ntmps7
    go_wp2_with fail
    refine (small6_any B _).mono ?_
    rintro e w0 ⟨rfl, hb0⟩
    have B0 := Lib.hid hb0
    clear hb0
    go_wp2
    go_ret
    exact ⟨rfl, B0.out⟩
end Go.Proofs.Ytcngaekdjnompaa
