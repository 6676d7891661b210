/-
  Proved here: the law BidiMarks, given what the program's Has, Side, End and Rule tell. Conditions: the slices can be read.
-/
import Derived.Test.YtcngaekdjnompaaBidiLawB
namespace Go.Proofs.Ytcngaekdjnompaa
open Go.RowKit
namespace Bidi
def marksOf (m : List Int) : List Int := m.filter fun x => decide (bidiOf x = 6)
theorem marksOf_more (p : List Int) (x : Int) : marksOf (p ++ [x]) = if bidiOf x = 6 then marksOf p ++ [x] else marksOf p := by
  unfold marksOf
  rw [List.filter_append]
  by_cases h : bidiOf x = 6 <;> simp [h]
theorem marksOf_mem {m : List Int} : ∀ r ∈ marksOf m, bidiOf r = 6 := fun r hr => by
  unfold marksOf at hr
  exact of_decide_eq_true (List.mem_filter.1 hr).2
theorem marksOf_len (m : List Int) : (marksOf m).length ≤ m.length := List.length_filter_le _ _
end Bidi
set_option maxHeartbeats 8000000 in
set_option maxRecDepth 100000 in
theorem marks6_walk (B : BidiOk) (va : Value) (l : List Int) (vb : Value) (m : List Int) (w : World) (ha : Runes va l w) (hb : Runes vb m w) : Calls Try.prog 4 #[va, vb] w fun e w' => e = .returned (.bool true) ∧ Below w.heap.size w w' := by
  have HL := Lib.hid ha
  have HM := Lib.hid hb
  obtain ⟨A, c, rfl, -, -⟩ := ha.form
  obtain ⟨A', c', rfl, -, hcell⟩ := hb.form
  have HC := Lib.hid hcell
  clear ha hb hcell
  by_cases h0 : l.length = 0
  · have hz : ((l.length : Int) == 0) = true := by rw [h0]; rfl
    clear h0
    go_enter Try.func4, Try.ntmps4
    go_wp2_with fail
    refine (small6_any B _).mono ?_
    rintro e w0 ⟨rfl, hb0⟩
    have B0 := Lib.hid hb0
    clear hb0
    go_wp2
    go_ret
    exact ⟨rfl, B0.out⟩
  have hz : ((l.length : Int) == 0) = false := by rw [beq_eq_false_iff_ne]; omega
  by_cases hn : l.length ≤ 200
  · have hnz : ¬ (200 : Int) < (l.length : Int) := by omega
    by_cases hk : m.length ≤ 100
    · have hkz : ¬ (100 : Int) < (m.length : Int) := by omega
      have hne : l ≠ [] := fun e => h0 (by rw [e]; rfl)
      have HNE := Lib.hid hne
      clear hne
      go_enter Try.func4, Try.ntmps4
      go_wp2_with fail
      refine (small6_any B _).mono ?_
      rintro e w0 ⟨rfl, hb0⟩
      have B0 := Lib.hid hb0
      clear hb0
      go_wp2_with fail
      refine (new_any _).mono ?_
      rintro e w1 ⟨tt, rfl, hT, hb1⟩
      have hT' := hT
      obtain ⟨b0, b1, b2, b3, rfl, -, -, -, -⟩ := hT'
      have K0 := Lib.hid (kept_new (b0 := b0) (b1 := b1) (b2 := b2) (b3 := b3) (below_then B0.out hb1) hT 29)
      clear hT hb1 B0
      obtain ⟨W0, hW0⟩ : ∃ W0, W0 = w1.alloc (.cells #[.slice (some ⟨b0, 0, none⟩) 74 74, .slice (some ⟨b1, 0, none⟩) 10 10, .slice (some ⟨b2, 0, none⟩) 11 11, .slice (some ⟨b3, 0, none⟩) 42 42] 29) := ⟨_, rfl⟩
      have hN0 : W0.heap.size = w1.heap.size + 1 := by rw [hW0]; simp
      rw [← hW0] at K0
      have HW0 := Lib.hid hW0
      have hown := own_empty W0 W0.heap.size (Nat.le_refl _)
      rw [hN0] at hown
      have OW := Lib.hid hown
      have HN0 := Lib.hid hN0
      clear hW0 hN0 hown
      go_wp2_with (at_builtin; (rw [← HW0.out]); refine append_row (W0.alloc (.cells #[] 21)) 22 21 (.int .i32 0) 4 Try.underlying22 info_i32 rfl (by omega) (w1.heap.size + 1) _ _ _ OW.out (by simp; have := HN0.out; omega) (by omega) _ _ (HL.out.keep (K0.out.next (below_one W0 _)).below) (one_runes _) (by rw [List.length_map]; omega) rfl _ _ rfl rfl rfl ?_; intro v3 w3 ho3 hb3; have O3 : Hid (OwnR (w1.heap.size + 1) v3 l w3) := Lib.hid (OwnR.more (l := []) ho3 rfl (by rw [List.length_map])); have BB3 := Lib.hid ((below_one W0 _).trans (hb3.mono (Nat.le_of_eq HN0.out))); have Z3 : Hid (w1.heap.size + 1 ≤ w3.heap.size) := Lib.hid (by have := hb3.size; simp at this; have := HN0.out; omega); clear ho3 hb3)
      clear HW0 OW
      have BB4 : Hid (Below (w1.heap.size + 1) W0 w3) := by have h := BB3.out; rw [HN0.out] at h; exact h
      go_loopg [7, 8] (m.length + 1) (fun gk s7 i wr => ∃ k : Nat, k ≤ m.length ∧ i = .int .i64 k ∧ m.length - k < gk ∧ Hid (OwnR (w1.heap.size + 1) s7 (l ++ Bidi.marksOf (m.take k)) wr ∧ Below (w1.heap.size + 1) W0 wr ∧ w1.heap.size + 1 ≤ wr.heap.size))
      case atStart => exact ⟨0, Nat.zero_le _, rfl, by omega, ⟨by rw [show Bidi.marksOf (m.take 0) = [] from rfl, List.append_nil]; exact O3.out, BB4.out, Z3.out⟩⟩
      case round =>
        obtain ⟨k, hk2, rfl, hg, I0⟩ := hrel
        obtain ⟨i1, i2, i3⟩ := I0.out
        have IO := Lib.hid i1
        have I : Hid (Kept w w1.heap.size b0 b1 b2 b3 wr) := Lib.hid (K0.out.next (by rw [HN0.out]; exact i2))
        have IB := Lib.hid i2
        have IZ := Lib.hid i3
        clear I0 i1 i2 i3
        obtain ⟨hS, c0, c1, c2, c3⟩ := I.out.held
        by_cases hlt : k < m.length
        · obtain ⟨ad, rfl, hb, hx⟩ := HC.out k hlt
          have hx' := (I.out.below.cell (by rw [add_block]; exact hb)).trans hx
          obtain ⟨x, hxe⟩ : ∃ x, m[k]! = x := ⟨_, rfl⟩
          have ht := Bidi.take_snoc m k hlt
          rw [hxe] at hx' ht
          have hkz2 : (k : Int) < (m.length : Int) := by omega
          have hbz : ad.block < wr.heap.size := Nat.lt_of_lt_of_le hb I.out.below.size
          have KB : Hid (Calls Try.prog 18 #[(.agg #[.slice (some ⟨b0, 0, none⟩) 74 74, .slice (some ⟨b1, 0, none⟩) 10 10, .slice (some ⟨b2, 0, none⟩) 11 11, .slice (some ⟨b3, 0, none⟩) 42 42]), .int .i32 x] wr.drew fun e w' => e = .returned (.int .i64 (bidiOf x)) ∧ Below wr.drew.heap.size wr.drew w') := Lib.hid (bidi_any _ x wr.drew I.out.drew.table)
          have hA := Bidi.marksOf_more (m.take k) x
          rw [← ht] at hA
          have hle : (l ++ Bidi.marksOf (m.take k)).length ≤ 1000000 := by
            have h1 := Bidi.marksOf_len (m.take k)
            rw [List.length_take] at h1
            rw [List.length_append]
            omega
          obtain ⟨y, hy⟩ : ∃ y, bidiOf x = y := ⟨_, rfl⟩
          rw [hy] at KB hA
          clear hx hb hxe ht hy
          by_cases h6 : y = 6
          · rw [if_pos h6] at hA
            have HA := Lib.hid hA
            subst h6
            clear hA
            go_wp2
            go_region_held3 (fun w' => w'.cell? (ad.add k) = some (.int .i32 x) ∧ w'.cell? ⟨w1.heap.size, 0, none⟩ = some (.slice (some ⟨b0, 0, none⟩) 74 74) ∧ w'.cell? ⟨w1.heap.size, 1, none⟩ = some (.slice (some ⟨b1, 0, none⟩) 10 10) ∧ w'.cell? ⟨w1.heap.size, 2, none⟩ = some (.slice (some ⟨b2, 0, none⟩) 11 11) ∧ w'.cell? ⟨w1.heap.size, 3, none⟩ = some (.slice (some ⟨b3, 0, none⟩) 42 42)) (go_keep) ((go_at_call 18; (with_reducible refine KB.out.mono ?_); rintro e w5 ⟨rfl, hb5⟩; have hB5 := below_of_drew hb5; have hx5 := (hB5.cell (by rw [add_block]; exact hbz)).trans hx'; have I5 := Lib.hid (I.out.next hB5); have IO5 := Lib.hid (IO.out.keep hB5); have IZ5 := Lib.hid (Nat.le_trans IZ.out hB5.size); have IB5 := Lib.hid (IB.out.trans (hB5.mono IZ.out)); obtain ⟨hS5, d0, d1, d2, d3⟩ := I5.out.held; clear hb5 hB5))
            go_wp2_with (at_builtin; refine append_cells w5 22 21 (.int .i32 0) 4 Try.underlying22 info_i32 rfl (by omega) (w1.heap.size + 1) _ _ _ IO5.out IZ5.out hle 1 (by omega) _ rfl rfl rfl _ _ rfl rfl rfl ?_; intro v6 w6 ho6 hb6; have HO := Lib.hid ho6; have HB6 := Lib.hid hb6; clear ho6 hb6)
            go_roundg (m.length - k)
            case measure => omega
            case rel =>
              refine ⟨k + 1, by omega, by go_num, by omega, ⟨by rw [HA.out, ← List.append_assoc]; exact OwnR.more HO.out rfl rfl, IB5.out.trans HB6.out, Nat.le_trans IZ5.out HB6.out.size⟩⟩
          · rw [if_neg h6] at hA
            have HA := Lib.hid hA
            have y6 : (y == 6) = false := beq_eq_false_iff_ne.2 h6
            clear hA h6
            go_wp2
            go_region_held3 (fun w' => w'.cell? (ad.add k) = some (.int .i32 x) ∧ w'.cell? ⟨w1.heap.size, 0, none⟩ = some (.slice (some ⟨b0, 0, none⟩) 74 74) ∧ w'.cell? ⟨w1.heap.size, 1, none⟩ = some (.slice (some ⟨b1, 0, none⟩) 10 10) ∧ w'.cell? ⟨w1.heap.size, 2, none⟩ = some (.slice (some ⟨b2, 0, none⟩) 11 11) ∧ w'.cell? ⟨w1.heap.size, 3, none⟩ = some (.slice (some ⟨b3, 0, none⟩) 42 42)) (go_keep) ((go_at_call 18; (with_reducible refine KB.out.mono ?_); rintro e w5 ⟨rfl, hb5⟩; have hB5 := below_of_drew hb5; have hx5 := (hB5.cell (by rw [add_block]; exact hbz)).trans hx'; have I5 := Lib.hid (I.out.next hB5); have IO5 := Lib.hid (IO.out.keep hB5); have IZ5 := Lib.hid (Nat.le_trans IZ.out hB5.size); have IB5 := Lib.hid (IB.out.trans (hB5.mono IZ.out)); obtain ⟨hS5, d0, d1, d2, d3⟩ := I5.out.held; clear hb5 hB5))
            go_wp2
            go_roundg (m.length - k)
            case measure => omega
            case rel => exact ⟨k + 1, by omega, by go_num, by omega, ⟨by rw [HA.out]; exact IO5.out, IB5.out, IZ5.out⟩⟩
        · obtain rfl : k = m.length := by omega
          have io := IO.out
          rw [List.take_length] at io
          obtain ⟨e1, e2, e3⟩ := Bidi.marks HNE.out (m := Bidi.marksOf m) Bidi.marksOf_mem
          have hML : (l ++ Bidi.marksOf m).length ≤ 1000 := by
            have h1 := Bidi.marksOf_len m
            rw [List.length_append]
            omega
          obtain ⟨M, hM⟩ : ∃ M, M = l ++ Bidi.marksOf m := ⟨_, rfl⟩
          rw [← hM] at io e1 e2 e3 hML
          obtain ⟨A6, c6, hv6, -⟩ := io.shape
          obtain ⟨nM, hnM⟩ : ∃ nM, nM = M.length := ⟨_, rfl⟩
          rw [← hnM] at hv6
          subst hv6
          have RM0 := Lib.hid io.runes
          have RL0 := Lib.hid (HL.out.keep I.out.below)
          have HML := Lib.hid hML
          obtain ⟨r, hr⟩ : ∃ r, Bidi.rule l = r := ⟨_, rfl⟩
          obtain ⟨t, ht⟩ : ∃ t, Bidi.stop l = t := ⟨_, rfl⟩
          obtain ⟨h, hh⟩ : ∃ h, Bidi.has l = h := ⟨_, rfl⟩
          rw [hr] at e1
          rw [ht] at e2
          rw [hh] at e3
          have X1 := Lib.hid e1
          have X2 := Lib.hid hr
          have X3 := Lib.hid e2
          have X4 := Lib.hid ht
          have X5 := Lib.hid e3
          have X6 := Lib.hid hh
          clear io e1 e2 e3 hM hnM hML hr ht hh IO IB
          go_wp2
          go_region_held3 (fun w' => w'.cell? ⟨w1.heap.size, 0, none⟩ = some (.slice (some ⟨b0, 0, none⟩) 74 74) ∧ w'.cell? ⟨w1.heap.size, 1, none⟩ = some (.slice (some ⟨b1, 0, none⟩) 10 10) ∧ w'.cell? ⟨w1.heap.size, 2, none⟩ = some (.slice (some ⟨b2, 0, none⟩) 11 11) ∧ w'.cell? ⟨w1.heap.size, 3, none⟩ = some (.slice (some ⟨b3, 0, none⟩) 42 42)) (go_keep) (first
            | (go_at_call 16; (with_reducible refine (B.rule_at (.agg #[.slice (some ⟨b0, 0, none⟩) 74 74, .slice (some ⟨b1, 0, none⟩) 10 10, .slice (some ⟨b2, 0, none⟩) 11 11, .slice (some ⟨b3, 0, none⟩) 42 42]) _ M _ I.out.drew.table (RM0.out.keep (Below.refl _ wr).drew) (by first | omega | exact HML.out) X1.out).mono ?_); rintro e w10 ⟨rfl, hb10⟩; have hB10 := below_of_drew hb10; have M1 := Lib.hid (I.out.next hB10); have RM1 := Lib.hid (RM0.out.keep hB10); have RL1 := Lib.hid (RL0.out.keep hB10); obtain ⟨hS1, d10, d11, d12, d13⟩ := M1.out.held; clear hb10)
            | (go_at_call 16; (with_reducible refine (B.rule_at (.agg #[.slice (some ⟨b0, 0, none⟩) 74 74, .slice (some ⟨b1, 0, none⟩) 10 10, .slice (some ⟨b2, 0, none⟩) 11 11, .slice (some ⟨b3, 0, none⟩) 42 42]) _ l _ M1.out.table RL1.out (by first | omega | exact HML.out) X2.out).mono ?_); rintro e w11 ⟨rfl, hb11⟩; have M2 := Lib.hid (M1.out.next hb11); have RM2 := Lib.hid (RM1.out.keep hb11); have RL2 := Lib.hid (RL1.out.keep hb11); obtain ⟨hS2, d20, d21, d22, d23⟩ := M2.out.held; clear hb11)
            | (go_at_call 14; (with_reducible refine (B.stop_at (.agg #[.slice (some ⟨b0, 0, none⟩) 74 74, .slice (some ⟨b1, 0, none⟩) 10 10, .slice (some ⟨b2, 0, none⟩) 11 11, .slice (some ⟨b3, 0, none⟩) 42 42]) _ M _ M2.out.table RM2.out (by first | omega | exact HML.out) X3.out).mono ?_); rintro e w12 ⟨rfl, hb12⟩; have M3 := Lib.hid (M2.out.next hb12); have RM3 := Lib.hid (RM2.out.keep hb12); have RL3 := Lib.hid (RL2.out.keep hb12); obtain ⟨hS3, d30, d31, d32, d33⟩ := M3.out.held; clear hb12)
            | (go_at_call 14; (with_reducible refine (B.stop_at (.agg #[.slice (some ⟨b0, 0, none⟩) 74 74, .slice (some ⟨b1, 0, none⟩) 10 10, .slice (some ⟨b2, 0, none⟩) 11 11, .slice (some ⟨b3, 0, none⟩) 42 42]) _ l _ M3.out.table RL3.out (by first | omega | exact HML.out) X4.out).mono ?_); rintro e w13 ⟨rfl, hb13⟩; have M4 := Lib.hid (M3.out.next hb13); have RM4 := Lib.hid (RM3.out.keep hb13); have RL4 := Lib.hid (RL3.out.keep hb13); obtain ⟨hS4, d40, d41, d42, d43⟩ := M4.out.held; clear hb13)
            | (go_at_call 10; (with_reducible refine (B.has_at (.agg #[.slice (some ⟨b0, 0, none⟩) 74 74, .slice (some ⟨b1, 0, none⟩) 10 10, .slice (some ⟨b2, 0, none⟩) 11 11, .slice (some ⟨b3, 0, none⟩) 42 42]) _ M _ M4.out.table RM4.out (by first | omega | exact HML.out) X5.out).mono ?_); rintro e w14 ⟨rfl, hb14⟩; have M5 := Lib.hid (M4.out.next hb14); have RM5 := Lib.hid (RM4.out.keep hb14); have RL5 := Lib.hid (RL4.out.keep hb14); obtain ⟨hS5, d50, d51, d52, d53⟩ := M5.out.held; clear hb14)
            | (go_at_call 10; (with_reducible refine (B.has_at (.agg #[.slice (some ⟨b0, 0, none⟩) 74 74, .slice (some ⟨b1, 0, none⟩) 10 10, .slice (some ⟨b2, 0, none⟩) 11 11, .slice (some ⟨b3, 0, none⟩) 42 42]) _ l _ M5.out.table RL5.out (by first | omega | exact HML.out) X6.out).mono ?_); rintro e w15 ⟨rfl, hb15⟩; have M6 := Lib.hid (M5.out.next hb15); have RM6 := Lib.hid (RM5.out.keep hb15); have RL6 := Lib.hid (RL5.out.keep hb15); obtain ⟨hS6, d60, d61, d62, d63⟩ := M6.out.held; clear hb15))
          all_goals
            go_wp2
            go_ret
            exact ⟨rfl, M6.out.below⟩
    · have hkz : (100 : Int) < (m.length : Int) := by omega
      go_enter Try.func4, Try.ntmps4
      go_wp2_with fail
      refine (small6_any B _).mono ?_
      rintro e w0 ⟨rfl, hb0⟩
      have B0 := Lib.hid hb0
      clear hb0
      go_wp2
      go_ret
      exact ⟨rfl, B0.out⟩
  · have hnz : (200 : Int) < (l.length : Int) := by omega
    go_enter Try.func4, Try.ntmps4
    go_wp2_with fail
    refine (small6_any B _).mono ?_
    rintro e w0 ⟨rfl, hb0⟩
    have B0 := Lib.hid hb0
    clear hb0
    go_wp2
    go_ret
    exact ⟨rfl, B0.out⟩
end Go.Proofs.Ytcngaekdjnompaa
