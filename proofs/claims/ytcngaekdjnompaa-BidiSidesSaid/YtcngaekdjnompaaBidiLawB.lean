/-
  Proved here: the law BidiSides, given what the program's Has, Side, End and Rule tell. Conditions: the slice can be read.
-/
import Derived.Test.YtcngaekdjnompaaBidiSmall
import Derived.Deep.RegionHeld3
namespace Go.Proofs.Ytcngaekdjnompaa
open Go.RowKit
namespace Bidi
theorem any_more (b : Int) (p : List Int) (x : Int) : any b (p ++ [x]) = (any b p || bidiOf x == b) := by
  rw [any_app]
  simp [any]
theorem has_more (p : List Int) (x : Int) : has (p ++ [x]) = (has p || bidiOf x == 2 || bidiOf x == 3 || bidiOf x == 5) := by
  rw [has_app]
  simp [has, strong, Bool.or_assoc]
theorem take_snoc (l : List Int) (k : Nat) (h : k < l.length) : l.take (k + 1) = l.take k ++ [l[k]!] := by
  rw [getElem!_pos l k h, List.take_succ_eq_append_getElem h]
end Bidi
set_option maxHeartbeats 8000000 in
set_option maxRecDepth 100000 in
theorem sides6_walk (B : BidiOk) (v : Value) (l : List Int) (w : World) (hl : Runes v l w) : Calls Try.prog 5 #[v] w fun e w' => e = .returned (.bool true) ∧ Below w.heap.size w w' := by
  have HL := Lib.hid hl
  obtain ⟨A, c, rfl, -, hcell⟩ := hl.form
  have HC := Lib.hid hcell
  clear hl hcell
  by_cases h0 : l.length = 0
  · have hz : ((l.length : Int) == 0) = true := by rw [h0]; rfl
    clear h0
    go_enter Try.func5, Try.ntmps5
    go_wp2_with fail
    refine (small6_any B _).mono ?_
    rintro e w0 ⟨rfl, hb0⟩
    have B0 := Lib.hid hb0
    clear hb0
    go_wp2
    go_ret
    exact ⟨rfl, B0.out⟩
  have hz : ((l.length : Int) == 0) = false := by rw [beq_eq_false_iff_ne]; omega
  by_cases hn : l.length ≤ 300
  · have hnz : ¬ (300 : Int) < (l.length : Int) := by omega
    have hne : l ≠ [] := fun e => h0 (by rw [e]; rfl)
    cases hr : Bidi.rule l with
    | false =>
      have HRU := Lib.hid hr
      clear hr hne
      go_enter Try.func5, Try.ntmps5
      go_wp2_with fail
      refine (small6_any B _).mono ?_
      rintro e w0 ⟨rfl, hb0⟩
      have B0 := Lib.hid hb0
      clear hb0
      go_wp2_with fail
      refine (new_any _).mono ?_
      rintro e w1 ⟨tt, rfl, hT, hb1⟩
      have hT' := hT
      obtain ⟨b0, b1, b2, b3, rfl, -, -, -, -⟩ := hT'
      have K1 := Lib.hid (kept_new (b0 := b0) (b1 := b1) (b2 := b2) (b3 := b3) (below_then B0.out hb1) hT 29)
      obtain ⟨hS, c0, c1, c2, c3⟩ := K1.out.held
      clear hT hb1 B0
      go_wp2_with fail
      refine (B.rule_at (.agg #[.slice (some ⟨b0, 0, none⟩) 74 74, .slice (some ⟨b1, 0, none⟩) 10 10, .slice (some ⟨b2, 0, none⟩) 11 11, .slice (some ⟨b3, 0, none⟩) 42 42]) _ l _ K1.out.table (HL.out.keep K1.out.below) (by omega) HRU.out).mono ?_
      rintro e w2 ⟨rfl, hb2⟩
      have K2 := Lib.hid (K1.out.next hb2)
      clear hb2 K1 hS c0 c1 c2 c3
      go_wp2
      go_ret
      exact ⟨rfl, K2.out.below⟩
    | true =>
      have HRU := Lib.hid hr
      obtain ⟨s1, s2, s3⟩ := Bidi.sides hne hr
      obtain ⟨xf, tf, hfl⟩ : ∃ x t, l = x :: t := by
        cases l with
        | nil => exact absurd rfl hne
        | cons x t => exact ⟨x, t, rfl⟩
      have hf45 := s2 xf tf hfl
      obtain ⟨pl, xl, hll⟩ : ∃ p x, l = p ++ [x] := by
        rcases List.eq_nil_or_concat l with h | ⟨p, x, h⟩
        · exact absurd h hne
        · exact ⟨p, x, by rw [h, List.concat_eq_append]⟩
      have hl45 := s3 pl xl hll
      have hff : l[0]! = xf := by rw [hfl]; rfl
      have hlf : l[l.length - 1]! = xl := by rw [hll]; simp
      have S1 := Lib.hid s1
      have HFF := Lib.hid hff
      have HLF := Lib.hid hlf
      have g45 : (xf != 45) = true := by simpa using hf45
      have k45 : (xl != 45) = true := by simpa using hl45
      clear hr hne s1 s2 s3 hfl hll hf45 hl45 hff hlf
      go_enter Try.func5, Try.ntmps5
      go_wp2_with fail
      refine (small6_any B _).mono ?_
      rintro e w0 ⟨rfl, hb0⟩
      have B0 := Lib.hid hb0
      clear hb0
      go_wp2_with fail
      refine (new_any _).mono ?_
      rintro e w1 ⟨tt, rfl, hT, hb1⟩
      have hT' := hT
      obtain ⟨b0, b1, b2, b3, rfl, -, -, -, -⟩ := hT'
      have K1 := Lib.hid (kept_new (b0 := b0) (b1 := b1) (b2 := b2) (b3 := b3) (below_then B0.out hb1) hT 29)
      obtain ⟨hS, c0, c1, c2, c3⟩ := K1.out.held
      clear hT hb1 B0
      go_wp2_with fail
      refine (B.rule_at (.agg #[.slice (some ⟨b0, 0, none⟩) 74 74, .slice (some ⟨b1, 0, none⟩) 10 10, .slice (some ⟨b2, 0, none⟩) 11 11, .slice (some ⟨b3, 0, none⟩) 42 42]) _ l _ K1.out.table (HL.out.keep K1.out.below) (by omega) HRU.out).mono ?_
      rintro e w2 ⟨rfl, hb2⟩
      have K2 := Lib.hid (K1.out.next hb2)
      clear hb2 K1 hS c0 c1 c2 c3
      go_wp2
      go_loopg [5, 6, 7, 8] (l.length + 1) (fun gk s5 s6 i _ wr => ∃ k : Nat, k ≤ l.length ∧ i = .int .i64 k ∧ l.length - k < gk ∧ s5 = .bool (Bidi.any 1 (l.take k)) ∧ s6 = .bool (Bidi.has (l.take k)) ∧ Hid (Kept w w1.heap.size b0 b1 b2 b3 wr))
      case atStart => exact ⟨0, Nat.zero_le _, rfl, by omega, rfl, rfl, K2.out⟩
      case round =>
        obtain ⟨k, hk, rfl, hg, rfl, rfl, I⟩ := hrel
        obtain ⟨hS, c0, c1, c2, c3⟩ := I.out.held
        by_cases hlt : k < l.length
        · obtain ⟨ad, rfl, hb, hx⟩ := HC.out k hlt
          have hx' := (I.out.below.cell (by rw [add_block]; exact hb)).trans hx
          obtain ⟨x, hxe⟩ : ∃ x, l[k]! = x := ⟨_, rfl⟩
          have ht := Bidi.take_snoc l k hlt
          rw [hxe] at hx' ht
          have hkz : (k : Int) < (l.length : Int) := by omega
          have hbz : ad.block < wr.heap.size := Nat.lt_of_lt_of_le hb I.out.below.size
          have KB : Hid (Calls Try.prog 18 #[(.agg #[.slice (some ⟨b0, 0, none⟩) 74 74, .slice (some ⟨b1, 0, none⟩) 10 10, .slice (some ⟨b2, 0, none⟩) 11 11, .slice (some ⟨b3, 0, none⟩) 42 42]), .int .i32 x] wr.drew fun e w' => e = .returned (.int .i64 (bidiOf x)) ∧ Below wr.drew.heap.size wr.drew w') := Lib.hid (bidi_any _ x wr.drew I.out.drew.table)
          have hA := Bidi.any_more 1 (l.take k) x
          have hH := Bidi.has_more (l.take k) x
          rw [← ht] at hA hH
          obtain ⟨y, hy⟩ : ∃ y, bidiOf x = y := ⟨_, rfl⟩
          rw [hy] at KB hA hH
          generalize Bidi.any 1 (l.take k) = al at hA ⊢
          generalize Bidi.has (l.take k) = ar at hH ⊢
          have HA := Lib.hid hA
          have HH := Lib.hid hH
          clear hx hb hxe ht hA hH hy
          go_wp2
          go_region_held3 (fun w' => w'.cell? (ad.add k) = some (.int .i32 x) ∧ w'.cell? ⟨w1.heap.size, 0, none⟩ = some (.slice (some ⟨b0, 0, none⟩) 74 74) ∧ w'.cell? ⟨w1.heap.size, 1, none⟩ = some (.slice (some ⟨b1, 0, none⟩) 10 10) ∧ w'.cell? ⟨w1.heap.size, 2, none⟩ = some (.slice (some ⟨b2, 0, none⟩) 11 11) ∧ w'.cell? ⟨w1.heap.size, 3, none⟩ = some (.slice (some ⟨b3, 0, none⟩) 42 42)) (go_keep) ((go_at_call 18; (with_reducible refine KB.out.mono ?_); rintro e w5 ⟨rfl, hb5⟩; have hB5 := below_of_drew hb5; have hx5 := (hB5.cell (by rw [add_block]; exact hbz)).trans hx'; have I5 := Lib.hid (I.out.next hB5); obtain ⟨hS5, d0, d1, d2, d3⟩ := I5.out.held; clear hb5 hB5))
          go_wp2
          all_goals
            go_roundg (l.length - k)
            case measure => omega
            case rel => exact ⟨k + 1, by omega, by go_num, by omega, by rw [HA.out]; simp [*], by rw [HH.out]; simp [*], I5⟩
        · obtain rfl : k = l.length := by omega
          rw [List.take_length, S1.out]
          obtain ⟨ad, rfl, hb, hx⟩ := HC.out 0 (by omega)
          obtain ⟨ad2, hae, hb2, hx2⟩ := HC.out (l.length - 1) (by omega)
          obtain rfl : ad = ad2 := by injection hae
          rw [HFF.out] at hx
          rw [HLF.out] at hx2
          have e0 : ad.add 0 = ad := by unfold Addr.add; simp
          rw [e0] at hx
          have hxf := (I.out.below.cell hb).trans hx
          have hxl := (I.out.below.cell (by rw [add_block]; exact hb)).trans hx2
          have hlw : IntKind.i64.wrap ((l.length : Int) - 1) = (l.length : Int) - 1 := by rw [IntKind.wrap_i64]; omega
          have hl1 : ((l.length : Int) - 1).toNat = l.length - 1 := by omega
          have hl0 : (0 : Int) < (l.length : Int) := by omega
          have KH := Lib.hid (B.has_at (.agg #[.slice (some ⟨b0, 0, none⟩) 74 74, .slice (some ⟨b1, 0, none⟩) 10 10, .slice (some ⟨b2, 0, none⟩) 11 11, .slice (some ⟨b3, 0, none⟩) 42 42]) _ l wr I.out.table (HL.out.keep I.out.below) (by omega) rfl)
          generalize Bidi.has l = hh at KH ⊢
          clear hx hx2 hb hb2 hae e0 S1
          cases hh
          all_goals
            go_wp2_with fail
            refine KH.out.mono ?_
            rintro e w6 ⟨rfl, hb6⟩
            have K6 := Lib.hid (I.out.next hb6)
            clear hb6
            go_wp2
            go_ret
            exact ⟨rfl, K6.out.below⟩
  · have hnz : (300 : Int) < (l.length : Int) := by omega
    go_enter Try.func5, Try.ntmps5
    go_wp2_with fail
    refine (small6_any B _).mono ?_
    rintro e w0 ⟨rfl, hb0⟩
    have B0 := Lib.hid hb0
    clear hb0
    go_wp2
    go_ret
    exact ⟨rfl, B0.out⟩
end Go.Proofs.Ytcngaekdjnompaa
