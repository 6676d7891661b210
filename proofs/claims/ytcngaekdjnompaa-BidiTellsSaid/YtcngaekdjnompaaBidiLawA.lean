/-
  Proved here: the law BidiTells, given what the program's Has, Side, End and Rule tell. Conditions: the slice can be read.
-/
import Derived.Test.YtcngaekdjnompaaBidiSmall
namespace Go.Proofs.Ytcngaekdjnompaa
open Go.RowKit
set_option maxHeartbeats 8000000 in
set_option maxRecDepth 100000 in
theorem tells6_walk (B : BidiOk) (v : Value) (l : List Int) (w : World) (hl : Runes v l w) : Calls Try.prog 3 #[v] w fun e w' => e = .returned (.bool true) ∧ Below w.heap.size w w' := by
  have HL := Lib.hid hl
  obtain ⟨A, c, rfl, -, -⟩ := hl.form
  clear hl
  by_cases hn : l.length ≤ 300
  · have hnz : ¬ (300 : Int) < (l.length : Int) := by omega
    obtain ⟨x1, h1⟩ : ∃ x, Bidi.has l = x := ⟨_, rfl⟩
    obtain ⟨x2, h2⟩ : ∃ x, Bidi.side l = x := ⟨_, rfl⟩
    obtain ⟨x3, h3⟩ : ∃ x, Bidi.stop l = x := ⟨_, rfl⟩
    obtain ⟨x4, h4⟩ : ∃ x, Bidi.rule l = x := ⟨_, rfl⟩
    have H1 := Lib.hid h1
    have H2 := Lib.hid h2
    have H3 := Lib.hid h3
    have H4 := Lib.hid h4
    clear h1 h2 h3 h4
    go_enter Try.func3, Try.ntmps3
    go_wp2_with fail
    refine (small6_any B _).mono ?_
    rintro e w0 ⟨rfl, hb0⟩
    have B0 := Lib.hid hb0
    clear hb0
    go_wp2_with fail
    refine (new_any _).mono ?_
    rintro e w1 ⟨tt, rfl, hT, hb1⟩
    have hT' := hT
    obtain ⟨b0, b1, b2, b3, rfl, -, -, -, -⟩ := hT'
    have K1 := Lib.hid (kept_new (b0 := b0) (b1 := b1) (b2 := b2) (b3 := b3) (below_then B0.out hb1) hT 29)
    obtain ⟨hS, c0, c1, c2, c3⟩ := K1.out.held
    clear hT hb1 B0
    go_wp2_with fail
    refine (B.has_at (.agg #[.slice (some ⟨b0, 0, none⟩) 74 74, .slice (some ⟨b1, 0, none⟩) 10 10, .slice (some ⟨b2, 0, none⟩) 11 11, .slice (some ⟨b3, 0, none⟩) 42 42]) _ l _ K1.out.table (HL.out.keep K1.out.below) (by omega) H1.out).mono ?_
    rintro e w2 ⟨rfl, hb2⟩
    have K2 := Lib.hid (K1.out.next hb2)
    clear hb2 K1 hS c0 c1 c2 c3
    obtain ⟨hS, c0, c1, c2, c3⟩ := K2.out.held
    have KR2 := has6_any _ l w2 (HL.out.keep K2.out.below) (by omega)
    rw [H1.out] at KR2
    have HR2 := Lib.hid KR2
    clear KR2
    go_wp2_with fail
    refine HR2.out.mono ?_
    rintro e w3 ⟨rfl, hb3⟩
    have K3 := Lib.hid (K2.out.next hb3)
    clear hb3 K2 hS c0 c1 c2 c3 HR2
    obtain ⟨hS, c0, c1, c2, c3⟩ := K3.out.held
    go_wp2_with fail
    refine (B.side_at (.agg #[.slice (some ⟨b0, 0, none⟩) 74 74, .slice (some ⟨b1, 0, none⟩) 10 10, .slice (some ⟨b2, 0, none⟩) 11 11, .slice (some ⟨b3, 0, none⟩) 42 42]) _ l _ K3.out.table (HL.out.keep K3.out.below) (by omega) H2.out).mono ?_
    rintro e w4 ⟨rfl, hb4⟩
    have K4 := Lib.hid (K3.out.next hb4)
    clear hb4 K3 hS c0 c1 c2 c3
    obtain ⟨hS, c0, c1, c2, c3⟩ := K4.out.held
    have KR4 := side6_any _ l w4 (HL.out.keep K4.out.below) (by omega)
    rw [H2.out] at KR4
    have HR4 := Lib.hid KR4
    clear KR4
    go_wp2_with fail
    refine HR4.out.mono ?_
    rintro e w5 ⟨rfl, hb5⟩
    have K5 := Lib.hid (K4.out.next hb5)
    clear hb5 K4 hS c0 c1 c2 c3 HR4
    obtain ⟨hS, c0, c1, c2, c3⟩ := K5.out.held
    go_wp2_with fail
    refine (B.stop_at (.agg #[.slice (some ⟨b0, 0, none⟩) 74 74, .slice (some ⟨b1, 0, none⟩) 10 10, .slice (some ⟨b2, 0, none⟩) 11 11, .slice (some ⟨b3, 0, none⟩) 42 42]) _ l _ K5.out.table (HL.out.keep K5.out.below) (by omega) H3.out).mono ?_
    rintro e w6 ⟨rfl, hb6⟩
    have K6 := Lib.hid (K5.out.next hb6)
    clear hb6 K5 hS c0 c1 c2 c3
    obtain ⟨hS, c0, c1, c2, c3⟩ := K6.out.held
    have KR6 := end6_any _ l w6 (HL.out.keep K6.out.below) (by omega)
    rw [H3.out] at KR6
    have HR6 := Lib.hid KR6
    clear KR6
    go_wp2_with fail
    refine HR6.out.mono ?_
    rintro e w7 ⟨rfl, hb7⟩
    have K7 := Lib.hid (K6.out.next hb7)
    clear hb7 K6 hS c0 c1 c2 c3 HR6
    obtain ⟨hS, c0, c1, c2, c3⟩ := K7.out.held
    go_wp2_with fail
    refine (B.rule_at (.agg #[.slice (some ⟨b0, 0, none⟩) 74 74, .slice (some ⟨b1, 0, none⟩) 10 10, .slice (some ⟨b2, 0, none⟩) 11 11, .slice (some ⟨b3, 0, none⟩) 42 42]) _ l _ K7.out.table (HL.out.keep K7.out.below) (by omega) H4.out).mono ?_
    rintro e w8 ⟨rfl, hb8⟩
    have K8 := Lib.hid (K7.out.next hb8)
    clear hb8 K7 hS c0 c1 c2 c3
    obtain ⟨hS, c0, c1, c2, c3⟩ := K8.out.held
    have KR8 := rule6_any _ l w8 (HL.out.keep K8.out.below) (by omega)
    rw [H4.out] at KR8
    have HR8 := Lib.hid KR8
    clear KR8
    go_wp2_with fail
    refine HR8.out.mono ?_
    rintro e w9 ⟨rfl, hb9⟩
    have K9 := Lib.hid (K8.out.next hb9)
    clear hb9 K8 hS c0 c1 c2 c3 HR8
    obtain ⟨hS, c0, c1, c2, c3⟩ := K9.out.held
    go_wp2
    go_ret
    exact ⟨by simp, K9.out.below⟩
  · have hnz : (300 : Int) < (l.length : Int) := by omega
    go_enter Try.func3, Try.ntmps3
    go_wp2_with fail
    refine (small6_any B _).mono ?_
    rintro e w1 ⟨rfl, hb1⟩
    have B1 := Lib.hid hb1
    clear hb1
    go_wp2
    go_ret
    exact ⟨rfl, B1.out⟩
end Go.Proofs.Ytcngaekdjnompaa
