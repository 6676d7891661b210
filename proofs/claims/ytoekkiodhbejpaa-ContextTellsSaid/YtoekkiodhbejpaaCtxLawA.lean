/-
  Proved here: the law ContextTells, given what the program's Need, All and Needs tell. Conditions: the slice can be read.
-/
import Derived.Test.YtoekkiodhbejpaaCtxSmall
namespace Go.Proofs.Ytoekkiodhbejpaa
open Go.RowKit
set_option maxHeartbeats 8000000 in
set_option maxRecDepth 100000 in
theorem tells7_walk (B : CtxOk) (S7 : Small7) (v : Value) (l : List Int) (i r : Int) (w : World) (hl : Runes v l w) : Calls Try.prog 3 #[v, .int .i64 i, .int .i32 r] w fun e w' => e = .returned (.bool true) ∧ Below w.heap.size w w' := by
  have HL := Lib.hid hl
  obtain ⟨A, c, rfl, -, -⟩ := hl.form
  clear hl
  by_cases hn : l.length ≤ 100
  · have hnz : ¬ (100 : Int) < (l.length : Int) := by omega
    obtain ⟨x1, h1⟩ : ∃ x, Ctx.need l i = x := ⟨_, rfl⟩
    obtain ⟨x2, h2⟩ : ∃ x, Ctx.all l = x := ⟨_, rfl⟩
    obtain ⟨x3, h3⟩ : ∃ x, Ctx.needs r = x := ⟨_, rfl⟩
    have H1 := Lib.hid h1
    have H2 := Lib.hid h2
    have H3 := Lib.hid h3
    clear h1 h2 h3
    go_enter Try.func3, Try.ntmps3
    go_wp2_with fail
    refine (S7 _).mono ?_
    rintro e w0 ⟨rfl, hb0⟩
    have B0 := Lib.hid hb0
    clear hb0
    go_wp2_with fail
    refine (new_any _).mono ?_
    rintro e w1 ⟨tt, rfl, hT, hb1⟩
    have hT' := hT
    obtain ⟨b0, b1, b2, b3, rfl, -, -, -, -⟩ := hT'
    have K1 := Lib.hid (kept_new (b0 := b0) (b1 := b1) (b2 := b2) (b3 := b3) (below_then B0.out hb1) hT 29)
    clear hT hb1 B0
    go_wp2
    go_loopg [9] (l.length + 1) (fun gk s9 wr => ∃ k : Nat, k ≤ l.length ∧ s9 = .int .i64 k ∧ l.length - k < gk ∧ Hid (Kept w w1.heap.size b0 b1 b2 b3 wr))
    case atStart => exact ⟨0, Nat.zero_le _, rfl, by omega, K1.out⟩
    case round =>
      obtain ⟨k, hk, rfl, hg, I⟩ := hrel
      obtain ⟨hS, c0, c1, c2, c3⟩ := I.out.held
      by_cases hlt : k < l.length
      · have hkz : (k : Int) < (l.length : Int) := by omega
        obtain ⟨y, hy⟩ : ∃ y, Ctx.need l (k : Int) = y := ⟨_, rfl⟩
        have HY := Lib.hid hy
        have hyy : (y != y) = false := by simp
        clear hy
        go_wp2_with fail
        refine (B.need_at (.agg #[.slice (some ⟨b0, 0, none⟩) 74 74, .slice (some ⟨b1, 0, none⟩) 10 10, .slice (some ⟨b2, 0, none⟩) 11 11, .slice (some ⟨b3, 0, none⟩) 42 42]) _ l (k : Int) _ I.out.table (HL.out.keep I.out.below) (by omega) HY.out).mono ?_
        rintro e w2 ⟨rfl, hb2⟩
        have K2 := Lib.hid (I.out.next hb2)
        clear hb2 hS c0 c1 c2 c3
        have KR := need7_any _ l (k : Int) w2 (HL.out.keep K2.out.below) (by omega)
        rw [HY.out] at KR
        have HR := Lib.hid KR
        clear KR
        go_wp2_with fail
        refine HR.out.mono ?_
        rintro e w3 ⟨rfl, hb3⟩
        have K3 := Lib.hid (K2.out.next hb3)
        clear hb3 K2 HR
        go_wp2
        go_roundg (l.length - k)
        case measure => omega
        case rel => exact ⟨k + 1, by omega, by go_num, by omega, K3.out⟩
      · obtain rfl : k = l.length := by omega
        go_wp2_with fail
        refine (B.need_at (.agg #[.slice (some ⟨b0, 0, none⟩) 74 74, .slice (some ⟨b1, 0, none⟩) 10 10, .slice (some ⟨b2, 0, none⟩) 11 11, .slice (some ⟨b3, 0, none⟩) 42 42]) _ l i _ I.out.table (HL.out.keep I.out.below) (by omega) H1.out).mono ?_
        rintro e w2 ⟨rfl, hb2⟩
        have K2 := Lib.hid (I.out.next hb2)
        clear hb2 hS c0 c1 c2 c3
        have KR := need7_any _ l i w2 (HL.out.keep K2.out.below) (by omega)
        rw [H1.out] at KR
        have HR := Lib.hid KR
        clear KR
        go_wp2_with fail
        refine HR.out.mono ?_
        rintro e w3 ⟨rfl, hb3⟩
        have K3 := Lib.hid (K2.out.next hb3)
        clear hb3 K2 HR
        obtain ⟨hS, c0, c1, c2, c3⟩ := K3.out.held
        go_wp2_with fail
        refine (B.all_at (.agg #[.slice (some ⟨b0, 0, none⟩) 74 74, .slice (some ⟨b1, 0, none⟩) 10 10, .slice (some ⟨b2, 0, none⟩) 11 11, .slice (some ⟨b3, 0, none⟩) 42 42]) _ l _ K3.out.table (HL.out.keep K3.out.below) (by omega) H2.out).mono ?_
        rintro e w4 ⟨rfl, hb4⟩
        have K4 := Lib.hid (K3.out.next hb4)
        clear hb4 hS c0 c1 c2 c3 K3
        have KR := all7_any _ l w4 (HL.out.keep K4.out.below) (by omega)
        rw [H2.out] at KR
        have HR := Lib.hid KR
        clear KR
        go_wp2_with fail
        refine HR.out.mono ?_
        rintro e w5 ⟨rfl, hb5⟩
        have K5 := Lib.hid (K4.out.next hb5)
        clear hb5 K4 HR
        go_wp2_with fail
        refine (B.needs_at r _ H3.out).mono ?_
        rintro e w6 ⟨rfl, hb6⟩
        have K6 := Lib.hid (K5.out.next hb6)
        clear hb6 K5
        have KR := needs7_any r w6
        rw [H3.out] at KR
        have HR := Lib.hid KR
        clear KR
        go_wp2_with fail
        refine HR.out.mono ?_
        rintro e w7 ⟨rfl, rfl⟩
        go_wp2
        go_ret
        exact ⟨by simp, K6.out.below⟩
  · have hnz : (100 : Int) < (l.length : Int) := by omega
    go_enter Try.func3, Try.ntmps3
    go_wp2_with fail
    refine (S7 _).mono ?_
    rintro e w1 ⟨rfl, hb1⟩
    have B1 := Lib.hid hb1
    clear hb1
    go_wp2
    go_ret
    exact ⟨rfl, B1.out⟩
end Go.Proofs.Ytoekkiodhbejpaa
