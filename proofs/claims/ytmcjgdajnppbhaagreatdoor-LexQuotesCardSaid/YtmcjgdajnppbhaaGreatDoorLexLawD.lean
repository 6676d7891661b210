/-
  Proved here: the law LexDeep, given what the program's functions tell. Conditions: none.
-/
import Derived.Test.YtmcjgdajnppbhaaGreatDoorLexSmall
import Derived.Test.YtmcjgdajnppbhaaGreatDoorRepSource
namespace Go.Proofs.YtmcjgdajnppbhaaGreatDoor
open Go.RowKit Utf
open Lex (Tok)
theorem tok_first {A : Option Addr} {n c : Nat} {k : Tok} {ts : List Tok} {w : World} (h : Toks (.slice A n c) (k :: ts) w) : ∃ g o, A = some ⟨g, o, none⟩ ∧ g < w.heap.size ∧ TokAt g o k w := by
  obtain ⟨-, -, g, o, rfl, hg, hi⟩ := h.lies (by simp)
  have := hi 0 (by simp)
  rw [Nat.zero_mul, Nat.add_zero] at this
  exact ⟨g, o, rfl, hg, this⟩
set_option maxHeartbeats 8000000 in
set_option maxRecDepth 100000 in
theorem deep12_walk (B : LexOk) (n : Int) (s : ByteArray) (w : World) : Calls Tryz.prog 6 #[.int .i64 n, .string s] w fun e w' => e = .returned (.bool true) ∧ Below w.heap.size w w' := by
  have hsl : s.data.toList.length = s.size := by simp
  by_cases h1 : n < 1
  · have q1 : decide (n < 1) = true := decide_eq_true h1
    clear h1
    go_enter Tryz.func6, Tryz.ntmps6
    go_wp2_with fail
    refine (small12_any B _).mono ?_
    rintro e w0 ⟨rfl, hb0⟩
    have B0 := Lib.hid hb0
    clear hb0
    go_wp2
    go_ret
    exact ⟨rfl, B0.out⟩
  have q1 : decide (n < 1) = false := decide_eq_false h1
  by_cases h2 : 60 < n
  · have q2 : decide (60 < n) = true := decide_eq_true h2
    clear h1 h2
    go_enter Tryz.func6, Tryz.ntmps6
    go_wp2_with fail
    refine (small12_any B _).mono ?_
    rintro e w0 ⟨rfl, hb0⟩
    have B0 := Lib.hid hb0
    clear hb0
    go_wp2
    go_ret
    exact ⟨rfl, B0.out⟩
  have q2 : decide (60 < n) = false := decide_eq_false h2
  by_cases h3 : 100 < s.size
  · have q3 : decide ((100 : Int) < (s.size : Int)) = true := decide_eq_true (by omega)
    clear h1 h2 h3
    go_enter Tryz.func6, Tryz.ntmps6
    go_wp2_with fail
    refine (small12_any B _).mono ?_
    rintro e w0 ⟨rfl, hb0⟩
    have B0 := Lib.hid hb0
    clear hb0
    go_wp2
    go_ret
    exact ⟨rfl, B0.out⟩
  have q3 : decide ((100 : Int) < (s.size : Int)) = false := decide_eq_false (by omega)
  have KP := fun W => B.plain s W (by omega)
  cases hp : Lex.plainT s.data.toList
  · rw [hp] at KP
    have KP := Lib.hid KP
    clear h1 h2 h3 hp
    go_enter Tryz.func6, Tryz.ntmps6
    go_wp2_with fail
    refine (small12_any B _).mono ?_
    rintro e w0 ⟨rfl, hb0⟩
    have B0 := Lib.hid hb0
    clear hb0
    go_wp2_with fail
    with_reducible refine (KP.out _).mono ?_
    rintro e w1 ⟨rfl, hb1⟩
    have B1 := Lib.hid (below_then B0.out hb1)
    clear hb1
    go_wp2
    go_ret
    exact ⟨rfl, B1.out⟩
  rw [hp] at KP
  have KP := Lib.hid KP
  have hat : ∀ b ∈ s.data.toList, Lex.atomB b = true := by
    unfold Lex.plainT at hp
    rw [Bool.and_eq_true, List.all_eq_true] at hp
    exact hp.2
  obtain ⟨m, rfl⟩ : ∃ m : Nat, n = m := ⟨n.toNat, by omega⟩
  have hm1 : 1 ≤ m := by omega
  have hm2 : m ≤ 60 := by omega
  have HAT := Lib.hid hat
  clear h1 h2 hp hat
  go_enter Tryz.func6, Tryz.ntmps6
  go_wp2_with fail
  refine (small12_any B _).mono ?_
  rintro e w0 ⟨rfl, hb0⟩
  have B0 := Lib.hid hb0
  clear hb0
  go_wp2_with fail
  with_reducible refine (KP.out _).mono ?_
  rintro e w1 ⟨rfl, hb1⟩
  have B1 := Lib.hid (below_then B0.out hb1)
  clear hb1
  go_wp2
  go_loopg [6, 7] (m + 1) (fun gk s6 s7 wr => ∃ (i : Nat) (t : ByteArray), s6 = .string t ∧ s7 = .int .i64 i ∧ i ≤ m ∧ m - i < gk ∧ t.size = s.size + 2 * i ∧ Hid (t = ⟨(Lex.wrap i s.data.toList).toArray⟩) ∧ w1 = wr)
  case atStart => exact ⟨0, s, rfl, rfl, Nat.zero_le _, by omega, by omega, Lib.hid (Lex.ba_list s).symm, rfl⟩
  case round =>
    obtain ⟨i, t, rfl, rfl, hi, hg, htz, I, rfl⟩ := hrel
    by_cases hlt : i < m
    · have hiz : (i : Int) < (m : Int) := by omega
      have I2 : Hid (⟨#[40]⟩ ++ t ++ ⟨#[41]⟩ = (⟨(Lex.wrap (i + 1) s.data.toList).toArray⟩ : ByteArray)) := Lib.hid (by rw [I.out, Lex.ba_three]; rfl)
      have hz2 : (⟨#[40]⟩ ++ t ++ ⟨#[41]⟩ : ByteArray).size = s.size + 2 * (i + 1) := by
        rw [ByteArray.size_append, ByteArray.size_append]
        show 1 + t.size + 1 = _
        omega
      have HZ2 := Lib.hid hz2
      clear I hz2
      go_wp2
      go_roundg (m - i)
      case measure => omega
      case rel => exact ⟨i + 1, _, rfl, by go_num, by omega, by omega, HZ2.out, I2, rfl⟩
    · obtain rfl : i = m := by omega
      have hiz : ¬ (i : Int) < (i : Int) := by omega
      have hlw : (Lex.wrap i s.data.toList).length = t.size := by rw [Lex.wrap_len, htz, hsl]
      obtain ⟨E, p, ts, hx⟩ : ∃ E p ts, Lex.lexE t.data.toList = (E, p, ts) := ⟨_, _, _, rfl⟩
      have KL := Lib.hid (fun W => B.lex_at t W (by omega) hx)
      have HX := Lib.hid (show (∀ b ∈ s.data.toList, b.toNat < 128) → (E, p, ts) = if 32 < i then (6, 32, []) else (0, 0, [⟨3, Lex.wrap (i - 1) s.data.toList, 0⟩]) from fun hl => by
        rw [← hx, I.out]
        exact Lex.lex_wrap HAT.out hl (by rw [hsl]; omega) hm1 hm2)
      clear hx hlw I
      go_wp2_with fail
      with_reducible refine (KL.out _).mono ?_
      rintro e w2 ⟨A, c, rfl, hT, hb2⟩
      have B2 := Lib.hid (below_then B1.out hb2)
      have HT := Lib.hid hT
      clear hT hb2
      go_wp2
      go_loopg [11] (s.size + 1) (fun gk s11 wr => ∃ j : Nat, s11 = .int .i64 j ∧ j ≤ s.size ∧ s.size - j < gk ∧ Hid (∀ b ∈ s.data.toList.take j, b.toNat < 128) ∧ w2 = wr)
      case atStart => exact ⟨0, rfl, Nat.zero_le _, by omega, Lib.hid (fun b hb => by simp at hb), rfl⟩
      case round =>
        obtain ⟨j, rfl, hj, hg2, J, rfl⟩ := hrel
        by_cases hjl : j < s.size
        · have hjz : (j : Int) < (s.size : Int) := by omega
          by_cases hlow : s[j].toNat < 128
          · have q4 : decide ((s[j].toNat : Int) < 128) = true := decide_eq_true (by omega)
            have J2 : Hid (∀ b ∈ s.data.toList.take (j + 1), b.toNat < 128) := Lib.hid (fun b hb => by
              rw [Lex.take_more hjl, List.mem_append, List.mem_singleton] at hb
              rcases hb with hb | rfl
              · exact J.out b hb
              · exact hlow)
            clear hlow J
            go_wp2
            go_roundg (s.size - j)
            case measure => omega
            case rel => exact ⟨j + 1, by go_num, by omega, by omega, J2, rfl⟩
          · have q4 : decide ((s[j].toNat : Int) < 128) = false := decide_eq_false (by omega)
            clear hlow J
            go_wp2
            go_ret
            exact ⟨rfl, B2.out⟩
        · obtain rfl : j = s.size := by omega
          have hjz : ¬ (s.size : Int) < (s.size : Int) := by omega
          have hx := HX.out (by have := J.out; rwa [List.take_of_length_le (by rw [hsl]; exact Nat.le_refl _)] at this)
          by_cases h32 : 32 < i
          · rw [if_pos h32] at hx
            injection hx with e1 e2
            injection e2 with e2 e3
            subst e1 e2 e3
            have q5 : (32 : Int) < (i : Int) := by omega
            clear J HX
            go_wp2
            go_ret
            exact ⟨rfl, B2.out⟩
          · rw [if_neg h32] at hx
            injection hx with e1 e2
            injection e2 with e2 e3
            subst e1 e2 e3
            have q5 : ¬ (32 : Int) < (i : Int) := by omega
            obtain ⟨g, o, rfl, -, t0, t1, -⟩ := tok_first HT.out
            have hzt : (Lex.wrap (i - 1) s.data.toList).length = s.size + 2 * (i - 1) := by rw [Lex.wrap_len, hsl]
            have hzi : ((⟨(Lex.wrap (i - 1) s.data.toList).toArray⟩ : ByteArray).size : Int) = (t.size : Int) - 2 := by
              show ((Lex.wrap (i - 1) s.data.toList).toArray.size : Int) = _
              rw [List.size_toArray, hzt, htz]
              omega
            generalize (⟨(Lex.wrap (i - 1) s.data.toList).toArray⟩ : ByteArray) = u at t1 hzi
            clear J HX hzt
            go_wp2
            go_ret
            exact ⟨rfl, B2.out⟩
end Go.Proofs.YtmcjgdajnppbhaaGreatDoor
