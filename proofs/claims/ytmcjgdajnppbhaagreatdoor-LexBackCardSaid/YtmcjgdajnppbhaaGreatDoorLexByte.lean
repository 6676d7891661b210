/-
  Proved here: what the program asks of one byte; the place behind a \; the place of a byte in a string. Conditions: as they stand in each.
-/
import Derived.Test.YtmcjgdajnppbhaaGreatDoorLexFits
import Derived.Lib.Bytealg
import Derived.BigQuiet
import Derived.BigGuard
namespace Go.Proofs.YtmcjgdajnppbhaaGreatDoor
open Go.RowKit Utf
set_option maxHeartbeats 1000000 in
set_option maxRecDepth 100000 in
theorem liteIndexByte_any (s : ByteArray) (c : UInt8) (w : World) : Calls Tryz.prog 53 #[.string s, .int .u8 (c.toNat : Int)] w fun e w' => e = .returned (.int .i64 (Lib.indexByte s.data.toList c)) ∧ w = w' := by
  go_enter Tryz.func53, Tryz.ntmps53
  go_wp2
  rw [run_callFunc_extern Tryz.func63 (by kernel_rfl) (by kernel_rfl) (by kernel_rfl) (e := Extern.BytealgIndexByte.indexByte) (by kernel_rfl), Lib.run_indexByteString, Int.toNat_natCast, show c.toNat.toUInt8 = c from UInt8.ofNat_toNat]
  simp only [Result.andThen]
  rw [Oper.upon_value]
  go_wp2
  go_ret
  exact ⟨rfl, rfl⟩
set_option maxHeartbeats 1000000 in
set_option maxRecDepth 100000 in
theorem indexByte_any (s : ByteArray) (c : UInt8) (w : World) : Calls Tryz.prog 38 #[.string s, .int .u8 (c.toNat : Int)] w fun e w' => e = .returned (.int .i64 (Lib.indexByte s.data.toList c)) ∧ w = w' := by
  go_enter Tryz.func38, Tryz.ntmps38
  go_wp2_with (go_at_call 53; with_reducible refine (liteIndexByte_any s c w).mono ?_; rintro e w' ⟨rfl, rfl⟩)
  go_ret
  exact ⟨rfl, rfl⟩
namespace Lex
theorem indexByte_in : ∀ (l : List UInt8) (c : UInt8), decide (0 ≤ Lib.indexByte l c) = l.contains c
  | [], _ => rfl
  | b :: l, c => by
    have ih := indexByte_in l c
    have hge := Lib.indexByte_ge l c
    rw [List.contains_cons, ← ih, show Lib.indexByte (b :: l) c = if b == c then 0 else if Lib.indexByte l c == -1 then -1 else Lib.indexByte l c + 1 from rfl]
    by_cases h : b = c
    · subst h
      simp
    · have h1 : (b == c) = false := by simpa using h
      have h2 : (c == b) = false := by simpa using fun e => h e.symm
      rw [h1, h2]
      simp only [Bool.false_eq_true, if_false, Bool.false_or]
      split
      · rename_i h3
        have : Lib.indexByte l c = -1 := by simpa using h3
        rw [this]
      · rename_i h3
        have : Lib.indexByte l c ≠ -1 := by simpa using h3
        rw [decide_eq_decide]
        omega
end Lex
set_option maxHeartbeats 1000000 in
set_option maxRecDepth 100000 in
theorem isBlank_any (b : UInt8) (w : World) : Calls Tryz.prog 42 #[.int .u8 (b.toNat : Int)] w fun e w' => e = .returned (.bool (Lex.blankB b)) ∧ w = w' := by
  have hb := lt256 b
  unfold Lex.blankB Lex.blankN
  generalize b.toNat = n at hb ⊢
  by_cases h1 : n = 32
  · subst h1
    go_enter Tryz.func42, Tryz.ntmps42
    go_wp2
    go_ret
    exact ⟨rfl, rfl⟩
  · by_cases h2 : n = 9
    · subst h2
      go_enter Tryz.func42, Tryz.ntmps42
      go_wp2
      go_ret
      exact ⟨rfl, rfl⟩
    · have e1 : ((n : Int) == 32) = false := by simpa using (by omega : ¬ (n : Int) = 32)
      have e2 : ((n : Int) == 9) = false := by simpa using (by omega : ¬ (n : Int) = 9)
      have e3 : (n == 32 || n == 9) = false := by simp [h1, h2]
      rw [e3]
      clear h1 h2 e3
      go_enter Tryz.func42, Tryz.ntmps42
      go_wp2
      go_ret
      exact ⟨rfl, rfl⟩
set_option maxHeartbeats 1000000 in
set_option maxRecDepth 100000 in
theorem isPrinted_any (b : UInt8) (w : World) : Calls Tryz.prog 41 #[.int .u8 (b.toNat : Int)] w fun e w' => e = .returned (.bool (Lex.printN b.toNat)) ∧ w = w' := by
  have hb := lt256 b
  unfold Lex.printN
  generalize b.toNat = n at hb ⊢
  obtain ⟨x, hx⟩ : ∃ x, x = (decide (33 ≤ n) && decide (n ≤ 126) || decide (128 ≤ n)) := ⟨_, rfl⟩
  rw [← hx]
  have d1 : decide ((33 : Int) ≤ (n : Int)) = decide (33 ≤ n) := decide_eq_decide.2 (by omega)
  have d2 : decide ((n : Int) ≤ 126) = decide (n ≤ 126) := decide_eq_decide.2 (by omega)
  have d3 : decide ((128 : Int) ≤ (n : Int)) = decide (128 ≤ n) := decide_eq_decide.2 (by omega)
  rcases Nat.lt_or_ge n 33 with h | h
  · rw [decide_eq_false (show ¬ 33 ≤ n by omega)] at d1 hx
    rw [decide_eq_true (show n ≤ 126 by omega)] at d2 hx
    rw [decide_eq_false (show ¬ 128 ≤ n by omega)] at d3 hx
    subst hx
    clear h
    go_enter Tryz.func41, Tryz.ntmps41
    go_wp2
    go_ret
    exact ⟨rfl, rfl⟩
  · rcases Nat.lt_or_ge 126 n with h2 | h2
    · rw [decide_eq_true h] at d1 hx
      rw [decide_eq_false (show ¬ n ≤ 126 by omega)] at d2 hx
      rcases Nat.lt_or_ge n 128 with h3 | h3
      · rw [decide_eq_false (show ¬ 128 ≤ n by omega)] at d3 hx
        subst hx
        clear h h2 h3
        go_enter Tryz.func41, Tryz.ntmps41
        go_wp2
        go_ret
        exact ⟨rfl, rfl⟩
      · rw [decide_eq_true h3] at d3 hx
        subst hx
        clear h h2 h3
        go_enter Tryz.func41, Tryz.ntmps41
        go_wp2
        go_ret
        exact ⟨rfl, rfl⟩
    · rw [decide_eq_true h] at d1 hx
      rw [decide_eq_true h2] at d2 hx
      have : x = true := by rw [hx]; rfl
      subst this
      clear h h2 hx d3
      go_enter Tryz.func41, Tryz.ntmps41
      go_wp2
      go_ret
      exact ⟨rfl, rfl⟩
set_option maxHeartbeats 1000000 in
set_option maxRecDepth 100000 in
theorem isText_any (b : UInt8) (w : World) : Calls Tryz.prog 40 #[.int .u8 (b.toNat : Int)] w fun e w' => e = .returned (.bool (Lex.fineB b)) ∧ w = w' := by
  have K1 := isBlank_any b w
  have K2 := isPrinted_any b w
  unfold Lex.blankB at K1
  unfold Lex.fineB Lex.fineN
  generalize Lex.blankN b.toNat = x at K1 ⊢
  generalize Lex.printN b.toNat = y at K2 ⊢
  generalize (b.toNat : Int) = n at K1 K2 ⊢
  cases x
  · go_enter Tryz.func40, Tryz.ntmps40
    go_wp2_with (first | (go_at_call 42; with_reducible refine K1.mono ?_; rintro e w1 ⟨rfl, rfl⟩) | (go_at_call 41; with_reducible refine K2.mono ?_; rintro e w1 ⟨rfl, rfl⟩))
    go_ret
    exact ⟨rfl, rfl⟩
  · go_enter Tryz.func40, Tryz.ntmps40
    go_wp2_with (first | (go_at_call 42; with_reducible refine K1.mono ?_; rintro e w1 ⟨rfl, rfl⟩))
    go_ret
    exact ⟨rfl, rfl⟩
namespace Lex
def atomL : List UInt8 := [33, 35, 36, 37, 38, 39, 42, 43, 45, 47, 61, 63, 94, 95, 96, 123, 124, 125, 126]
def signL : List UInt8 := [60, 62, 58, 59, 64, 44, 46]
theorem atomL_is (c : UInt8) : atomL.contains c = [33, 35, 36, 37, 38, 39, 42, 43, 45, 47, 61, 63, 94, 95, 96, 123, 124, 125, 126].contains c.toNat := by
  have h := bytes_all (p := fun c => atomL.contains c == [33, 35, 36, 37, 38, 39, 42, 43, 45, 47, 61, 63, 94, 95, 96, 123, 124, 125, 126].contains c.toNat) (by decide +kernel) c
  simpa using h
theorem signL_is (c : UInt8) : signL.contains c = signN c.toNat := by
  have h := bytes_all (p := fun c => signL.contains c == signN c.toNat) (by decide +kernel) c
  simpa using h
end Lex
set_option maxHeartbeats 4000000 in
set_option maxRecDepth 100000 in
theorem isAtom_any (b : UInt8) (w : World) : Calls Tryz.prog 32 #[.int .u8 (b.toNat : Int)] w fun e w' => e = .returned (.bool (Lex.atomB b)) ∧ w = w' := by
  have hb := lt256 b
  have K := indexByte_any ⟨#[33, 35, 36, 37, 38, 39, 42, 43, 45, 47, 61, 63, 94, 95, 96, 123, 124, 125, 126]⟩ b w
  have hi := Lex.indexByte_in Lex.atomL b
  rw [Lex.atomL_is] at hi
  rw [show (ByteArray.mk #[33, 35, 36, 37, 38, 39, 42, 43, 45, 47, 61, 63, 94, 95, 96, 123, 124, 125, 126]).data.toList = Lex.atomL from rfl] at K
  unfold Lex.atomB Lex.atomN
  generalize Lib.indexByte Lex.atomL b = i at K hi
  generalize b.toNat = n at hb K hi ⊢
  generalize [33, 35, 36, 37, 38, 39, 42, 43, 45, 47, 61, 63, 94, 95, 96, 123, 124, 125, 126].contains n = z at hi ⊢
  obtain ⟨x, hx⟩ : ∃ x, x = (decide (128 ≤ n) || decide (97 ≤ n) && decide (n ≤ 122) || decide (65 ≤ n) && decide (n ≤ 90) || decide (48 ≤ n) && decide (n ≤ 57) || z) := ⟨_, rfl⟩
  rw [← hx]
  have e1 : decide ((97 : Int) ≤ (n : Int)) = decide (97 ≤ n) := decide_eq_decide.2 (by omega)
  have e2 : decide ((n : Int) ≤ 122) = decide (n ≤ 122) := decide_eq_decide.2 (by omega)
  have e3 : decide ((65 : Int) ≤ (n : Int)) = decide (65 ≤ n) := decide_eq_decide.2 (by omega)
  have e4 : decide ((n : Int) ≤ 90) = decide (n ≤ 90) := decide_eq_decide.2 (by omega)
  have e5 : decide ((48 : Int) ≤ (n : Int)) = decide (48 ≤ n) := decide_eq_decide.2 (by omega)
  have e6 : decide ((n : Int) ≤ 57) = decide (n ≤ 57) := decide_eq_decide.2 (by omega)
  have e7 : decide ((128 : Int) ≤ (n : Int)) = decide (128 ≤ n) := decide_eq_decide.2 (by omega)
  have K := Lib.hid K
  cases d1 : decide (97 ≤ n) <;> cases d2 : decide (n ≤ 122) <;> cases d3 : decide (65 ≤ n) <;> cases d4 : decide (n ≤ 90) <;> cases d5 : decide (48 ≤ n) <;> cases d6 : decide (n ≤ 57) <;> cases d7 : decide (128 ≤ n) <;>
    (try (exfalso; clear e1 e2 e3 e4 e5 e6 e7 hx K hi; simp only [decide_eq_true_eq, decide_eq_false_iff_not] at d1 d2 d3 d4 d5 d6 d7; omega))
  all_goals
    rw [d1] at e1
    rw [d2] at e2
    rw [d3] at e3
    rw [d4] at e4
    rw [d5] at e5
    rw [d6] at e6
    rw [d7] at e7
    rw [d1, d2, d3, d4, d5, d6, d7] at hx
    clear d1 d2 d3 d4 d5 d6 d7 hb
    subst hx
  all_goals
    go_enter Tryz.func32, Tryz.ntmps32
    go_wp2_with (go_at_call 38; with_reducible refine K.out.mono ?_; rintro e w1 ⟨rfl, rfl⟩)
    go_ret
    exact ⟨rfl, rfl⟩
end Go.Proofs.YtmcjgdajnppbhaaGreatDoor
