/-
  Proved here: 'Right' and 'Len' of package utf, and of the document's own answer, tell whether a number is a character, and how many bytes it has. Conditions: none.
  Proved here, plainly: what the bytes behind a first one add to its bits, and that so a character is told, or none. Conditions: none.
  Proved here: 'put' of package utf lays the bytes of a character behind bytes that the caller owns. Conditions: the number is a character, there are not too many bytes.
  Proved here: 'String' of package utf writes all characters of a slice, or nothing if one is none. Conditions: the slice can be read, and holds at most 20,000 numbers.
  Proved here: the document's own 'bytes' and 'String': the bytes of a character, and of all characters of a slice, or nothing if one is none. Conditions: the slice can be read, and holds at most 20,000 numbers.
  Proved here: 'Eight' of package utf, and of the document's own answer, is the place of the first byte that is 80 or more; 'Same' of the document's own answer tells whether two slices read alike. Conditions: the slices can be read.
  Proved here: 'Runes' of package utf reads the characters that bytes begin with, and tells the place behind them, or -1 at the end. Conditions: the string has at most 100,000 bytes.
-/
import Derived.Test.YtmbammhkkcnoaaaGreatProg
import Derived.Test.YtmbammhkkcnoaaaGreatUtfPlain
import Derived.WalkKit
import Derived.WalkSpells
import Derived.WalkLawsBesides
import Derived.Lib.Hide
import Derived.Test.YtmbammhkkcnoaaaGreatUtfRow
import Derived.Laws.BytesArg
import Derived.Deep.LoopGhost
import Derived.Deep.QuietTactic
import Derived.BigQuiet
namespace Go.Proofs.YtmbammhkkcnoaaaGreat
open Go.RowKit
namespace Utf
/-- The same of a number of Go's. -/
def rightZ (r : Int) : Bool := decide (0 ≤ r) && right r.toNat
def lenZ (r : Int) : Nat := if rightZ r then lenOf r.toNat else 0
theorem rightZ_iff (r : Int) : rightZ r = true ↔ 0 ≤ r ∧ r ≤ 1114111 ∧ (r < 55296 ∨ 57343 < r) := by
  unfold rightZ
  rw [Bool.and_eq_true, right_iff, decide_eq_true_eq]
  omega
theorem rightZ_no {r : Int} (h : ¬ (0 ≤ r ∧ r ≤ 1114111 ∧ (r < 55296 ∨ 57343 < r))) : rightZ r = false := by
  cases e : rightZ r with
  | false => rfl
  | true => exact absurd ((rightZ_iff r).1 e) h
end Utf
open Utf
set_option maxHeartbeats 400000 in
theorem right_any (r : Int) (w : World) : Calls Tryz.prog 75 #[.int .i32 r] w fun e w' => e = .returned (.bool (rightZ r)) ∧ w = w' := by
  rcases (show r < 0 ∨ (0 ≤ r ∧ r < 55296) ∨ (55296 ≤ r ∧ r ≤ 57343) ∨ (57343 < r ∧ r ≤ 1114111) ∨ 1114111 < r by omega) with h | ⟨h1, h2⟩ | ⟨h1, h2⟩ | ⟨h1, h2⟩ | h
  · rw [rightZ_no (by omega)]
    go_enter Tryz.func75, Tryz.ntmps75
    go_wp2
    go_ret
    exact ⟨rfl, rfl⟩
  · rw [(rightZ_iff r).2 (by omega)]
    have h3 : r ≤ 1114111 := by omega
    go_enter Tryz.func75, Tryz.ntmps75
    go_wp2
    go_ret
    exact ⟨rfl, rfl⟩
  · rw [rightZ_no (by omega)]
    have h3 : r ≤ 1114111 := by omega
    have h4 : 0 ≤ r := by omega
    have e1 : decide (r < 55296) = false := by simp; omega
    have e2 : decide (57343 < r) = false := by simp; omega
    go_enter Tryz.func75, Tryz.ntmps75
    go_wp2
    go_ret
    exact ⟨rfl, rfl⟩
  · rw [(rightZ_iff r).2 (by omega)]
    have h4 : 0 ≤ r := by omega
    go_enter Tryz.func75, Tryz.ntmps75
    go_wp2
    go_ret
    exact ⟨rfl, rfl⟩
  · rw [rightZ_no (by omega)]
    have h4 : 0 ≤ r := by omega
    go_enter Tryz.func75, Tryz.ntmps75
    go_wp2
    go_ret
    exact ⟨rfl, rfl⟩
set_option maxHeartbeats 400000 in
theorem refRight_any (r : Int) (w : World) : Calls Tryz.prog 96 #[.int .i32 r] w fun e w' => e = .returned (.bool (rightZ r)) ∧ w = w' := by
  rcases (show r < 0 ∨ (0 ≤ r ∧ r < 55296) ∨ (55296 ≤ r ∧ r ≤ 57343) ∨ (57343 < r ∧ r ≤ 1114111) ∨ 1114111 < r by omega) with h | ⟨h1, h2⟩ | ⟨h1, h2⟩ | ⟨h1, h2⟩ | h
  · rw [rightZ_no (by omega)]
    go_enter Tryz.func96, Tryz.ntmps96
    go_wp2
    go_ret
    exact ⟨rfl, rfl⟩
  · rw [(rightZ_iff r).2 (by omega)]
    have h3 : r ≤ 1114111 := by omega
    go_enter Tryz.func96, Tryz.ntmps96
    go_wp2
    go_ret
    exact ⟨rfl, rfl⟩
  · rw [rightZ_no (by omega)]
    have h3 : r ≤ 1114111 := by omega
    have h4 : 0 ≤ r := by omega
    have e1 : decide (r < 55296) = false := by simp; omega
    have e2 : decide (57343 < r) = false := by simp; omega
    go_enter Tryz.func96, Tryz.ntmps96
    go_wp2
    go_ret
    exact ⟨rfl, rfl⟩
  · rw [(rightZ_iff r).2 (by omega)]
    have h4 : 0 ≤ r := by omega
    go_enter Tryz.func96, Tryz.ntmps96
    go_wp2
    go_ret
    exact ⟨rfl, rfl⟩
  · rw [rightZ_no (by omega)]
    have h4 : 0 ≤ r := by omega
    go_enter Tryz.func96, Tryz.ntmps96
    go_wp2
    go_ret
    exact ⟨rfl, rfl⟩
set_option maxHeartbeats 400000 in
theorem len_any (r : Int) (w : World) : Calls Tryz.prog 50 #[.int .i32 r] w fun e w' => e = .returned (.int .i64 (lenZ r : Nat)) ∧ w = w' := by
  have hr := right_any r w
  unfold lenZ
  cases hz : rightZ r with
  | false =>
    rw [hz] at hr
    clear hz
    go_enter Tryz.func50, Tryz.ntmps50
    go_wp2_with fail
    refine hr.mono ?_
    rintro e w' ⟨rfl, rfl⟩
    clear hr
    go_wp2
    go_ret
    exact ⟨rfl, rfl⟩
  | true =>
    have hb := (rightZ_iff r).1 hz
    rw [hz] at hr
    clear hz
    obtain ⟨h1, h2, h3⟩ := hb
    clear h3
    rw [if_pos rfl]
    unfold lenOf
    rcases (show r < 128 ∨ (128 ≤ r ∧ r ≤ 2047) ∨ (2047 < r ∧ r ≤ 65535) ∨ 65535 < r by omega) with h | ⟨h4, h5⟩ | ⟨h4, h5⟩ | h
    · rw [if_pos (by omega)]
      go_enter Tryz.func50, Tryz.ntmps50
      go_wp2_with fail
      refine hr.mono ?_
      rintro e w' ⟨rfl, rfl⟩
      clear hr
      go_wp2
      go_ret
      exact ⟨rfl, rfl⟩
    · rw [if_neg (by omega), if_pos (by omega)]
      go_enter Tryz.func50, Tryz.ntmps50
      go_wp2_with fail
      refine hr.mono ?_
      rintro e w' ⟨rfl, rfl⟩
      clear hr
      go_wp2
      go_ret
      exact ⟨rfl, rfl⟩
    · rw [if_neg (by omega), if_neg (by omega), if_pos (by omega)]
      have h6 : 128 ≤ r := by omega
      go_enter Tryz.func50, Tryz.ntmps50
      go_wp2_with fail
      refine hr.mono ?_
      rintro e w' ⟨rfl, rfl⟩
      clear hr
      go_wp2
      go_ret
      exact ⟨rfl, rfl⟩
    · rw [if_neg (by omega), if_neg (by omega), if_neg (by omega)]
      have h6 : 128 ≤ r := by omega
      have h7 : 2047 < r := by omega
      go_enter Tryz.func50, Tryz.ntmps50
      go_wp2_with fail
      refine hr.mono ?_
      rintro e w' ⟨rfl, rfl⟩
      clear hr
      go_wp2
      go_ret
      exact ⟨rfl, rfl⟩
set_option maxHeartbeats 400000 in
theorem refLen_any (r : Int) (w : World) : Calls Tryz.prog 102 #[.int .i32 r] w fun e w' => e = .returned (.int .i64 (lenZ r : Nat)) ∧ w = w' := by
  have hr := refRight_any r w
  unfold lenZ
  cases hz : rightZ r with
  | false =>
    rw [hz] at hr
    clear hz
    go_enter Tryz.func102, Tryz.ntmps102
    go_wp2_with fail
    refine hr.mono ?_
    rintro e w' ⟨rfl, rfl⟩
    clear hr
    go_wp2
    go_ret
    exact ⟨rfl, rfl⟩
  | true =>
    have hb := (rightZ_iff r).1 hz
    rw [hz] at hr
    clear hz
    obtain ⟨h1, h2, h3⟩ := hb
    clear h3
    rw [if_pos rfl]
    unfold lenOf
    rcases (show r < 128 ∨ (128 ≤ r ∧ r ≤ 2047) ∨ (2047 < r ∧ r ≤ 65535) ∨ 65535 < r by omega) with h | ⟨h4, h5⟩ | ⟨h4, h5⟩ | h
    · rw [if_pos (by omega)]
      go_enter Tryz.func102, Tryz.ntmps102
      go_wp2_with fail
      refine hr.mono ?_
      rintro e w' ⟨rfl, rfl⟩
      clear hr
      go_wp2
      go_ret
      exact ⟨rfl, rfl⟩
    · rw [if_neg (by omega), if_pos (by omega)]
      go_enter Tryz.func102, Tryz.ntmps102
      go_wp2_with fail
      refine hr.mono ?_
      rintro e w' ⟨rfl, rfl⟩
      clear hr
      go_wp2
      go_ret
      exact ⟨rfl, rfl⟩
    · rw [if_neg (by omega), if_neg (by omega), if_pos (by omega)]
      have h6 : 128 ≤ r := by omega
      go_enter Tryz.func102, Tryz.ntmps102
      go_wp2_with fail
      refine hr.mono ?_
      rintro e w' ⟨rfl, rfl⟩
      clear hr
      go_wp2
      go_ret
      exact ⟨rfl, rfl⟩
    · rw [if_neg (by omega), if_neg (by omega), if_neg (by omega)]
      have h6 : 128 ≤ r := by omega
      have h7 : 2047 < r := by omega
      go_enter Tryz.func102, Tryz.ntmps102
      go_wp2_with fail
      refine hr.mono ?_
      rintro e w' ⟨rfl, rfl⟩
      clear hr
      go_wp2
      go_ret
      exact ⟨rfl, rfl⟩
theorem ret_one {k : IntKind} {a b : Int} (h : a = b) : Ending.returned (.int k a) = .returned (.int k b) := by rw [h]
theorem ret_two {k : IntKind} {a b : Int} {x : Value} (h : a = b) : Ending.returned (.tuple #[.int k a, x]) = .returned (.tuple #[.int k b, x]) := by rw [h]
/-- The bits that a first byte holds, and how many bytes it asks for. -/
def Utf.headOf (n : Nat) : Int × Nat :=
  if n < 128 then (n, 1) else if n < 192 then (0, 0) else if n < 224 then ((n % 32 : Nat), 2) else if n < 240 then ((n % 16 : Nat), 3) else if n < 248 then ((n % 8 : Nat), 4) else (0, 0)
set_option maxHeartbeats 400000 in
set_option maxRecDepth 100000 in
theorem head_any (n : Nat) (hn : n < 256) (w : World) : Calls Tryz.prog 49 #[.int .u8 n] w fun e w' => e = .returned (.tuple #[.int .i32 (headOf n).1, .int .i64 (headOf n).2]) ∧ w = w' := by
  unfold headOf
  rcases (show n < 128 ∨ (128 ≤ n ∧ n < 192) ∨ (192 ≤ n ∧ n < 224) ∨ (224 ≤ n ∧ n < 240) ∨ (240 ≤ n ∧ n < 248) ∨ 248 ≤ n by omega) with h | ⟨h4, h5⟩ | ⟨h4, h5⟩ | ⟨h4, h5⟩ | ⟨h4, h5⟩ | h
  · rw [if_pos (by omega)]
    go_enter Tryz.func49, Tryz.ntmps49
    go_wp2
    go_ret2
    exact ⟨rfl, rfl⟩
  · rw [if_neg (by omega), if_pos (by omega)]
    go_enter Tryz.func49, Tryz.ntmps49
    go_wp2
    go_ret2
    exact ⟨rfl, rfl⟩
  · rw [if_neg (by omega), if_neg (by omega), if_pos (by omega)]
    go_enter Tryz.func49, Tryz.ntmps49
    go_wp2
    go_ret2
    exact ⟨ret_two (by omega), rfl⟩
  · rw [if_neg (by omega), if_neg (by omega), if_neg (by omega), if_pos (by omega)]
    go_enter Tryz.func49, Tryz.ntmps49
    go_wp2
    go_ret2
    exact ⟨ret_two (by omega), rfl⟩
  · rw [if_neg (by omega), if_neg (by omega), if_neg (by omega), if_neg (by omega), if_pos (by omega)]
    go_enter Tryz.func49, Tryz.ntmps49
    go_wp2
    go_ret2
    exact ⟨ret_two (by omega), rfl⟩
  · rw [if_neg (by omega), if_neg (by omega), if_neg (by omega), if_neg (by omega), if_neg (by omega)]
    go_enter Tryz.func49, Tryz.ntmps49
    go_wp2
    go_ret2
    exact ⟨rfl, rfl⟩
set_option maxHeartbeats 400000 in
theorem tail_any (r : Int) (h0 : 0 ≤ r) (h1 : r < 2147483648) (w : World) : Calls Tryz.prog 123 #[.int .i32 r] w fun e w' => e = .returned (.int .u8 (128 + r % 64)) ∧ w = w' := by
  go_enter Tryz.func123, Tryz.ntmps123
  go_wp2
  go_ret
  refine ⟨ret_one ?_, rfl⟩
  have e : bits .and .i32 r 63 = r % 64 := bits_mask .i32 31 (by decide) wraps_i32 6 (by decide) r h0 h1
  rw [e, show r % 64 % 256 = r % 64 by omega, u8_or128 _ (by omega) (by omega)]
end Go.Proofs.YtmbammhkkcnoaaaGreat
namespace Go.Proofs.YtmbammhkkcnoaaaGreat
namespace Utf
/-- The bits of bytes that stand behind the first one. -/
def contVal : Int → List UInt8 → Option Int
  | acc, [] => some acc
  | acc, b :: t => if cont b then contVal (acc * 64 + ((b.toNat % 64 : Nat) : Int)) t else none
theorem cont_iff (b : UInt8) : cont b = true ↔ 128 ≤ b.toNat ∧ b.toNat < 192 := by
  unfold cont; simp
theorem lenZ_cast (r : Nat) : lenZ (r : Int) = if right r then lenOf r else 0 := by
  unfold lenZ rightZ
  simp
theorem lenOf_iff (r : Nat) : (lenOf r = 1 ↔ r < 128) ∧ (lenOf r = 2 ↔ 128 ≤ r ∧ r < 2048) ∧ (lenOf r = 3 ↔ 2048 ≤ r ∧ r < 65536) ∧ (lenOf r = 4 ↔ 65536 ≤ r) := by
  unfold lenOf
  split
  · omega
  · split
    · omega
    · split <;> omega
theorem lenZ_is (r n : Nat) (hn : 1 ≤ n) : lenZ (r : Int) = n ↔ right r = true ∧ lenOf r = n := by
  rw [lenZ_cast]
  cases right r with
  | false => simp; omega
  | true => simp
/-- What the program tells of bytes that begin with a. -/
def tellOf (a : UInt8) (t : List UInt8) : Option (Nat × Nat) :=
  if (headOf a.toNat).2 = 0 ∨ t.length + 1 < (headOf a.toNat).2 then none
  else match contVal (headOf a.toNat).1 (t.take ((headOf a.toNat).2 - 1)) with
    | none => none
    | some r => if lenZ r = (headOf a.toNat).2 then some (r.toNat, (headOf a.toNat).2) else none
theorem tellOf_eq (a : UInt8) (t : List UInt8) : tellOf a t = dec (a :: t) := by
  have ha := lt256 a
  unfold tellOf dec headOf
  by_cases h1 : a.toNat < 128
  · simp only [if_pos h1]
    have : lenZ (a.toNat : Int) = 1 := (lenZ_is a.toNat 1 (by omega)).2 ⟨(right_iff _).2 (by omega), (lenOf_iff _).1.2 h1⟩
    simp [contVal, this]
  simp only [if_neg h1]
  by_cases h2 : a.toNat < 192
  · simp only [if_pos h2, if_pos (show a.toNat < 194 by omega)]
    simp
  simp only [if_neg h2]
  by_cases h3 : a.toNat < 224
  · simp only [if_pos h3]
    match t with
    | [] =>
      simp
    | b :: t =>
      have hb := lt256 b
      simp only [List.length_cons, List.take_succ_cons, List.take_zero, contVal, Nat.reduceSub]
      rw [if_neg (by omega)]
      by_cases cb : cont b = true
      · have cb' := (cont_iff b).1 cb
        simp only [cb, if_true]
        have e : ((a.toNat % 32 : Nat) : Int) * 64 + ((b.toNat % 64 : Nat) : Int) = (((a.toNat - 192) * 64 + (b.toNat - 128) : Nat) : Int) := by omega
        rw [e, Int.toNat_natCast]
        by_cases h4 : a.toNat < 194
        · rw [if_pos h4, if_neg]
          intro h
          have := ((lenZ_is _ 2 (by omega)).1 h).2
          have := (lenOf_iff ((a.toNat - 192) * 64 + (b.toNat - 128))).2.1.1 this
          omega
        · rw [if_neg h4, if_pos]
          exact (lenZ_is _ 2 (by omega)).2 ⟨(right_iff _).2 (by omega), (lenOf_iff _).2.1.2 (by omega)⟩
      · simp only [cb]
        simp
  simp only [if_neg h3]
  rw [if_neg (show ¬ a.toNat < 194 by omega)]
  by_cases h4 : a.toNat < 240
  · simp only [if_pos h4]
    match t with
    | [] => simp
    | [_] => simp
    | b :: c :: t =>
      have hb := lt256 b
      have hc := lt256 c
      simp only [List.length_cons, List.take_succ_cons, List.take_zero, contVal, Nat.reduceSub]
      rw [if_neg (by omega)]
      by_cases cb : cont b = true
      · by_cases cc : cont c = true
        · have cb' := (cont_iff b).1 cb
          have cc' := (cont_iff c).1 cc
          simp only [cb, cc, if_true, Bool.true_and]
          have e : (((a.toNat % 16 : Nat) : Int) * 64 + ((b.toNat % 64 : Nat) : Int)) * 64 + ((c.toNat % 64 : Nat) : Int) = (((a.toNat - 224) * 4096 + (b.toNat - 128) * 64 + (c.toNat - 128) : Nat) : Int) := by omega
          rw [e, Int.toNat_natCast]
          have hi := lenOf_iff ((a.toNat - 224) * 4096 + (b.toNat - 128) * 64 + (c.toNat - 128))
          have hz := lenZ_is ((a.toNat - 224) * 4096 + (b.toNat - 128) * 64 + (c.toNat - 128)) 3 (by omega)
          generalize hr : (a.toNat - 224) * 4096 + (b.toNat - 128) * 64 + (c.toNat - 128) = r at hi hz ⊢
          by_cases hh : lenZ (r : Int) = 3
          · have h5 := hz.1 hh
            have h6 := hi.2.2.1.1 h5.2
            rw [if_pos hh, if_pos (by simp only [Bool.and_eq_true, decide_eq_true_eq]; exact ⟨h6.1, h5.1⟩)]
          · rw [if_neg hh, if_neg]
            simp only [Bool.and_eq_true, decide_eq_true_eq]
            rintro ⟨h5, h6⟩
            exact hh (hz.2 ⟨h6, hi.2.2.1.2 ⟨h5, by omega⟩⟩)
        · simp [cb, cc]
      · simp [cb]
  simp only [if_neg h4]
  by_cases h5 : a.toNat < 248
  · simp only [if_pos h5]
    match t with
    | [] => simp
    | [_] => simp
    | [_, _] => simp
    | b :: c :: d :: t =>
      have hb := lt256 b
      have hc := lt256 c
      have hd := lt256 d
      simp only [List.length_cons, List.take_succ_cons, List.take_zero, contVal, Nat.reduceSub]
      rw [if_neg (by omega)]
      by_cases cb : cont b = true
      · by_cases cc : cont c = true
        · by_cases cd : cont d = true
          · have cb' := (cont_iff b).1 cb
            have cc' := (cont_iff c).1 cc
            have cd' := (cont_iff d).1 cd
            simp only [cb, cc, cd, if_true, Bool.true_and]
            have e : ((((a.toNat % 8 : Nat) : Int) * 64 + ((b.toNat % 64 : Nat) : Int)) * 64 + ((c.toNat % 64 : Nat) : Int)) * 64 + ((d.toNat % 64 : Nat) : Int) = (((a.toNat - 240) * 262144 + (b.toNat - 128) * 4096 + (c.toNat - 128) * 64 + (d.toNat - 128) : Nat) : Int) := by omega
            rw [e, Int.toNat_natCast]
            have hi := lenOf_iff ((a.toNat - 240) * 262144 + (b.toNat - 128) * 4096 + (c.toNat - 128) * 64 + (d.toNat - 128))
            have hz := lenZ_is ((a.toNat - 240) * 262144 + (b.toNat - 128) * 4096 + (c.toNat - 128) * 64 + (d.toNat - 128)) 4 (by omega)
            generalize hr : (a.toNat - 240) * 262144 + (b.toNat - 128) * 4096 + (c.toNat - 128) * 64 + (d.toNat - 128) = r at hi hz ⊢
            by_cases hh : lenZ (r : Int) = 4
            · have h5 := hz.1 hh
              have h6 := hi.2.2.2.1 h5.2
              rw [if_pos hh, if_pos (by simp only [Bool.and_eq_true, decide_eq_true_eq]; exact ⟨h6, h5.1⟩)]
            · rw [if_neg hh, if_neg]
              simp only [Bool.and_eq_true, decide_eq_true_eq]
              rintro ⟨h5, h6⟩
              exact hh (hz.2 ⟨h6, hi.2.2.2.2 h5⟩)
          · simp [cb, cc, cd]
        · simp [cb, cc]
      · simp [cb]
  simp only [if_neg h5]
  simp
end Utf
end Go.Proofs.YtmbammhkkcnoaaaGreat
namespace Go.Proofs.YtmbammhkkcnoaaaGreat
open Go.RowKit Utf
theorem byteV_u {n : Nat} {z : Int} (h : n < 256) (e : z = n) : Value.int .u8 z = byteV (u n) := by
  unfold byteV
  rw [u_toNat h, e]
theorem enc1_cells {r : Int} (h0 : 0 ≤ r) (h : r < 128) : [Value.int .u8 r] = (enc r.toNat).map byteV := by
  unfold enc
  rw [if_pos (by omega), List.map_cons, List.map_nil, ← byteV_u (z := r) (by omega) (by omega)]
theorem enc2_cells {r : Int} (h0 : 128 ≤ r) (h : r ≤ 2047) : [Value.int .u8 (192 + r / 64), .int .u8 (128 + r % 64)] = (enc r.toNat).map byteV := by
  unfold enc
  rw [if_neg (by omega), if_pos (by omega), List.map_cons, List.map_cons, List.map_nil, ← byteV_u (z := 192 + r / 64) (by omega) (by omega), ← byteV_u (z := 128 + r % 64) (by omega) (by omega)]
theorem enc3_cells {r : Int} (h0 : 2047 < r) (h : r ≤ 65535) : [Value.int .u8 (224 + r / 4096), .int .u8 (128 + r / 64 % 64), .int .u8 (128 + r % 64)] = (enc r.toNat).map byteV := by
  unfold enc
  rw [if_neg (by omega), if_neg (by omega), if_pos (by omega), List.map_cons, List.map_cons, List.map_cons, List.map_nil, ← byteV_u (z := 224 + r / 4096) (by omega) (by omega), ← byteV_u (z := 128 + r / 64 % 64) (by omega) (by omega), ← byteV_u (z := 128 + r % 64) (by omega) (by omega)]
theorem enc4_cells {r : Int} (h0 : 65535 < r) (h : r ≤ 1114111) : [Value.int .u8 (240 + r / 262144), .int .u8 (128 + r / 4096 % 64), .int .u8 (128 + r / 64 % 64), .int .u8 (128 + r % 64)] = (enc r.toNat).map byteV := by
  unfold enc
  rw [if_neg (by omega), if_neg (by omega), if_neg (by omega), List.map_cons, List.map_cons, List.map_cons, List.map_cons, List.map_nil, ← byteV_u (z := 240 + r / 262144) (by omega) (by omega), ← byteV_u (z := 128 + r / 4096 % 64) (by omega) (by omega), ← byteV_u (z := 128 + r / 64 % 64) (by omega) (by omega), ← byteV_u (z := 128 + r % 64) (by omega) (by omega)]
theorem enc_len1 {r : Int} (h0 : 0 ≤ r) (h : r < 128) : lenZ r = 1 ∧ (enc r.toNat).length = 1 := by
  rw [enc_length]; unfold lenZ lenOf
  rw [if_pos ((rightZ_iff r).2 (by omega)), if_pos (by omega)]; exact ⟨rfl, rfl⟩
theorem enc_len2 {r : Int} (h0 : 128 ≤ r) (h : r ≤ 2047) : lenZ r = 2 ∧ (enc r.toNat).length = 2 := by
  rw [enc_length]; unfold lenZ lenOf
  rw [if_pos ((rightZ_iff r).2 (by omega)), if_neg (by omega), if_pos (by omega)]; exact ⟨rfl, rfl⟩
theorem enc_len3 {r : Int} (h0 : 2047 < r) (h : r ≤ 65535) (hr : rightZ r = true) : lenZ r = 3 ∧ (enc r.toNat).length = 3 := by
  rw [enc_length]; unfold lenZ lenOf
  rw [if_pos hr, if_neg (by omega), if_neg (by omega), if_pos (by omega)]; exact ⟨rfl, rfl⟩
theorem enc_len4 {r : Int} (h0 : 65535 < r) (h : r ≤ 1114111) : lenZ r = 4 ∧ (enc r.toNat).length = 4 := by
  rw [enc_length]; unfold lenZ lenOf
  rw [if_pos ((rightZ_iff r).2 (by omega)), if_neg (by omega), if_neg (by omega), if_neg (by omega)]; exact ⟨rfl, rfl⟩
def PutPost (base : Nat) (bs : List UInt8) (r : Int) (w : World) (e : Ending) (w' : World) : Prop := ∃ v', e = .returned v' ∧ OwnB base v' (bs ++ enc r.toNat) w' ∧ Below base w w'
set_option maxHeartbeats 1000000 in
set_option maxRecDepth 100000 in
theorem put1 (base : Nat) (v : Value) (bs : List UInt8) (r : Int) (w : World) (h1 : 0 ≤ r) (h2 : r < 128) (hown : OwnB base v bs w) (hbase : base ≤ w.heap.size) (hlen : bs.length ≤ 100000) :
    Calls Tryz.prog 76 #[v, .int .i32 r] w (PutPost base bs r w) := by
  have hL := len_any r w
  rw [(enc_len1 h1 h2).1] at hL
  have HO := Lib.hid hown
  clear hown
  go_enter Tryz.func76, Tryz.ntmps76
  go_wp2_with (first
    | (go_at_call 50; refine hL.mono ?_; rintro e w' ⟨rfl, rfl⟩)
    | (go_at_call 123; refine (tail_any _ (by omega) (by omega) _).mono ?_; rintro e w' ⟨rfl, rfl⟩)
    | (at_builtin; refine append_cells w 45 5 (.int .u8 0) 1 Tryz.underlying45 info_u8 rfl (by omega) base v _ _ HO.out hbase (by omega) 1 (by omega) _ rfl rfl rfl _ _ rfl rfl rfl ?_; intro v' w1 ho hb))
  go_ret
  exact ⟨v', rfl, OwnB.more ho (enc1_cells h1 h2) (enc_len1 h1 h2).2.symm, hb⟩
set_option maxHeartbeats 1000000 in
set_option maxRecDepth 100000 in
theorem put2 (base : Nat) (v : Value) (bs : List UInt8) (r : Int) (w : World) (h1 : 128 ≤ r) (h2 : r ≤ 2047) (hown : OwnB base v bs w) (hbase : base ≤ w.heap.size) (hlen : bs.length ≤ 100000) :
    Calls Tryz.prog 76 #[v, .int .i32 r] w (PutPost base bs r w) := by
  have hL := len_any r w
  rw [(enc_len2 h1 h2).1] at hL
  have HO := Lib.hid hown
  clear hown
  go_enter Tryz.func76, Tryz.ntmps76
  go_wp2_with (first
    | (go_at_call 50; refine hL.mono ?_; rintro e w' ⟨rfl, rfl⟩)
    | (go_at_call 123; refine (tail_any _ (by omega) (by omega) _).mono ?_; rintro e w' ⟨rfl, rfl⟩)
    | (at_builtin; refine append_cells w 45 5 (.int .u8 0) 1 Tryz.underlying45 info_u8 rfl (by omega) base v _ _ HO.out hbase (by omega) 2 (by omega) _ rfl rfl rfl _ _ rfl rfl rfl ?_; intro v' w1 ho hb))
  go_ret
  exact ⟨v', rfl, OwnB.more ho (enc2_cells h1 h2) (enc_len2 h1 h2).2.symm, hb⟩
set_option maxHeartbeats 1000000 in
set_option maxRecDepth 100000 in
theorem put3 (base : Nat) (v : Value) (bs : List UInt8) (r : Int) (w : World) (h1 : 2047 < r) (h2 : r ≤ 65535) (hr : rightZ r = true) (hown : OwnB base v bs w) (hbase : base ≤ w.heap.size) (hlen : bs.length ≤ 100000) :
    Calls Tryz.prog 76 #[v, .int .i32 r] w (PutPost base bs r w) := by
  have hL := len_any r w
  rw [(enc_len3 h1 h2 hr).1] at hL
  have HO := Lib.hid hown
  clear hown
  go_enter Tryz.func76, Tryz.ntmps76
  go_wp2_with (first
    | (go_at_call 50; refine hL.mono ?_; rintro e w' ⟨rfl, rfl⟩)
    | (go_at_call 123; refine (tail_any _ (by omega) (by omega) _).mono ?_; rintro e w' ⟨rfl, rfl⟩)
    | (at_builtin; refine append_cells w 45 5 (.int .u8 0) 1 Tryz.underlying45 info_u8 rfl (by omega) base v _ _ HO.out hbase (by omega) 3 (by omega) _ rfl rfl rfl _ _ rfl rfl rfl ?_; intro v' w1 ho hb))
  go_ret
  exact ⟨v', rfl, OwnB.more ho (enc3_cells h1 h2) (enc_len3 h1 h2 hr).2.symm, hb⟩
set_option maxHeartbeats 1000000 in
set_option maxRecDepth 100000 in
theorem put4 (base : Nat) (v : Value) (bs : List UInt8) (r : Int) (w : World) (h1 : 65535 < r) (h2 : r ≤ 1114111) (hown : OwnB base v bs w) (hbase : base ≤ w.heap.size) (hlen : bs.length ≤ 100000) :
    Calls Tryz.prog 76 #[v, .int .i32 r] w (PutPost base bs r w) := by
  have hL := len_any r w
  rw [(enc_len4 h1 h2).1] at hL
  have HO := Lib.hid hown
  clear hown
  go_enter Tryz.func76, Tryz.ntmps76
  go_wp2_with (first
    | (go_at_call 50; refine hL.mono ?_; rintro e w' ⟨rfl, rfl⟩)
    | (go_at_call 123; refine (tail_any _ (by omega) (by omega) _).mono ?_; rintro e w' ⟨rfl, rfl⟩)
    | (at_builtin; refine append_cells w 45 5 (.int .u8 0) 1 Tryz.underlying45 info_u8 rfl (by omega) base v _ _ HO.out hbase (by omega) 4 (by omega) _ rfl rfl rfl _ _ rfl rfl rfl ?_; intro v' w1 ho hb))
  go_ret
  exact ⟨v', rfl, OwnB.more ho (enc4_cells h1 h2) (enc_len4 h1 h2).2.symm, hb⟩
theorem put_any (base : Nat) (v : Value) (bs : List UInt8) (r : Int) (w : World) (hr : rightZ r = true) (hown : OwnB base v bs w) (hbase : base ≤ w.heap.size) (hlen : bs.length ≤ 100000) :
    Calls Tryz.prog 76 #[v, .int .i32 r] w (PutPost base bs r w) := by
  have hb := (rightZ_iff r).1 hr
  rcases (show r < 128 ∨ (128 ≤ r ∧ r ≤ 2047) ∨ (2047 < r ∧ r ≤ 65535) ∨ 65535 < r by omega) with h | ⟨h4, h5⟩ | ⟨h4, h5⟩ | h
  · exact put1 base v bs r w hb.1 h hown hbase hlen
  · exact put2 base v bs r w h4 h5 hown hbase hlen
  · exact put3 base v bs r w h4 h5 hr hown hbase hlen
  · exact put4 base v bs r w h hb.2.1 hown hbase hlen
end Go.Proofs.YtmbammhkkcnoaaaGreat
namespace Go.Proofs.YtmbammhkkcnoaaaGreat
open Go.RowKit Utf
namespace Utf
def encZ (l : List Int) : List UInt8 := l.flatMap fun r => enc r.toNat
def rightsZ (l : List Int) : Bool := l.all rightZ
theorem encZ_snoc (l : List Int) (r : Int) : encZ (l ++ [r]) = encZ l ++ enc r.toNat := by simp [encZ]
theorem rightsZ_snoc (l : List Int) (r : Int) : rightsZ (l ++ [r]) = (rightsZ l && rightZ r) := by simp [rightsZ]
theorem encZ_len (l : List Int) : (encZ l).length ≤ 4 * l.length := by
  induction l with
  | nil => simp [encZ]
  | cons r l ih =>
    have := enc_le r.toNat
    simp only [encZ, List.flatMap_cons, List.length_append, List.length_cons] at ih ⊢
    omega
theorem take_next (l : List Int) (k : Nat) (h : k < l.length) : l.take (k + 1) = l.take k ++ [l[k]!] := by
  rw [List.take_succ_eq_append_getElem h, getElem!_pos l k h]
theorem rightsZ_take {l : List Int} {k : Nat} (h : k < l.length) (hr : rightZ l[k]! = false) : rightsZ l = false := by
  unfold rightsZ
  rw [List.all_eq_false]
  exact ⟨l[k]!, by rw [getElem!_pos l k h]; exact List.getElem_mem h, by rw [hr]; simp⟩
end Utf
def StrPost (l : List Int) (w : World) (e : Ending) (w' : World) : Prop :=
  e = .returned (if rightsZ l then .tuple #[.string ⟨(encZ l).toArray⟩, .bool true] else .tuple #[.string ⟨#[]⟩, .bool false]) ∧ Below w.heap.size w w'
set_option maxHeartbeats 2000000 in
set_option maxRecDepth 100000 in
theorem string_any (v : Value) (l : List Int) (w : World) (hl : Runes v l w) (hn : l.length ≤ 20000) : Calls Tryz.prog 42 #[v] w (StrPost l w) := by
  obtain ⟨A, c, rfl, hc, hcell⟩ := hl.form
  have HC := Lib.hid hcell
  clear hl hcell
  go_enter Tryz.func42, Tryz.ntmps42
  go_wp2
  refine wp_ahead 0 rfl ?_
  go_wp2
  go_loopg [4, 9] (l.length + 1) (fun gk v i wr => ∃ k : Nat, k ≤ l.length ∧ i = .int .i64 k ∧ l.length - k < gk ∧ Hid (rightsZ (l.take k) = true ∧ OwnB w.heap.size v (encZ (l.take k)) wr ∧ Below w.heap.size w wr))
  case atStart => exact ⟨0, Nat.zero_le _, rfl, by omega, ⟨rfl, OwnB.nil _ _, Below.refl _ _⟩⟩
  case round =>
    obtain ⟨k, hk, rfl, hg, I⟩ := hrel
    by_cases hlt : k < l.length
    · obtain ⟨ad, rfl, hb, hx⟩ := HC.out k hlt
      have hx' := (I.out.2.2.cell (by rw [add_block]; exact hb)).trans hx
      obtain ⟨x, hxe⟩ : ∃ x, x = l[k]! := ⟨_, rfl⟩
      rw [← hxe] at hx'
      have HX := Lib.hid hxe
      have hR := right_any x wr
      clear hx hb hxe
      cases hr : rightZ x with
      | false =>
        rw [hr] at hR
        have HR := Lib.hid hr
        clear hr
        go_wp2_with (go_at_call 75; ((with_reducible refine hR.mono ?_); rintro e w' ⟨rfl, rfl⟩))
        go_step3
        refine ⟨rfl, ?_⟩
        go_wp2
        rw [Exit.noGoto_ret]
        go_ret2
        exact ⟨by rw [rightsZ_take hlt (by rw [← HX.out]; exact HR.out)]; rfl, I.out.2.2⟩
      | true =>
        rw [hr] at hR
        have HR := Lib.hid hr
        clear hr
        go_wp2_with (go_at_call 75; ((with_reducible refine hR.mono ?_); rintro e w' ⟨rfl, rfl⟩))
        refine (put_any w.heap.size u4 _ x wr HR.out I.out.2.1 I.out.2.2.size (by have := encZ_len (l.take k); rw [List.length_take] at this; omega)).mono ?_
        rintro e w2 ⟨v2, rfl, ho2, hb2⟩
        have I2 : Hid (rightsZ (l.take (k + 1)) = true ∧ OwnB w.heap.size v2 (encZ (l.take (k + 1))) w2 ∧ Below w.heap.size w w2) := by
          refine ⟨?_, ?_, I.out.2.2.trans hb2⟩
          · rw [take_next l k hlt, rightsZ_snoc, ← HX.out, I.out.1, HR.out]; rfl
          · rw [take_next l k hlt, encZ_snoc, ← HX.out]; exact ho2
        clear hR ho2 hb2 hx' I HX
        go_wp2
        go_roundg (l.length - k)
        case measure => omega
        case rel => exact ⟨k + 1, by omega, by go_num, by omega, I2⟩
    · obtain rfl : k = l.length := by omega
      have hconv := string_of I.out.2.1.bytes
      go_wp2
      go_ret2
      refine ⟨?_, I.out.2.2⟩
      have hr := I.out.1
      rw [List.take_length] at hr
      rw [hr]
      rfl
end Go.Proofs.YtmbammhkkcnoaaaGreat
namespace Go.Proofs.YtmbammhkkcnoaaaGreat
open Go.RowKit Utf
def BytesPost (r : Int) (w : World) (e : Ending) (w' : World) : Prop := ∃ v', e = .returned v' ∧ Bytes v' (enc r.toNat) w' ∧ Below w.heap.size w w'
theorem bytes_lit (w : World) (cells : List Value) (bs : List UInt8) (h : cells = bs.map byteV) (m : Nat) (hm : m = bs.length) : Bytes (.slice (some ⟨w.heap.size, 0, none⟩) m m) bs (w.alloc (.cells cells.toArray 5)) := by
  subst h hm
  refine ⟨some ⟨w.heap.size, 0, none⟩, bs.length, by rw [List.length_map], by rw [List.length_map]; exact Nat.le_refl _, fun h => (by cases h), fun _ => ⟨_, rfl, by simp, fun j u hu => ?_⟩⟩
  have e : (⟨w.heap.size, 0, none⟩ : Addr).add j = ⟨w.heap.size, j, none⟩ := by unfold Addr.add; split <;> simp_all
  rw [e, World.cell?_alloc_at _ _ _ _ (by simp), ← hu]
  simp
set_option maxHeartbeats 1000000 in
set_option maxRecDepth 100000 in
theorem refBytes1 (r : Int) (w : World) (h1 : 0 ≤ r) (h2 : r < 128) : Calls Tryz.prog 97 #[.int .i32 r] w (BytesPost r w) := by
  have hL := refLen_any r w
  rw [(enc_len1 h1 h2).1] at hL
  go_enter Tryz.func97, Tryz.ntmps97
  go_wp2_with (go_at_call 102; refine hL.mono ?_; rintro e w' ⟨rfl, rfl⟩)
  go_ret
  exact ⟨_, rfl, bytes_lit _ _ _ (enc1_cells h1 h2) _ (enc_len1 h1 h2).2.symm, below_one _ _⟩
set_option maxHeartbeats 1000000 in
set_option maxRecDepth 100000 in
theorem refBytes2 (r : Int) (w : World) (h1 : 128 ≤ r) (h2 : r ≤ 2047) : Calls Tryz.prog 97 #[.int .i32 r] w (BytesPost r w) := by
  have hL := refLen_any r w
  rw [(enc_len2 h1 h2).1] at hL
  go_enter Tryz.func97, Tryz.ntmps97
  go_wp2_with (go_at_call 102; refine hL.mono ?_; rintro e w' ⟨rfl, rfl⟩)
  go_ret
  exact ⟨_, rfl, bytes_lit _ _ _ (enc2_cells h1 h2) _ (enc_len2 h1 h2).2.symm, below_one _ _⟩
set_option maxHeartbeats 1000000 in
set_option maxRecDepth 100000 in
theorem refBytes3 (r : Int) (w : World) (h1 : 2047 < r) (h2 : r ≤ 65535) (hr : rightZ r = true) : Calls Tryz.prog 97 #[.int .i32 r] w (BytesPost r w) := by
  have hL := refLen_any r w
  rw [(enc_len3 h1 h2 hr).1] at hL
  go_enter Tryz.func97, Tryz.ntmps97
  go_wp2_with (go_at_call 102; refine hL.mono ?_; rintro e w' ⟨rfl, rfl⟩)
  go_ret
  exact ⟨_, rfl, bytes_lit _ _ _ (enc3_cells h1 h2) _ (enc_len3 h1 h2 hr).2.symm, below_one _ _⟩
set_option maxHeartbeats 1000000 in
set_option maxRecDepth 100000 in
theorem refBytes4 (r : Int) (w : World) (h1 : 65535 < r) (h2 : r ≤ 1114111) : Calls Tryz.prog 97 #[.int .i32 r] w (BytesPost r w) := by
  have hL := refLen_any r w
  rw [(enc_len4 h1 h2).1] at hL
  go_enter Tryz.func97, Tryz.ntmps97
  go_wp2_with (go_at_call 102; refine hL.mono ?_; rintro e w' ⟨rfl, rfl⟩)
  go_ret
  exact ⟨_, rfl, bytes_lit _ _ _ (enc4_cells h1 h2) _ (enc_len4 h1 h2).2.symm, below_one _ _⟩
theorem refBytes_any (r : Int) (w : World) (hr : rightZ r = true) : Calls Tryz.prog 97 #[.int .i32 r] w (BytesPost r w) := by
  have hb := (rightZ_iff r).1 hr
  rcases (show r < 128 ∨ (128 ≤ r ∧ r ≤ 2047) ∨ (2047 < r ∧ r ≤ 65535) ∨ 65535 < r by omega) with h | ⟨h4, h5⟩ | ⟨h4, h5⟩ | h
  · exact refBytes1 r w hb.1 h
  · exact refBytes2 r w h4 h5
  · exact refBytes3 r w h4 h5 hr
  · exact refBytes4 r w h hb.2.1
set_option maxHeartbeats 2000000 in
set_option maxRecDepth 100000 in
theorem refString_any (v : Value) (l : List Int) (w : World) (hl : Runes v l w) (hn : l.length ≤ 20000) : Calls Tryz.prog 58 #[v] w (StrPost l w) := by
  obtain ⟨A, c, rfl, hc, hcell⟩ := hl.form
  have HC := Lib.hid hcell
  clear hl hcell
  go_enter Tryz.func58, Tryz.ntmps58
  go_wp2
  go_loopg [4, 5] (l.length + 1) (fun gk v i wr => ∃ k : Nat, k ≤ l.length ∧ i = .int .i64 k ∧ l.length - k < gk ∧ Hid (rightsZ (l.take k) = true ∧ OwnB w.heap.size v (encZ (l.take k)) wr ∧ Below w.heap.size w wr))
  case atStart => exact ⟨0, Nat.zero_le _, rfl, by omega, ⟨rfl, OwnB.nil _ _, Below.refl _ _⟩⟩
  case round =>
    obtain ⟨k, hk, rfl, hg, I⟩ := hrel
    by_cases hlt : k < l.length
    · obtain ⟨ad, rfl, hb, hx⟩ := HC.out k hlt
      have hx' := (I.out.2.2.cell (by rw [add_block]; exact hb)).trans hx
      obtain ⟨x, hxe⟩ : ∃ x, x = l[k]! := ⟨_, rfl⟩
      rw [← hxe] at hx'
      have HX := Lib.hid hxe
      have hR := refRight_any x wr
      clear hx hb hxe
      cases hr : rightZ x with
      | false =>
        rw [hr] at hR
        have HR := Lib.hid hr
        clear hr
        go_wp2_with (go_at_call 96; ((with_reducible refine hR.mono ?_); rintro e w' ⟨rfl, rfl⟩))
        go_ret2
        exact ⟨by rw [rightsZ_take hlt (by rw [← HX.out]; exact HR.out)]; rfl, I.out.2.2⟩
      | true =>
        rw [hr] at hR
        have HR := Lib.hid hr
        have hB := refBytes_any x wr hr
        clear hr
        have hle : (encZ (l.take k)).length ≤ 100000 := by have := encZ_len (l.take k); rw [List.length_take] at this; omega
        go_wp2_with (first
          | (go_at_call 96; ((with_reducible refine hR.mono ?_); rintro e w' ⟨rfl, rfl⟩))
          | (go_at_call 97; ((with_reducible refine hB.mono ?_); rintro e w2 ⟨v2, rfl, hs2, hb2⟩; have HS := Lib.hid hs2; have HB := Lib.hid hb2; clear hs2 hb2))
          | (at_builtin; refine append_row w2 45 5 (.int .u8 0) 1 Tryz.underlying45 info_u8 rfl (by omega) w.heap.size u4 _ _ (I.out.2.1.keep HB.out) (Nat.le_trans I.out.2.2.size HB.out.size) (by omega) v2 _ HS.out (one_bytes _) (by rw [List.length_map]; have := enc_le x.toNat; omega) rfl _ _ rfl rfl rfl ?_; intro v3 w3 ho3 hb3; have HO := Lib.hid ho3; have HB3 := Lib.hid hb3; clear ho3 hb3))
        have I2 : Hid (rightsZ (l.take (k + 1)) = true ∧ OwnB w.heap.size v3 (encZ (l.take (k + 1))) w3 ∧ Below w.heap.size w w3) := by
          refine ⟨?_, ?_, (I.out.2.2.trans (HB.out.mono I.out.2.2.size)).trans HB3.out⟩
          · rw [take_next l k hlt, rightsZ_snoc, ← HX.out, I.out.1, HR.out]; rfl
          · rw [take_next l k hlt, encZ_snoc, ← HX.out]; exact OwnB.more HO.out rfl (by rw [List.length_map])
        go_roundg (l.length - k)
        case measure => omega
        case rel => exact ⟨k + 1, by omega, by go_num, by omega, I2⟩
    · obtain rfl : k = l.length := by omega
      have hconv := string_of I.out.2.1.bytes
      go_wp2
      go_ret2
      refine ⟨?_, I.out.2.2⟩
      have hr := I.out.1
      rw [List.take_length] at hr
      rw [hr]
      rfl
end Go.Proofs.YtmbammhkkcnoaaaGreat
namespace Go.Proofs.YtmbammhkkcnoaaaGreat
open Go.RowKit Utf
namespace Utf
def eightFrom : List UInt8 → Nat → Int
  | [], _ => -1
  | b :: t, k => if b.toNat < 128 then eightFrom t (k + 1) else k
/-- The place of the first byte that is 80 or more; -1, if there is none. -/
def eightOf (s : List UInt8) : Int := eightFrom s 0
theorem drop_next (s : ByteArray) (k : Nat) (h : k < s.size) : s.data.toList.drop k = s[k] :: s.data.toList.drop (k + 1) := by
  rw [List.drop_eq_getElem_cons (by simpa using h)]
  rfl
theorem eight_step (s : ByteArray) (k : Nat) (h : k < s.size) : eightFrom (s.data.toList.drop k) k = if s[k].toNat < 128 then eightFrom (s.data.toList.drop (k + 1)) (k + 1) else k := by
  rw [drop_next s k h]
  rfl
theorem eight_end (s : ByteArray) : eightFrom (s.data.toList.drop s.size) s.size = -1 := by
  rw [List.drop_of_length_le (by simp)]
  rfl
end Utf
set_option maxHeartbeats 1000000 in
set_option maxRecDepth 100000 in
theorem eight_any (s : ByteArray) (w : World) (hs : s.size ≤ 100000) : Calls Tryz.prog 18 #[.string s] w fun e w' => e = .returned (.int .i64 (eightOf s.data.toList)) ∧ w = w' := by
  go_enter Tryz.func18, Tryz.ntmps18
  go_wp2
  go_loop [6] (fun i => ∃ k : Nat, k ≤ s.size ∧ i = .int .i64 k ∧ Hid (eightFrom (s.data.toList.drop k) k = eightOf s.data.toList)) (fun i => s.size - (intOf i).toNat)
  case atStart => exact ⟨0, Nat.zero_le _, rfl, (rfl : eightFrom (s.data.toList.drop 0) 0 = eightOf s.data.toList)⟩
  case round =>
    obtain ⟨k, hk, rfl, I⟩ := hrel
    by_cases hlt : k < s.size
    · have hst := eight_step s k hlt
      by_cases hb : s[k].toNat < 128
      · have I2 : Hid (eightFrom (s.data.toList.drop (k + 1)) (k + 1) = eightOf s.data.toList) := by
          rw [if_pos hb] at hst
          exact hst.symm.trans I.out
        clear hst I
        go_wp2
        go_round
        case rel => exact ⟨k + 1, by omega, by go_num, I2⟩
        case measure => simp [intOf]; omega
      · have I2 : Hid ((k : Int) = eightOf s.data.toList) := by
          rw [if_neg hb] at hst
          exact hst.symm.trans I.out
        have hb' : 128 ≤ s[k].toNat := by omega
        clear hst I hb
        go_wp2
        go_ret
        exact ⟨ret_one I2.out, rfl⟩
    · obtain rfl : k = s.size := by omega
      have I2 : Hid (-1 = eightOf s.data.toList) := (eight_end s).symm.trans I.out
      clear I
      go_wp2
      go_ret
      exact ⟨ret_one I2.out, rfl⟩
theorem same_of {a b : List Int} (hl : a.length = b.length) (h : ∀ j, j < a.length → a[j]! = b[j]!) : a = b := by
  apply List.ext_getElem hl
  intro i h1 h2
  have := h i h1
  rw [getElem!_pos a i h1, getElem!_pos b i h2] at this
  exact this
def SamePost (a b : List Int) (w : World) (e : Ending) (w' : World) : Prop := e = .returned (.bool (decide (a = b))) ∧ Below w.heap.size w w'
end Go.Proofs.YtmbammhkkcnoaaaGreat
namespace Go.Proofs.YtmbammhkkcnoaaaGreat
open Go.RowKit Utf
namespace Utf
/-- The characters that bytes begin with, and the place behind them; -1: they are all. -/
def rdOf (s : List UInt8) : List Nat × Int :=
  ((readAll s.length s).1, if (readAll s.length s).2.length = 0 then -1 else ((s.length - (readAll s.length s).2.length : Nat) : Int))
def ints (l : List Nat) : List Int := l.map Int.ofNat
/-- l was read, and k is the place behind it. -/
def ReadTo (s : List UInt8) (l : List Nat) (k : Nat) : Prop := rights l = true ∧ s = encAll l ++ s.drop k ∧ k ≤ s.length
theorem ReadTo.nil (s : List UInt8) : ReadTo s [] 0 := ⟨rfl, rfl, Nat.zero_le _⟩
theorem ReadTo.len {s : List UInt8} {l : List Nat} {k : Nat} (h : ReadTo s l k) : (encAll l).length = k := by
  have h1 := congrArg List.length h.2.1
  rw [List.length_append, List.length_drop] at h1
  have := h.2.2
  omega
theorem encAll_le (l : List Nat) : l.length ≤ (encAll l).length := by
  induction l with
  | nil => simp
  | cons r l ih =>
    have := enc_pos r
    simp only [encAll, List.flatMap_cons, List.length_append, List.length_cons] at ih ⊢
    omega
theorem ReadTo.le {s : List UInt8} {l : List Nat} {k : Nat} (h : ReadTo s l k) : l.length ≤ k := by have := encAll_le l; have := h.len; omega
theorem ReadTo.next {s : List UInt8} {l : List Nat} {k r n : Nat} (h : ReadTo s l k) (hd : dec (s.drop k) = some (r, n)) : ReadTo s (l ++ [r]) (k + n) ∧ 1 ≤ n := by
  obtain ⟨h1, h2, h3⟩ := dec_sound hd
  have hp := enc_pos r
  have hl := congrArg List.length h3
  rw [List.length_append, List.length_drop, List.drop_drop, List.length_drop] at hl
  refine ⟨⟨?_, ?_, ?_⟩, by omega⟩
  · simp only [rights, List.all_append, List.all_cons, List.all_nil, Bool.and_true, Bool.and_eq_true]
    exact ⟨h.1, h1⟩
  · simp only [encAll, List.flatMap_append, List.flatMap_cons, List.flatMap_nil, List.append_nil, List.append_assoc]
    rw [List.drop_drop] at h3
    have e := h.2.1
    rw [h3] at e
    exact e
  · have := h.2.2
    omega
theorem ReadTo.stop {s : List UInt8} {l : List Nat} {k : Nat} (h : ReadTo s l k) (hd : dec (s.drop k) = none) (hk : k < s.length) : rdOf s = (l, (k : Int)) := by
  unfold rdOf
  rw [readAll_is l s.length s (s.drop k) h.2.1 h.1 hd (Nat.le_refl _)]
  simp only [List.length_drop]
  rw [if_neg (by omega), show s.length - (s.length - k) = k by omega]
theorem ReadTo.all {s : List UInt8} {l : List Nat} (h : ReadTo s l s.length) : rdOf s = (l, -1) := by
  unfold rdOf
  rw [readAll_is l s.length s (s.drop s.length) h.2.1 h.1 (by rw [List.drop_length]; rfl) (Nat.le_refl _)]
  simp
end Utf
def RunesPost (s : List UInt8) (w : World) (e : Ending) (w' : World) : Prop :=
  ∃ v, e = .returned (.tuple #[v, .int .i64 (rdOf s).2]) ∧ Runes v (ints (rdOf s).1) w' ∧ Below w.heap.size w w'
theorem bytes_of (t : ByteArray) (w : World) : ∃ cap W1, (convert 9 45 (.string t)).run Tryz.prog w = .ok (.slice (some ⟨w.heap.size, 0, none⟩) t.size cap) W1 ∧
    (∀ j (h : j < t.size), W1.cell? ⟨w.heap.size, j, none⟩ = some (.int .u8 (t[j].toNat : Int))) ∧ Below w.heap.size w W1 ∧ w.heap.size < W1.heap.size := by
  refine ⟨_, _, run_bytes_of_string (P := Tryz.prog) w 9 45 5 t Tryz.underlying9 Tryz.underlying45 Tryz.underlying5, fun j h => ?_, ((Below.refl _ w).drew).alloc (Nat.le_refl _) _, by simp⟩
  have := World.cell?_alloc_mark w.drew (bytesRow t (grownCap w t.size 0 5)) 5 ((bytesRow t (grownCap w t.size 0 5)).size, (bytesRow t (grownCap w t.size 0 5)).size + 1) j
  exact this.trans (bytesRow_at t _ j h)
theorem head_le (n : Nat) : (headOf n).2 ≤ 4 ∧ 0 ≤ (headOf n).1 ∧ ((headOf n).2 = 2 → (headOf n).1 < 32) ∧ ((headOf n).2 = 3 → (headOf n).1 < 16) ∧ ((headOf n).2 = 4 → (headOf n).1 < 8) ∧ ((headOf n).2 = 1 → (headOf n).1 < 128) := by
  unfold headOf
  repeat' split
  all_goals simp
  all_goals omega
/-- The bytes behind the first one. -/
theorem tail_of (s : ByteArray) (k n m : Nat) (hm : m + 1 = n) (hle : k + n ≤ s.size) : (s.extract (k + 1) (k + n)).size = m ∧ (s.extract (k + 1) (k + n)).data.toList = (s.data.toList.drop (k + 1)).take m := by
  have e : (s.extract (k + 1) (k + n)).data.toList = (s.data.toList.drop (k + 1)).take m := by
    rw [ByteArray.data_extract, Array.toList_extract, List.extract_eq_take_drop]
    congr 1
    omega
  refine ⟨?_, e⟩
  have := congrArg List.length e
  rw [List.length_take, List.length_drop] at this
  simp only [Array.length_toList, ByteArray.size_data] at this
  omega
theorem and192 (n : Nat) (h : n < 256) : bits .and .u8 (n : Int) 192 = ((n / 64 * 64 : Nat) : Int) := by
  have e := u8_and_nat n 192 h (by omega)
  have e2 : ∀ m : Fin 256, m.val &&& 192 = m.val / 64 * 64 := by decide +kernel
  have e3 := e2 ⟨n, h⟩
  simp only at e3
  rw [e3] at e
  exact e
theorem cont_test (b : UInt8) : (bits .and .u8 (b.toNat : Int) 192 != 128) = !(cont b) := by
  rw [and192 _ (lt256 b), Bool.eq_iff_iff]
  have := lt256 b
  unfold cont
  simp
  omega
set_option maxHeartbeats 4000000 in
set_option maxRecDepth 100000 in
theorem runes_any (s : ByteArray) (w : World) (hs : s.size ≤ 100000) : Calls Tryz.prog 25 #[.string s] w (RunesPost s.data.toList w) := by
  go_enter Tryz.func25, Tryz.ntmps25
  go_wp2
  refine wp_ahead 0 rfl ?_
  go_wp2
  go_loopg [4, 5] (s.size + 1) (fun gk v i wr => ∃ (l : List Nat) (k : Nat), k ≤ s.size ∧ i = .int .i64 k ∧ s.size - k < gk ∧ Hid (ReadTo s.data.toList l k ∧ OwnR w.heap.size v (ints l) wr ∧ Below w.heap.size w wr))
  case atStart => exact ⟨[], 0, Nat.zero_le _, rfl, by omega, ⟨ReadTo.nil _, OwnR.nil _ _, Below.refl _ _⟩⟩
  case round =>
    obtain ⟨l, k, hk, rfl, hg, I⟩ := hrel
    by_cases hlt : k < s.size
    · have hH := head_any s[k].toNat (lt256 _) wr
      have hD := drop_next s k hlt
      have hT := tellOf_eq s[k] (s.data.toList.drop (k + 1))
      have hl4 := head_le s[k].toNat
      unfold tellOf at hT
      rw [← hD] at hT
      generalize headOf s[k].toNat = p at hH hT hl4
      obtain ⟨r0, n⟩ := p
      simp only at hH hT hl4
      have HT := Lib.hid hT
      clear hT hD
      by_cases h0 : n = 0
      · subst h0
        have hN : dec (s.data.toList.drop k) = none := by rw [← HT.out, if_pos (.inl rfl)]
        have HN := Lib.hid hN
        clear hN hl4
        go_wp2_with (go_at_call 49; ((with_reducible refine hH.mono ?_); rintro e w' ⟨rfl, rfl⟩))
        go_step3
        refine ⟨rfl, ?_⟩
        go_wp2
        rw [Exit.noGoto_ret]
        go_ret2
        have hr := I.out.1.stop HN.out (by simpa using hlt)
        exact ⟨u4, by rw [hr]; rfl, by rw [hr]; exact I.out.2.1.runes, I.out.2.2⟩
      · have h0' : ((n : Int) == 0) = false := by simpa using h0
        by_cases hle : n ≤ s.size - k
        · have hdc : decide ((s.size : Int) - (k : Int) < (n : Int)) = false := by simp; omega
          have hle' : (n : Int) ≤ (s.size : Int) - (k : Int) := by omega
          obtain ⟨m, hm⟩ : ∃ m, m + 1 = n := ⟨n - 1, by omega⟩
          obtain ⟨hts, htl⟩ := tail_of s k n m hm (by omega)
          obtain ⟨cap, W1, hconv, hcell, hbW, hsz⟩ := bytes_of (s.extract (k + 1) (k + n)) wr
          rw [hts] at hconv
          have HC := Lib.hid hcell
          have HB := Lib.hid hbW
          have HTS := Lib.hid hts
          have HTL := Lib.hid htl
          have HM := Lib.hid hm
          have hm3 : m ≤ 3 := by omega
          clear hcell hbW hts htl hm
          go_wp2_with (go_at_call 49; ((with_reducible refine hH.mono ?_); rintro e w' ⟨rfl, rfl⟩))
          go_loop [6, 40] (fun r i => ∃ (j : Nat) (acc : Int), j ≤ m ∧ r = .int .i32 acc ∧ i = .int .i64 j ∧ 0 ≤ acc ∧ (j = 0 → acc < 128) ∧ (0 < m → j = 0 → acc < 32) ∧ (j = 1 → acc < 2048) ∧ (j = 2 → acc < 131072) ∧ (j = 3 → acc < 8388608) ∧
            Hid (contVal acc (((s.data.toList.drop (k + 1)).take m).drop j) = contVal r0 ((s.data.toList.drop (k + 1)).take m))) (fun _ i => m - (intOf i).toNat)
          case atStart =>
            refine ⟨0, r0, Nat.zero_le _, rfl, rfl, hl4.2.1, fun _ => ?_, fun h _ => ?_, fun h => (by omega), fun h => (by omega), fun h => (by omega), (rfl : contVal r0 (((s.data.toList.drop (k + 1)).take m).drop 0) = _)⟩
            · have := HM.out; omega
            · have := HM.out; omega
          case round =>
            obtain ⟨j, acc, hj, rfl, rfl, ha0, b0, b0', b1, b2, b3, J⟩ := hrel
            by_cases hjm : j < m
            · have hja : j < (s.extract (k + 1) (k + n)).size := by rw [HTS.out]; exact hjm
              have hc := HC.out j hja
              have hdn : ((s.data.toList.drop (k + 1)).take m).drop j = (s.extract (k + 1) (k + n))[j] :: ((s.data.toList.drop (k + 1)).take m).drop (j + 1) := by
                rw [← HTL.out]
                exact drop_next _ j hja
              generalize (s.extract (k + 1) (k + n))[j] = b at hc hdn
              have hb := lt256 b
              have hct := cont_test b
              have hcv : contVal acc (((s.data.toList.drop (k + 1)).take m).drop j) = if cont b then contVal (acc * 64 + ((b.toNat % 64 : Nat) : Int)) (((s.data.toList.drop (k + 1)).take m).drop (j + 1)) else none := by rw [hdn]; rfl
              have hbz : (b.toNat : Int) < 256 := by omega
              have hjz : (j : Int) < (m : Int) := by omega
              cases hco : cont b with
              | false =>
                rw [hco] at hct hcv
                have hno : dec (s.data.toList.drop k) = none := by
                  rw [← HT.out]
                  split
                  · rfl
                  · rw [show n - 1 = m by have := HM.out; omega, ← J.out, hcv]; rfl
                have HN := Lib.hid hno
                clear hno hcv hdn J hco
                simp only [Bool.not_false] at hct
                go_wp2
                go_step3
                refine ⟨rfl, ?_⟩
                go_wp2
                rw [Exit.noGoto_ret]
                go_ret2
                have hr := I.out.1.stop HN.out (by simpa using hlt)
                exact ⟨u4, by rw [hr]; rfl, by rw [hr]; exact (I.out.2.1.keep HB.out).runes, I.out.2.2.trans (HB.out.mono I.out.2.2.size)⟩
              | true =>
                rw [hco] at hct hcv
                have J2 : Hid (contVal (acc * 64 + ((b.toNat % 64 : Nat) : Int)) (((s.data.toList.drop (k + 1)).take m).drop (j + 1)) = contVal r0 ((s.data.toList.drop (k + 1)).take m)) := by
                  rw [if_pos rfl] at hcv
                  exact hcv.symm.trans J.out
                clear hcv hdn J hco
                simp only [Bool.not_true] at hct
                have hacc : acc < 131072 := by omega
                go_wp2
                go_round
                case rel => exact ⟨j + 1, acc * 64 + ((b.toNat % 64 : Nat) : Int), by omega, by go_num, by go_num, by omega, fun h => (by omega), fun _ h => (by omega), fun h => (by omega), fun h => (by omega), fun h => (by omega), J2⟩
                case measure => simp [intOf]; omega
            · obtain rfl : j = m := by omega
              have hcv : contVal r0 ((s.data.toList.drop (k + 1)).take j) = some acc := by
                rw [← J.out, List.drop_of_length_le (by rw [List.length_take]; omega)]
                rfl
              have hT := HT.out
              rw [if_neg (by simp; omega), show n - 1 = j by have := HM.out; omega, hcv] at hT
              simp only at hT
              have HT2 := Lib.hid hT
              have hL := len_any acc W1
              clear hT hcv J HC HTS HTL HT hconv
              by_cases hln : lenZ acc = n
              · rw [hln] at hL
                have hne : ((n : Int) != (n : Int)) = false := by simp
                have hdc2 : dec (s.data.toList.drop k) = some (acc.toNat, n) := by rw [← HT2.out, if_pos hln]
                have hnx := I.out.1.next hdc2
                have HX := Lib.hid hnx
                have hkn : k + n ≤ s.size := by omega
                have hll : (ints l).length ≤ 1000000 := by have := I.out.1.le; simp only [ints, List.length_map]; omega
                clear hdc2 hnx hln HT2
                go_wp2_with (first
                  | (go_at_call 50; ((with_reducible refine hL.mono ?_); rintro e w' ⟨rfl, rfl⟩))
                  | (at_builtin; refine append_cells W1 51 21 (.int .i32 0) 4 Tryz.underlying51 info_i32 rfl (by omega) w.heap.size u4 _ _ (I.out.2.1.keep HB.out) (Nat.le_trans I.out.2.2.size HB.out.size) hll 1 (by omega) _ rfl rfl rfl _ _ rfl rfl rfl ?_; intro v2 w2 ho2 hb2; have HO := Lib.hid ho2; have HB2 := Lib.hid hb2; clear ho2 hb2))
                have I2 : Hid (ReadTo s.data.toList (l ++ [acc.toNat]) (k + n) ∧ OwnR w.heap.size v2 (ints (l ++ [acc.toNat])) w2 ∧ Below w.heap.size w w2) := by
                  refine ⟨HX.out.1, ?_, (I.out.2.2.trans (HB.out.mono I.out.2.2.size)).trans HB2.out⟩
                  have e : ints (l ++ [acc.toNat]) = ints l ++ [acc] := by
                    simp only [ints, List.map_append, List.map_cons, List.map_nil]
                    rw [show Int.ofNat acc.toNat = acc by simp; omega]
                  rw [e]
                  exact OwnR.more HO.out rfl rfl
                have hn1 := HX.out.2
                go_roundg (s.size - k)
                case measure => omega
                case rel => exact ⟨l ++ [acc.toNat], k + n, by omega, by go_num, by omega, I2⟩
              · have hne : ((lenZ acc : Int) != (n : Int)) = true := by simpa using (by omega : ¬ (lenZ acc : Int) = (n : Int))
                have hno : dec (s.data.toList.drop k) = none := by rw [← HT2.out, if_neg hln]
                have HN := Lib.hid hno
                clear hno hln HT2
                go_wp2_with (go_at_call 50; ((with_reducible refine hL.mono ?_); rintro e w' ⟨rfl, rfl⟩))
                go_step3
                refine ⟨rfl, ?_⟩
                go_wp2
                rw [Exit.noGoto_ret]
                go_ret2
                have hr := I.out.1.stop HN.out (by simpa using hlt)
                exact ⟨u4, by rw [hr]; rfl, by rw [hr]; exact (I.out.2.1.keep HB.out).runes, I.out.2.2.trans (HB.out.mono I.out.2.2.size)⟩
        · have hdc : decide ((s.size : Int) - (k : Int) < (n : Int)) = true := by simp; omega
          have hle' : (s.size : Int) - (k : Int) < (n : Int) := by omega
          have hN : dec (s.data.toList.drop k) = none := by rw [← HT.out, if_pos (.inr (by simp; omega))]
          have HN := Lib.hid hN
          clear hN hl4
          go_wp2_with (go_at_call 49; ((with_reducible refine hH.mono ?_); rintro e w' ⟨rfl, rfl⟩))
          go_step3
          refine ⟨rfl, ?_⟩
          go_wp2
          rw [Exit.noGoto_ret]
          go_ret2
          have hr := I.out.1.stop HN.out (by simpa using hlt)
          exact ⟨u4, by rw [hr]; rfl, by rw [hr]; exact I.out.2.1.runes, I.out.2.2⟩
    · obtain rfl : k = s.size := by omega
      go_wp2
      go_ret2
      have hr := ReadTo.all (s := s.data.toList) (l := l) (by simpa using I.out.1)
      exact ⟨u4, by rw [hr]; rfl, by rw [hr]; exact I.out.2.1.runes, I.out.2.2⟩
end Go.Proofs.YtmbammhkkcnoaaaGreat
