/-
  Proved here, plainly: what the bytes behind a first one add to its bits, and that so a character is told, or none. Conditions: none.
-/
import Derived.Test.YtmcjgdajnppbhaaGreatDoorUtfSmall
namespace Go.Proofs.YtmcjgdajnppbhaaGreatDoor
namespace Utf
/-- The bits of bytes that stand behind the first one. -/
def contVal : Int → List UInt8 → Option Int
  | acc, [] => some acc
  | acc, b :: t => if cont b then contVal (acc * 64 + ((b.toNat % 64 : Nat) : Int)) t else none
theorem cont_iff (b : UInt8) : cont b = true ↔ 128 ≤ b.toNat ∧ b.toNat < 192 := by
  unfold cont; simp
theorem lenZ_cast (r : Nat) : lenZ (r : Int) = if right r then lenOf r else 0 := by
  unfold lenZ rightZ
  simp
theorem lenOf_iff (r : Nat) : (lenOf r = 1 ↔ r < 128) ∧ (lenOf r = 2 ↔ 128 ≤ r ∧ r < 2048) ∧ (lenOf r = 3 ↔ 2048 ≤ r ∧ r < 65536) ∧ (lenOf r = 4 ↔ 65536 ≤ r) := by
  unfold lenOf
  split
  · omega
  · split
    · omega
    · split <;> omega
theorem lenZ_is (r n : Nat) (hn : 1 ≤ n) : lenZ (r : Int) = n ↔ right r = true ∧ lenOf r = n := by
  rw [lenZ_cast]
  cases right r with
  | false => simp; omega
  | true => simp
/-- What the program tells of bytes that begin with a. -/
def tellOf (a : UInt8) (t : List UInt8) : Option (Nat × Nat) :=
  if (headOf a.toNat).2 = 0 ∨ t.length + 1 < (headOf a.toNat).2 then none
  else match contVal (headOf a.toNat).1 (t.take ((headOf a.toNat).2 - 1)) with
    | none => none
    | some r => if lenZ r = (headOf a.toNat).2 then some (r.toNat, (headOf a.toNat).2) else none
theorem tellOf_eq (a : UInt8) (t : List UInt8) : tellOf a t = dec (a :: t) := by
  have ha := lt256 a
  unfold tellOf dec headOf
  by_cases h1 : a.toNat < 128
  · simp only [if_pos h1]
    have : lenZ (a.toNat : Int) = 1 := (lenZ_is a.toNat 1 (by omega)).2 ⟨(right_iff _).2 (by omega), (lenOf_iff _).1.2 h1⟩
    simp [contVal, this]
  simp only [if_neg h1]
  by_cases h2 : a.toNat < 192
  · simp only [if_pos h2, if_pos (show a.toNat < 194 by omega)]
    simp
  simp only [if_neg h2]
  by_cases h3 : a.toNat < 224
  · simp only [if_pos h3]
    match t with
    | [] =>
      simp
    | b :: t =>
      have hb := lt256 b
      simp only [List.length_cons, List.take_succ_cons, List.take_zero, contVal, Nat.reduceSub]
      rw [if_neg (by omega)]
      by_cases cb : cont b = true
      · have cb' := (cont_iff b).1 cb
        simp only [cb, if_true]
        have e : ((a.toNat % 32 : Nat) : Int) * 64 + ((b.toNat % 64 : Nat) : Int) = (((a.toNat - 192) * 64 + (b.toNat - 128) : Nat) : Int) := by omega
        rw [e, Int.toNat_natCast]
        by_cases h4 : a.toNat < 194
        · rw [if_pos h4, if_neg]
          intro h
          have := ((lenZ_is _ 2 (by omega)).1 h).2
          have := (lenOf_iff ((a.toNat - 192) * 64 + (b.toNat - 128))).2.1.1 this
          omega
        · rw [if_neg h4, if_pos]
          exact (lenZ_is _ 2 (by omega)).2 ⟨(right_iff _).2 (by omega), (lenOf_iff _).2.1.2 (by omega)⟩
      · simp only [cb]
        simp
  simp only [if_neg h3]
  rw [if_neg (show ¬ a.toNat < 194 by omega)]
  by_cases h4 : a.toNat < 240
  · simp only [if_pos h4]
    match t with
    | [] => simp
    | [_] => simp
    | b :: c :: t =>
      have hb := lt256 b
      have hc := lt256 c
      simp only [List.length_cons, List.take_succ_cons, List.take_zero, contVal, Nat.reduceSub]
      rw [if_neg (by omega)]
      by_cases cb : cont b = true
      · by_cases cc : cont c = true
        · have cb' := (cont_iff b).1 cb
          have cc' := (cont_iff c).1 cc
          simp only [cb, cc, if_true, Bool.true_and]
          have e : (((a.toNat % 16 : Nat) : Int) * 64 + ((b.toNat % 64 : Nat) : Int)) * 64 + ((c.toNat % 64 : Nat) : Int) = (((a.toNat - 224) * 4096 + (b.toNat - 128) * 64 + (c.toNat - 128) : Nat) : Int) := by omega
          rw [e, Int.toNat_natCast]
          have hi := lenOf_iff ((a.toNat - 224) * 4096 + (b.toNat - 128) * 64 + (c.toNat - 128))
          have hz := lenZ_is ((a.toNat - 224) * 4096 + (b.toNat - 128) * 64 + (c.toNat - 128)) 3 (by omega)
          generalize hr : (a.toNat - 224) * 4096 + (b.toNat - 128) * 64 + (c.toNat - 128) = r at hi hz ⊢
          by_cases hh : lenZ (r : Int) = 3
          · have h5 := hz.1 hh
            have h6 := hi.2.2.1.1 h5.2
            rw [if_pos hh, if_pos (by simp only [Bool.and_eq_true, decide_eq_true_eq]; exact ⟨h6.1, h5.1⟩)]
          · rw [if_neg hh, if_neg]
            simp only [Bool.and_eq_true, decide_eq_true_eq]
            rintro ⟨h5, h6⟩
            exact hh (hz.2 ⟨h6, hi.2.2.1.2 ⟨h5, by omega⟩⟩)
        · simp [cb, cc]
      · simp [cb]
  simp only [if_neg h4]
  by_cases h5 : a.toNat < 248
  · simp only [if_pos h5]
    match t with
    | [] => simp
    | [_] => simp
    | [_, _] => simp
    | b :: c :: d :: t =>
      have hb := lt256 b
      have hc := lt256 c
      have hd := lt256 d
      simp only [List.length_cons, List.take_succ_cons, List.take_zero, contVal, Nat.reduceSub]
      rw [if_neg (by omega)]
      by_cases cb : cont b = true
      · by_cases cc : cont c = true
        · by_cases cd : cont d = true
          · have cb' := (cont_iff b).1 cb
            have cc' := (cont_iff c).1 cc
            have cd' := (cont_iff d).1 cd
            simp only [cb, cc, cd, if_true, Bool.true_and]
            have e : ((((a.toNat % 8 : Nat) : Int) * 64 + ((b.toNat % 64 : Nat) : Int)) * 64 + ((c.toNat % 64 : Nat) : Int)) * 64 + ((d.toNat % 64 : Nat) : Int) = (((a.toNat - 240) * 262144 + (b.toNat - 128) * 4096 + (c.toNat - 128) * 64 + (d.toNat - 128) : Nat) : Int) := by omega
            rw [e, Int.toNat_natCast]
            have hi := lenOf_iff ((a.toNat - 240) * 262144 + (b.toNat - 128) * 4096 + (c.toNat - 128) * 64 + (d.toNat - 128))
            have hz := lenZ_is ((a.toNat - 240) * 262144 + (b.toNat - 128) * 4096 + (c.toNat - 128) * 64 + (d.toNat - 128)) 4 (by omega)
            generalize hr : (a.toNat - 240) * 262144 + (b.toNat - 128) * 4096 + (c.toNat - 128) * 64 + (d.toNat - 128) = r at hi hz ⊢
            by_cases hh : lenZ (r : Int) = 4
            · have h5 := hz.1 hh
              have h6 := hi.2.2.2.1 h5.2
              rw [if_pos hh, if_pos (by simp only [Bool.and_eq_true, decide_eq_true_eq]; exact ⟨h6, h5.1⟩)]
            · rw [if_neg hh, if_neg]
              simp only [Bool.and_eq_true, decide_eq_true_eq]
              rintro ⟨h5, h6⟩
              exact hh (hz.2 ⟨h6, hi.2.2.2.2 h5⟩)
          · simp [cb, cc, cd]
        · simp [cb, cc]
      · simp [cb]
  simp only [if_neg h5]
  simp
end Utf
end Go.Proofs.YtmcjgdajnppbhaaGreatDoor
