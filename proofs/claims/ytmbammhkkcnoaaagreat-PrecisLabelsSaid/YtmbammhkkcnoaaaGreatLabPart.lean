/-
  Proved here: label's small functions: a bad dash, letters, digits and dashes alone, the sign, Char, Plain. Conditions: strings of at most 100,000 bytes.
-/
import Derived.Test.YtmbammhkkcnoaaaGreatLabAsk
import Derived.Test.YtmbammhkkcnoaaaGreatLabFine
import Derived.Test.YtmbammhkkcnoaaaGreatFoldBytes
import Derived.Test.YtmbammhkkcnoaaaGreatPunyC
import Derived.Test.YtmbammhkkcnoaaaGreatBidiAll
import Derived.Laws.RangeAny
import Derived.Lib.DecodeN
import Derived.Lib.RuneCount
namespace Go.Proofs.YtmbammhkkcnoaaaGreat
open Go.RowKit Utf
namespace Lab
theorem one_is {s : ByteArray} {k : Nat} (h : k < s.size) (c : UInt8) : ((s.extract k (k + 1)).toList == [c]) = (byteAt s.data.toList k == (c.toNat : Int)) := by
  rw [byteAt_get h, ByteArray.toList_eq, ByteArray.data_extract, Array.toList_extract, List.extract_eq_take_drop, List.drop_eq_getElem_cons (by simpa using h), Nat.add_sub_cancel_left]
  simp only [List.take_succ_cons, List.take_zero]
  rw [Bool.eq_iff_iff]
  simp only [beq_iff_eq, List.cons.injEq, and_true]
  constructor
  · intro e
    have : s[k] = c := e
    rw [this]
  · intro e
    have : s[k] = c := UInt8.toNat_inj.1 (by omega)
    exact this
theorem two_is {s : ByteArray} (h : 3 < s.size) : ((s.extract 2 4).toList == [45, 45]) = (byteAt s.data.toList 2 == 45 && byteAt s.data.toList 3 == 45) := by
  rw [byteAt_get (show 2 < s.size by omega), byteAt_get h, ByteArray.toList_eq, ByteArray.data_extract, Array.toList_extract, List.extract_eq_take_drop, List.drop_eq_getElem_cons (by simp; omega), List.drop_eq_getElem_cons (by simp; omega)]
  simp only [Nat.reduceSub, List.take_succ_cons, List.take_zero]
  rw [Bool.eq_iff_iff]
  simp only [beq_iff_eq, List.cons.injEq, and_true, Bool.and_eq_true]
  constructor
  · rintro ⟨e, e'⟩
    have h1 : s[2] = 45 := e
    have h2 : s[3] = 45 := e'
    rw [h1, h2]
    exact ⟨rfl, rfl⟩
  · rintro ⟨e, e'⟩
    have h1 : s[2] = 45 := UInt8.toNat_inj.1 (by rw [show (45 : UInt8).toNat = 45 from rfl]; omega)
    have h2 : s[3] = 45 := UInt8.toNat_inj.1 (by rw [show (45 : UInt8).toNat = 45 from rfl]; omega)
    exact ⟨h1, h2⟩
/-- What a place that is not ASCII is read as is none of the plain characters. -/
theorem decode_wide {s : ByteArray} {k : Nat} (h : k < s.size) (hb : ¬ s[k].toNat < 128) : 128 ≤ (Utf8.decode s k).1 := by
  have e : s.get! k = s[k] := by
    simp [ByteArray.get!, getElem!_pos, h]
    rfl
  rw [Lib.decode_at, e]
  unfold Lib.decodeN
  rw [if_neg hb]
  repeat' split
  all_goals (first | omega | decide | (simp only []; omega))
end Lab
set_option maxHeartbeats 4000000 in
set_option maxRecDepth 100000 in
theorem hasBadDash_any (s : ByteArray) (w : World) (hs : s.size ≤ 100000) : Calls Tryz.prog 87 #[.string s] w fun e w' => e = .returned (.bool (Lab.dashed s.data.toList)) ∧ w = w' := by
  have hsl : s.data.toList.length = s.size := by simp
  by_cases h0 : s.size = 0
  · obtain rfl : s = ⟨#[]⟩ := ByteArray.ext (Array.eq_empty_of_size_eq_zero h0)
    clear hsl h0 hs
    go_enter Tryz.func87, Tryz.ntmps87
    go_wp2
    go_ret
    exact ⟨rfl, rfl⟩
  · have hz : (1 : Int) ≤ (s.size : Int) := by omega
    have hz1 : 1 ≤ s.size := by omega
    have a0 := Lab.one_is (s := s) (k := 0) (by omega) 45
    have a1 := Lab.one_is (s := s) (k := s.size - 1) (by omega) 45
    rw [show s.size - 1 + 1 = s.size by omega] at a1
    unfold Lab.dashed
    rw [hsl, ← show ((45 : UInt8).toNat : Int) = 45 from rfl, ← a0, ← a1]
    clear a0 a1
    cases e0 : ((s.extract 0 (0 + 1)).toList == [45])
    · cases e1 : ((s.extract (s.size - 1) s.size).toList == [45])
      · by_cases h3 : 3 < s.size
        · have h3z : (4 : Int) ≤ (s.size : Int) := by omega
          have a2 := Lab.two_is h3
          rw [decide_eq_true h3, Bool.true_and, Bool.false_or, Bool.false_or, show ((45 : UInt8).toNat : Int) = 45 from rfl, ← a2]
          clear a2
          cases e2 : ((s.extract 2 4).toList == [45, 45])
          all_goals
            go_enter Tryz.func87, Tryz.ntmps87
            go_wp2
            go_ret
            exact ⟨rfl, rfl⟩
        · have h3z : ¬ (4 : Int) ≤ (s.size : Int) := by omega
          rw [decide_eq_false h3]
          clear h3
          go_enter Tryz.func87, Tryz.ntmps87
          go_wp2
          go_ret
          exact ⟨rfl, rfl⟩
      · go_enter Tryz.func87, Tryz.ntmps87
        go_wp2
        go_ret
        exact ⟨rfl, rfl⟩
    · go_enter Tryz.func87, Tryz.ntmps87
      go_wp2
      go_ret
      exact ⟨rfl, rfl⟩
/-- What strings.IndexFunc tells of isPlain's question: a place, if there is one that is not plain. -/
def StrangePost (p : Bool) (w : World) (e : Ending) (w' : World) : Prop := ∃ z : Int, e = .returned (.int .i64 z) ∧ decide (0 ≤ z) = !p ∧ Below w.heap.size w w'
namespace Lab
theorem sign_is (s : ByteArray) : ((⟨((s.extract 0 4).data.toList.map smallB).toArray⟩ : ByteArray).toList == [120, 110, 45, 45]) = (((s.data.toList.take 4).map smallB) == sign) := by
  rw [ByteArray.toList_eq, extract_take]
  rfl
end Lab
theorem char_none {r : Int} (h : splitOf r = none) : ((splitOf r).getD default).soft = false ∧ ((splitOf r).getD default).out = false := by rw [h]; exact ⟨rfl, rfl⟩
set_option maxHeartbeats 4000000 in
set_option maxRecDepth 100000 in
theorem charL_any (t : Value) (r : Int) (w : World) (hT : Table w t) : Calls Tryz.prog 38 #[t, .int .i32 r] w fun e w' => e = .returned (.bool (Lab.charOk r)) ∧ Below w.heap.size w w' := by
  have KC := Lib.hid (fun W (h : Below w.heap.size w W) => cat_any t r W (hT.below h))
  have KS := fun W (h : Below w.heap.size w W) => split_any t r W (hT.below h)
  have hch : Lab.charOk r = (r == 45 || (decide (2 ≤ catOf r) && decide (catOf r ≤ 5) && (!((splitOf r).getD default).soft && !((splitOf r).getD default).out))) := by
    unfold Lab.charOk
    cases splitOf r <;> rfl
  have h45c : r = 45 → catOf r ≠ 2 ∧ catOf r ≠ 3 ∧ catOf r ≠ 4 ∧ catOf r ≠ 5 := by rintro rfl; decide +kernel
  rw [hch]
  clear hch
  obtain ⟨b0, b1, b2, b3, rfl, -, -, -, -⟩ := hT
  generalize catOf r = c at KC h45c ⊢
  unfold TellsSp at KS
  generalize (splitOf r).getD default = y at KS ⊢
  generalize (splitOf r).isSome = is at KS
  obtain ⟨v0, v1, v2, v3, v4⟩ := y
  simp only [encSp] at KS ⊢
  have KS := Lib.hid KS
  by_cases hcs : 2 ≤ c ∧ c ≤ 5
  · rw [decide_eq_true hcs.1, decide_eq_true hcs.2, beq_eq_false_iff_ne.2 (show r ≠ 45 by intro e; have := h45c e; omega), Bool.false_or, Bool.true_and, Bool.true_and]
    clear h45c
    have hc4 : c = 2 ∨ c = 3 ∨ c = 4 ∨ c = 5 := by omega
    clear hcs
    rcases hc4 with rfl | rfl | rfl | rfl <;> cases v3 <;> cases v4
    all_goals
      go_enter Tryz.func38, Tryz.ntmps38
      go_wp2_with fail
      refine (KC.out _ (below_one _ _)).mono ?_
      rintro e w2 ⟨rfl, hb2⟩
      have BX := Lib.hid (boxT hb2)
      obtain ⟨hS5, d0, d1, d2, d3⟩ := BX.out.2
      clear hb2
      go_wp2_with fail
      refine (KS.out w2 BX.out.1).mono ?_
      rintro e w3 ⟨rfl, hb3⟩
      have B3 := Lib.hid (below_then BX.out.1 hb3)
      clear hb3 d0 d1 d2 d3 hS5
      go_wp2
      go_ret
      exact ⟨rfl, below_new B3.out (Nat.le_refl _) _⟩
  · have hcf : (decide (2 ≤ c) && decide (c ≤ 5)) = false := by
      rw [Bool.and_eq_false_iff, decide_eq_false_iff_not, decide_eq_false_iff_not]; omega
    rw [hcf, Bool.false_and, Bool.or_false]
    clear h45c hcf
    have e2 : (c == 2) = false := by rw [beq_eq_false_iff_ne]; omega
    have e3 : (c == 3) = false := by rw [beq_eq_false_iff_ne]; omega
    have e4 : (c == 4) = false := by rw [beq_eq_false_iff_ne]; omega
    have e5 : (c == 5) = false := by rw [beq_eq_false_iff_ne]; omega
    cases h45 : (r == 45)
    all_goals
      go_enter Tryz.func38, Tryz.ntmps38
      go_wp2_with fail
      refine (KC.out _ (below_one _ _)).mono ?_
      rintro e w2 ⟨rfl, hb2⟩
      have BX := Lib.hid (boxT hb2)
      clear hb2
      go_wp2
      go_ret
      exact ⟨rfl, BX.out.1⟩
end Go.Proofs.YtmbammhkkcnoaaaGreat
