/-
  Proved here: the statement UtfOrder, as a call: it answers true at every two numbers. Conditions: none.
-/
import Derived.Test.YtadppccnngfjiaaUtfLawA
namespace Go.Proofs.Ytadppccnngfjiaa
open Go.RowKit Utf
theorem less_is : ∀ x y : List UInt8, Op.bytesLess x y = less x y
  | [], [] => rfl
  | _ :: _, [] => rfl
  | [], _ :: _ => rfl
  | a :: x, b :: y => by
    simp only [Op.bytesLess, less, less_is x y]
theorem strB_one (a : Int) (h : rightZ a = true) : strB [a] = enc a.toNat := by
  unfold strB
  rw [if_pos (by simp [rightsZ, h])]
  simp [encZ]
theorem rightsZ_one (a : Int) : rightsZ [a] = rightZ a := by simp [rightsZ]
theorem eight_enc {a : Int} (h0 : 0 ≤ a) (h1 : a ≤ 1114111) : decide (eightOf (enc a.toNat) < 0) = decide (a < 128) := by
  by_cases h : a < 128
  · rw [enc_small (by omega), decide_eq_true h]
    unfold eightOf eightFrom
    rw [u_toNat (by omega), if_pos (by omega)]
    rfl
  · obtain ⟨b, t, e, hb⟩ := enc_great (a := a.toNat) (by omega) (by omega)
    rw [e, decide_eq_false h]
    unfold eightOf eightFrom
    rw [if_neg (by omega)]
    rfl
set_option maxHeartbeats 4000000 in
set_option maxRecDepth 100000 in
theorem order_walk (a b : Int) (w : World) : Calls Try.prog 7 #[.int .i32 a, .int .i32 b] w fun e w' => e = .returned (.bool true) ∧ Below w.heap.size w w' := by
  have hR1 := fun W => right_any a W
  have hR2 := fun W => right_any b W
  obtain ⟨x, hx⟩ : ∃ x, strB [a] = x := ⟨_, rfl⟩
  obtain ⟨y, hy⟩ : ∃ y, strB [b] = y := ⟨_, rfl⟩
  have hS1 := fun (W : World) => string_at _ [a] _ (runes_lit W [a]) (by simp) (rightsZ_one a) hx
  have hS2 := fun (W : World) => string_at _ [b] _ (runes_lit W [b]) (by simp) (rightsZ_one b) hy
  have HX := Lib.hid hx
  have HY := Lib.hid hy
  clear hx hy
  cases ha : rightZ a <;> cases hb : rightZ b <;> rw [ha] at hR1 hS1 <;> rw [hb] at hR2 hS2
  case true.true =>
    have HA := Lib.hid ha
    have HB := Lib.hid hb
    have R1 := Lib.hid hR1
    have R2 := Lib.hid hR2
    have S1 := Lib.hid hS1
    have S2 := Lib.hid hS2
    clear ha hb hR1 hR2 hS1 hS2
    have hxe : x = enc a.toNat := HX.out.symm.trans (strB_one a HA.out)
    have hye : y = enc b.toNat := HY.out.symm.trans (strB_one b HB.out)
    have ba := (rightZ_iff a).1 HA.out
    have bb := (rightZ_iff b).1 HB.out
    have hlt : Op.bytesLess x y = decide (a < b) := by
      rw [less_is, hxe, hye, less_enc _ _ (by omega) (by omega), Bool.eq_iff_iff]
      simp only [decide_eq_true_eq]
      omega
    have heq : (x == y) = (a == b) := by
      rw [Bool.eq_iff_iff, beq_iff_eq, beq_iff_eq, hxe, hye]
      refine ⟨fun h => ?_, fun h => by rw [h]⟩
      have := enc_inj (a := a.toNat) (b := b.toNat) ((right_iff _).2 (by omega)) ((right_iff _).2 (by omega)) h
      omega
    obtain ⟨z, hz⟩ : ∃ z, eightOf x = z := ⟨_, rfl⟩
    have hL := fun W => len_any a W
    have hxl : lenZ a = x.length := by rw [hxe, enc_length]; unfold lenZ; rw [HA.out, if_pos rfl]
    rw [hxl] at hL
    have hE := fun W => eight_any ⟨x.toArray⟩ W (by rw [hxe]; have := enc_le a.toNat; simp [ByteArray.size]; omega)
    rw [show (⟨x.toArray⟩ : ByteArray).data.toList = x by simp, hz] at hE
    have L := Lib.hid hL
    have E := Lib.hid hE
    have hzd : decide (z < 0) = decide (a < 128) := by
      rw [← hz, hxe]
      exact eight_enc ba.1 ba.2.1
    clear hL hE hz hxe hye hxl ba bb
    go_enter Try.func7, Try.ntmps7
    go_wp2_with fail
    refine (small_any _).mono ?_
    rintro e w1 ⟨rfl, hb1⟩
    have B1 := Lib.hid hb1
    clear hb1
    go_wp2_with fail
    refine (S1.out w1).mono ?_
    rintro e w2 ⟨rfl, hb2⟩
    have B2 := Lib.hid (below_then B1.out (below_then (below_one _ _) hb2))
    clear hb2 B1
    go_wp2_with fail
    refine (S2.out w2).mono ?_
    rintro e w3 ⟨rfl, hb3⟩
    have B3 := Lib.hid (below_then B2.out (below_then (below_one _ _) hb3))
    clear hb3 B2
    go_wp2_with fail
    refine (L.out _).mono ?_
    rintro e w4 ⟨rfl, rfl⟩
    go_wp2_with fail
    refine (E.out _).mono ?_
    rintro e w4 ⟨rfl, rfl⟩
    go_wp2
    go_ret
    exact ⟨rfl, B3.out⟩
  all_goals
    have R1 := Lib.hid hR1
    have R2 := Lib.hid hR2
    have S1 := Lib.hid hS1
    have S2 := Lib.hid hS2
    clear ha hb hR1 hR2 hS1 hS2
    go_enter Try.func7, Try.ntmps7
    go_wp2_with fail
    refine (small_any _).mono ?_
    rintro e w1 ⟨rfl, hb1⟩
    have B1 := Lib.hid hb1
    clear hb1
    go_wp2_with fail
    refine (S1.out w1).mono ?_
    rintro e w2 ⟨rfl, hb2⟩
    have B2 := Lib.hid (below_then B1.out (below_then (below_one _ _) hb2))
    clear hb2 B1
    go_wp2_with fail
    refine (S2.out w2).mono ?_
    rintro e w3 ⟨rfl, hb3⟩
    have B3 := Lib.hid (below_then B2.out (below_then (below_one _ _) hb3))
    clear hb3 B2
    go_wp2_with fail
    refine (R1.out _).mono ?_
    rintro e w4 ⟨rfl, rfl⟩
    go_wp2_with fail
    refine (R2.out _).mono ?_
    rintro e w4 ⟨rfl, rfl⟩
    go_wp2
    go_ret
    exact ⟨rfl, B3.out⟩
end Go.Proofs.Ytadppccnngfjiaa
