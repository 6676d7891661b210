/-
  Proved here: the law LexQuotes, given what the program's functions tell. Conditions: none.
-/
import Derived.Test.YtmcjgdajnppbhaaGreatDoorLexLawD
namespace Go.Proofs.YtmcjgdajnppbhaaGreatDoor
open Go.RowKit Utf
open Lex (Tok)
namespace Lex
theorem fine_is (c : UInt8) : fineB c = (c.toNat == 9 || (decide (32 ≤ c.toNat) && (c.toNat != 127))) := by
  have h := bytes_all (p := fun c => fineB c == (c.toNat == 9 || (decide (32 ≤ c.toNat) && (c.toNat != 127)))) (by decide +kernel) c
  simpa using h
theorem esc_few (x : List UInt8) : (srcT 1 x).length ≤ 2 * x.length + 2 := by
  have := esc_len x
  rw [srcT, if_neg (by decide), if_neg (by decide), if_pos rfl]
  simp
  omega
end Lex
set_option maxHeartbeats 8000000 in
set_option maxRecDepth 100000 in
theorem quotes12_walk (B : LexOk) (s : ByteArray) (w : World) : Calls Tryz.prog 7 #[.string s] w fun e w' => e = .returned (.bool true) ∧ Below w.heap.size w w' := by
  have hsl : s.data.toList.length = s.size := by simp
  by_cases h1 : 900 < s.size
  · have q1 : (900 : Int) < (s.size : Int) := by omega
    clear h1
    go_enter Tryz.func7, Tryz.ntmps7
    go_wp2_with fail
    refine (small12_any B _).mono ?_
    rintro e w0 ⟨rfl, hb0⟩
    have B0 := Lib.hid hb0
    clear hb0
    go_wp2
    go_ret
    exact ⟨rfl, B0.out⟩
  have q1 : ¬ (900 : Int) < (s.size : Int) := by omega
  go_enter Tryz.func7, Tryz.ntmps7
  go_wp2_with fail
  refine (small12_any B _).mono ?_
  rintro e w0 ⟨rfl, hb0⟩
  have B0 := Lib.hid hb0
  clear hb0
  go_wp2
  go_loopg [4, 5] (s.size + 1) (fun gk s4 s5 wr => ∃ (i : Nat) (b : Bool), s5 = .int .i64 i ∧ s4 = .bool b ∧ i ≤ s.size ∧ s.size - i < gk ∧ Hid (b = (s.data.toList.take i).all Lex.fineB) ∧ w0 = wr)
  case atStart => exact ⟨0, true, rfl, rfl, Nat.zero_le _, by omega, Lib.hid rfl, rfl⟩
  case round =>
    obtain ⟨i, b, rfl, rfl, hi, hg, I, rfl⟩ := hrel
    by_cases hlt : i < s.size
    · have hiz : (i : Int) < (s.size : Int) := by omega
      have I2 : Hid ((b && ((s[i].toNat == 9) || (decide (32 ≤ s[i].toNat) && (s[i].toNat != 127)))) = (s.data.toList.take (i + 1)).all Lex.fineB) := Lib.hid (by
        rw [Lex.take_more hlt, List.all_append, ← I.out, ← Lex.fine_is]
        simp)
      have e1 : ((s[i].toNat : Int) == 9) = (s[i].toNat == 9) := by rw [Bool.eq_iff_iff, beq_iff_eq, beq_iff_eq]; omega
      have e2 : decide ((32 : Int) ≤ (s[i].toNat : Int)) = decide (32 ≤ s[i].toNat) := decide_eq_decide.2 (by omega)
      have e3 : ((s[i].toNat : Int) != 127) = (s[i].toNat != 127) := by rw [Bool.eq_iff_iff, bne_iff_ne, bne_iff_ne]; omega
      generalize (s[i].toNat == 9) = x1 at I2 e1
      generalize decide (32 ≤ s[i].toNat) = x2 at I2 e2
      generalize (s[i].toNat != 127) = x3 at I2 e3
      clear I
      cases b <;> cases x1 <;> cases x2 <;> cases x3
      all_goals
        go_wp2
        go_roundg (s.size - i)
        case measure => omega
        case rel => exact ⟨i + 1, _, by go_num, rfl, by omega, by omega, I2, rfl⟩
    · obtain rfl : i = s.size := by omega
      have hiz : ¬ (s.size : Int) < (s.size : Int) := by omega
      have hb : b = s.data.toList.all Lex.fineB := by have := I.out; rwa [List.take_of_length_le (by rw [hsl]; exact Nat.le_refl _)] at this
      have KS := Lib.hid (fun W => B.source 1 0 s W (by omega))
      obtain ⟨t, ht⟩ : ∃ t : ByteArray, t = ⟨(Lex.srcT 1 s.data.toList).toArray⟩ := ⟨_, rfl⟩
      rw [← ht] at KS
      have htl : t.data.toList = Lex.srcT 1 s.data.toList := by rw [ht]
      have hfew := Lex.esc_few s.data.toList
      have htz : t.size ≤ 2000 := by rw [ht]; show (Lex.srcT 1 s.data.toList).toArray.size ≤ _; rw [List.size_toArray]; omega
      by_cases hr : (rdOf (Lex.srcT 1 s.data.toList)).2 = -1
      · rcases Lex.lex_quote (x := s.data.toList) (by omega) hr with ⟨hall, hx⟩ | ⟨⟨c, hc, hcf⟩, p, hx⟩
        · have hx' : Lex.lexE t.data.toList = (0, 0, [⟨1, s.data.toList, 0⟩]) := htl ▸ hx
          have KL := Lib.hid (fun W => B.lex_at t W (by omega) hx')
          obtain rfl : b = true := by rw [hb, List.all_eq_true]; exact hall
          clear hb I ht htl hfew hr hx hx' hall
          go_wp2_with fail
          with_reducible refine (KS.out _).mono ?_
          rintro e w1 ⟨rfl, hb1⟩
          have B1 := Lib.hid (below_then B0.out hb1)
          clear hb1
          go_wp2_with fail
          with_reducible refine (KL.out _).mono ?_
          rintro e w2 ⟨A, c, rfl, hT, hb2⟩
          have B2 := Lib.hid (below_then B1.out hb2)
          obtain ⟨g, o, rfl, -, t0, t1, -⟩ := tok_first hT
          have t1' : w2.cell? ⟨g, o + 1, none⟩ = some (.string s) := by rw [t1, Lex.ba_list]
          have hc1 : 1 ≤ c := (hT.lies (by simp)).2.1
          clear hT hb2 t1
          go_wp2
          go_ret
          exact ⟨rfl, B2.out⟩
        · have hx' : Lex.lexE t.data.toList = (4, p, []) := htl ▸ hx
          have KL := Lib.hid (fun W => B.lex_at t W (by omega) hx')
          obtain rfl : b = false := by rw [hb, List.all_eq_false]; exact ⟨c, hc, by rw [hcf]; decide⟩
          clear hb I ht htl hfew hr hx hx' hc hcf
          go_wp2_with fail
          with_reducible refine (KS.out _).mono ?_
          rintro e w1 ⟨rfl, hb1⟩
          have B1 := Lib.hid (below_then B0.out hb1)
          clear hb1
          go_wp2_with fail
          with_reducible refine (KL.out _).mono ?_
          rintro e w2 ⟨A, c, rfl, hT, hb2⟩
          have B2 := Lib.hid (below_then B1.out hb2)
          clear hT hb2
          go_wp2
          go_ret
          exact ⟨rfl, B2.out⟩
      · have hx : Lex.lexE t.data.toList = (7, (rdOf t.data.toList).2.toNat, []) := by
          rw [htl]
          unfold Lex.lexE
          rw [if_neg (by omega), if_neg hr]
        have KL := Lib.hid (fun W => B.lex_at t W (by omega) hx)
        clear hb I ht htl hfew hr hx
        go_wp2_with fail
        with_reducible refine (KS.out _).mono ?_
        rintro e w1 ⟨rfl, hb1⟩
        have B1 := Lib.hid (below_then B0.out hb1)
        clear hb1
        go_wp2_with fail
        with_reducible refine (KL.out _).mono ?_
        rintro e w2 ⟨A, c, rfl, hT, hb2⟩
        have B2 := Lib.hid (below_then B1.out hb2)
        clear hT hb2
        go_wp2
        go_ret
        exact ⟨rfl, B2.out⟩
end Go.Proofs.YtmcjgdajnppbhaaGreatDoor
