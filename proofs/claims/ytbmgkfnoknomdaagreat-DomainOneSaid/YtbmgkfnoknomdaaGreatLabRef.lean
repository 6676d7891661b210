/-
  Proved here: the document's own Char, dash and Plain of layer 8. Conditions: strings of at most 100,000 bytes.
-/
import Derived.Test.YtbmgkfnoknomdaaGreatLabFine
import Derived.Test.YtbmgkfnoknomdaaGreatUcdAll
import Derived.Deep.LoopGhost
namespace Go.Proofs.YtbmgkfnoknomdaaGreat
open Go.RowKit Utf
set_option maxHeartbeats 4000000 in
set_option maxRecDepth 100000 in
theorem char8_any (r : Int) (w : World) : Calls Tryz.prog 75 #[.int .i32 r] w fun e w' => e = .returned (.bool (Lab.charOk r)) ∧ Below w.heap.size w w' := by
  by_cases h45 : r = 45
  · subst h45
    go_enter Tryz.func75, Tryz.ntmps75
    go_wp2
    go_ret
    exact ⟨rfl, Below.refl _ _⟩
  · have e45 : (r == 45) = false := by simpa using h45
    have KC := Lib.hid (refCat_any r w)
    have KS := fun W => refSplit_any r W
    rw [Lab.char_split e45]
    generalize catOf r = c at KC ⊢
    unfold TellsSp at KS
    generalize (splitOf r).getD default = y at KS ⊢
    generalize (splitOf r).isSome = is at KS ⊢
    clear h45
    obtain ⟨v0, v1, v2, v3, v4⟩ := y
    simp only [encSp] at KS
    have KS := Lib.hid KS
    have hcs : c < 2 ∨ (2 ≤ c ∧ c ≤ 5) ∨ 5 < c := by omega
    rcases hcs with h | ⟨h, h'⟩ | h
    · rw [decide_eq_false (p := 2 ≤ c) (by omega), Bool.false_and, Bool.false_and]
      go_enter Tryz.func75, Tryz.ntmps75
      go_wp2_with fail
      refine KC.out.mono ?_
      rintro e w2 ⟨rfl, hb2⟩
      have B2 := Lib.hid hb2
      clear hb2
      go_wp2_with fail
      refine (KS.out w2).mono ?_
      rintro e w3 ⟨rfl, hb3⟩
      have B3 := Lib.hid (below_then B2.out hb3)
      clear hb3
      go_wp2
      go_ret
      exact ⟨rfl, below_new B3.out (Nat.le_refl _) _⟩
    · rw [decide_eq_true h, decide_eq_true h', Bool.and_true, Bool.true_and]
      cases is
      · go_enter Tryz.func75, Tryz.ntmps75
        go_wp2_with fail
        refine KC.out.mono ?_
        rintro e w2 ⟨rfl, hb2⟩
        have B2 := Lib.hid hb2
        clear hb2
        go_wp2_with fail
        refine (KS.out w2).mono ?_
        rintro e w3 ⟨rfl, hb3⟩
        have B3 := Lib.hid (below_then B2.out hb3)
        clear hb3
        go_wp2
        go_ret
        exact ⟨rfl, below_new B3.out (Nat.le_refl _) _⟩
      · cases v3 <;> cases v4
        all_goals
          go_enter Tryz.func75, Tryz.ntmps75
          go_wp2_with fail
          refine KC.out.mono ?_
          rintro e w2 ⟨rfl, hb2⟩
          have B2 := Lib.hid hb2
          clear hb2
          go_wp2_with fail
          refine (KS.out w2).mono ?_
          rintro e w3 ⟨rfl, hb3⟩
          have B3 := Lib.hid (below_then B2.out hb3)
          clear hb3
          go_wp2
          go_ret
          exact ⟨rfl, below_new B3.out (Nat.le_refl _) _⟩
    · rw [decide_eq_false (p := c ≤ 5) (by omega), Bool.and_false, Bool.false_and]
      go_enter Tryz.func75, Tryz.ntmps75
      go_wp2_with fail
      refine KC.out.mono ?_
      rintro e w2 ⟨rfl, hb2⟩
      have B2 := Lib.hid hb2
      clear hb2
      go_wp2_with fail
      refine (KS.out w2).mono ?_
      rintro e w3 ⟨rfl, hb3⟩
      have B3 := Lib.hid (below_then B2.out hb3)
      clear hb3
      go_wp2
      go_ret
      exact ⟨rfl, below_new B3.out (Nat.le_refl _) _⟩
set_option maxHeartbeats 4000000 in
set_option maxRecDepth 100000 in
theorem dash8_any (s : ByteArray) (w : World) (hs : s.size ≤ 100000) : Calls Tryz.prog 72 #[.string s] w fun e w' => e = .returned (.bool (Lab.dashed s.data.toList)) ∧ w = w' := by
  have hsl : s.data.toList.length = s.size := by simp
  by_cases h0 : s.size = 0
  · have hz : ¬ (0 : Int) < (s.size : Int) := by omega
    have : Lab.dashed s.data.toList = false := by
      rw [List.eq_nil_of_length_eq_zero (show s.data.toList.length = 0 by omega)]; rfl
    rw [this]
    clear this hsl h0
    go_enter Tryz.func72, Tryz.ntmps72
    go_wp2
    go_ret
    exact ⟨rfl, rfl⟩
  · unfold Lab.dashed
    rw [hsl]
    have hz : (0 : Int) < (s.size : Int) := by omega
    have hz2 : 0 < s.size := by omega
    have a0 : Lab.byteAt s.data.toList 0 = (s[0].toNat : Int) := Lab.byteAt_get (s := s) (k := 0) (by omega)
    have a1 : Lab.byteAt s.data.toList (s.size - 1) = (s[s.size - 1].toNat : Int) := Lab.byteAt_get (s := s) (k := s.size - 1) (by omega)
    rw [a0, a1]
    clear a0 a1
    cases e0 : ((s[0].toNat : Int) == 45)
    · cases e1 : ((s[s.size - 1].toNat : Int) == 45)
      · by_cases h3 : 3 < s.size
        · have h3z : (3 : Int) < (s.size : Int) := by omega
          have a2 : Lab.byteAt s.data.toList 2 = (s[2].toNat : Int) := Lab.byteAt_get (s := s) (k := 2) (by omega)
          have a3 : Lab.byteAt s.data.toList 3 = (s[3].toNat : Int) := Lab.byteAt_get (s := s) (k := 3) (by omega)
          rw [a2, a3, Bool.false_or, Bool.false_or, decide_eq_true h3, Bool.true_and]
          clear a2 a3
          cases e2 : ((s[2].toNat : Int) == 45) <;> cases e3 : ((s[3].toNat : Int) == 45)
          all_goals
            go_enter Tryz.func72, Tryz.ntmps72
            go_wp2
            go_ret
            exact ⟨rfl, rfl⟩
        · have h3z : (s.size : Int) ≤ 3 := by omega
          rw [decide_eq_false h3, Bool.false_and, Bool.false_and, Bool.false_or, Bool.false_or]
          clear h3
          go_enter Tryz.func72, Tryz.ntmps72
          go_wp2
          go_ret
          exact ⟨rfl, rfl⟩
      · rw [Bool.false_or, Bool.true_or]
        go_enter Tryz.func72, Tryz.ntmps72
        go_wp2
        go_ret
        exact ⟨rfl, rfl⟩
    · rw [Bool.true_or, Bool.true_or]
      go_enter Tryz.func72, Tryz.ntmps72
      go_wp2
      go_ret
      exact ⟨rfl, rfl⟩
set_option maxHeartbeats 4000000 in
set_option maxRecDepth 100000 in
theorem plain8_ref (s : ByteArray) (w : World) (hs : s.size ≤ 100000) : Calls Tryz.prog 52 #[.string s] w fun e w' => e = .returned (.int .i64 (Lab.plainE s.data.toList)) ∧ w = w' := by
  have hsl : s.data.toList.length = s.size := by simp
  by_cases h0 : s.size = 0
  · have he : s.data.toList = [] := List.eq_nil_of_length_eq_zero (by omega)
    have hp : Lab.plainE s.data.toList = 13 := by rw [he]; rfl
    have hse : s = ⟨#[]⟩ := ByteArray.ext (Array.eq_empty_of_size_eq_zero h0)
    rw [hp]
    subst hse
    clear hp he hsl h0 hs
    go_enter Tryz.func52, Tryz.ntmps52
    go_wp2
    go_ret
    exact ⟨rfl, rfl⟩
  · have hz : (0 : Int) < (s.size : Int) := by omega
    have hne : s.toList.isEmpty = false := by rw [ByteArray.toList_eq, List.isEmpty_eq_false_iff]; intro e; rw [e] at hsl; simp at hsl; omega
    by_cases h63 : 63 < s.size
    · have hp : Lab.plainE s.data.toList = 5 := by unfold Lab.plainE; rw [hsl, if_neg h0, if_pos h63]
      have h63z : (63 : Int) < (s.size : Int) := by omega
      rw [hp]
      clear hp hsl h0 h63
      go_enter Tryz.func52, Tryz.ntmps52
      go_wp2
      go_ret
      exact ⟨rfl, rfl⟩
    · have hp : Lab.plainE s.data.toList = if (s.data.toList.all fun c => Bidi.plainC (c.toNat : Int)) = false then 8 else if Lab.dashed s.data.toList then 11 else 0 := by unfold Lab.plainE; rw [hsl, if_neg h0, if_neg h63]
      obtain ⟨p, hpp⟩ : ∃ p, p = Lab.plainE s.data.toList := ⟨_, rfl⟩
      rw [← hpp] at hp ⊢
      have HP := Lib.hid hp
      have HSL := Lib.hid hsl
      have KD := dash8_any s w hs
      obtain ⟨d, hd⟩ : ∃ d, d = Lab.dashed s.data.toList := ⟨_, rfl⟩
      rw [← hd] at KD
      have HD := Lib.hid hd
      have KD := Lib.hid KD
      have h63z : (s.size : Int) ≤ 63 := by omega
      clear hp hpp hsl h0 h63 hd
      go_enter Tryz.func52, Tryz.ntmps52
      go_wp2
      go_loopg [3, 4, 5] (s.size + 1) (fun gk i _ _ wr => ∃ k : Nat, k ≤ s.size ∧ i = .int .i64 k ∧ s.size - k < gk ∧ Hid ((∀ j, j < k → Bidi.plainC (Lab.byteAt s.data.toList j) = true) ∧ w = wr))
      case atStart => exact ⟨0, Nat.zero_le _, rfl, by omega, ⟨fun j hj => absurd hj (Nat.not_lt_zero _), rfl⟩⟩
      case round =>
        obtain ⟨k, hk, rfl, hg, I⟩ := hrel
        obtain rfl := I.out.2
        by_cases hlt : k < s.size
        · have hb := Lab.byteAt_get hlt
          have hb0 : 0 ≤ (s[k].toNat : Int) := by omega
          have hb1 : (s[k].toNat : Int) ≤ 255 := by have := UInt8.toNat_lt s[k]; omega
          have hkz : (k : Int) < (s.size : Int) := by omega
          have hcs := plain_kinds hb0
          rw [← hb] at hcs
          have HB := Lib.hid hb
          clear hb
          rcases hcs with ⟨hpc, hcs⟩ | ⟨hpc, hcs⟩
          · have R := Lib.hid (show p = 8 by rw [HP.out, if_pos (plain_not (by have := HSL.out; omega) hpc)])
            rw [HB.out] at hcs
            clear hpc
            have e45 : ((s[k].toNat : Int) == 45) = false := by rw [beq_eq_false_iff_ne]; omega
            have f45 : ((s[k].toNat : Int) != 45) = true := by rw [bne_iff_ne]; omega
            rcases hcs with h | ⟨h, h'⟩ | ⟨h, h'⟩ | ⟨h, h'⟩ | h
            all_goals
              first | have d97 : decide (97 ≤ (s[k].toNat : Int)) = true := decide_eq_true (by omega) | have d97 : decide (97 ≤ (s[k].toNat : Int)) = false := decide_eq_false (by omega)
              first | have d122 : decide ((s[k].toNat : Int) ≤ 122) = true := decide_eq_true (by omega) | have d122 : decide ((s[k].toNat : Int) ≤ 122) = false := decide_eq_false (by omega)
              first | have d65 : decide (65 ≤ (s[k].toNat : Int)) = true := decide_eq_true (by omega) | have d65 : decide (65 ≤ (s[k].toNat : Int)) = false := decide_eq_false (by omega)
              first | have d90 : decide ((s[k].toNat : Int) ≤ 90) = true := decide_eq_true (by omega) | have d90 : decide ((s[k].toNat : Int) ≤ 90) = false := decide_eq_false (by omega)
              first | have d48 : decide ((s[k].toNat : Int) < 48) = true := decide_eq_true (by omega) | have d48 : decide ((s[k].toNat : Int) < 48) = false := decide_eq_false (by omega)
              first | have d57 : decide (57 < (s[k].toNat : Int)) = true := decide_eq_true (by omega) | have d57 : decide (57 < (s[k].toNat : Int)) = false := decide_eq_false (by omega)
              go_wp2
              go_ret
              exact ⟨by rw [R.out]; rfl, rfl⟩
          · have I2 : Hid (∀ j, j < k + 1 → Bidi.plainC (Lab.byteAt s.data.toList j) = true) := Lib.hid (fun j hj => by
              by_cases e : j = k
              · subst e; exact hpc
              · exact I.out.1 j (by omega))
            rw [HB.out] at hcs
            clear hpc
            rcases hcs with h | ⟨h, h'⟩ | ⟨h, h'⟩ | ⟨h, h'⟩
            all_goals
              first | have d97 : decide (97 ≤ (s[k].toNat : Int)) = true := decide_eq_true (by omega) | have d97 : decide (97 ≤ (s[k].toNat : Int)) = false := decide_eq_false (by omega)
              first | have d122 : decide ((s[k].toNat : Int) ≤ 122) = true := decide_eq_true (by omega) | have d122 : decide ((s[k].toNat : Int) ≤ 122) = false := decide_eq_false (by omega)
              first | have d65 : decide (65 ≤ (s[k].toNat : Int)) = true := decide_eq_true (by omega) | have d65 : decide (65 ≤ (s[k].toNat : Int)) = false := decide_eq_false (by omega)
              first | have d90 : decide ((s[k].toNat : Int) ≤ 90) = true := decide_eq_true (by omega) | have d90 : decide ((s[k].toNat : Int) ≤ 90) = false := decide_eq_false (by omega)
              first | have d48 : decide ((s[k].toNat : Int) < 48) = true := decide_eq_true (by omega) | have d48 : decide ((s[k].toNat : Int) < 48) = false := decide_eq_false (by omega)
              first | have d57 : decide (57 < (s[k].toNat : Int)) = true := decide_eq_true (by omega) | have d57 : decide (57 < (s[k].toNat : Int)) = false := decide_eq_false (by omega)
              go_wp2
              go_roundg (s.size - k)
              case measure => omega
              case rel => exact ⟨k + 1, by omega, by go_num, by omega, ⟨I2.out, rfl⟩⟩
        · obtain rfl : k = s.size := by omega
          have hkz : ¬ (s.size : Int) < (s.size : Int) := by omega
          have R := Lib.hid (show p = if d then 11 else 0 by rw [HP.out, if_neg (by rw [plain_all (fun j hj => I.out.1 j (by have := HSL.out; omega))]; decide), HD.out])
          cases d
          all_goals
            go_wp2_with fail
            refine KD.out.mono ?_
            rintro e w3 ⟨rfl, rfl⟩
            go_wp2
            go_ret
            exact ⟨by rw [R.out]; rfl, rfl⟩
end Go.Proofs.YtbmgkfnoknomdaaGreat
