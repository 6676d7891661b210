/-
  Proved here: the document's own Char, dash and Plain of layer 8. Conditions: strings of at most 100,000 bytes.
-/
import Derived.Test.YtmbammhkkcnoaaaGreatLabFine
import Derived.Test.YtmbammhkkcnoaaaGreatUcdAll
import Derived.Deep.LoopGhost
namespace Go.Proofs.YtmbammhkkcnoaaaGreat
open Go.RowKit Utf
set_option maxHeartbeats 4000000 in
set_option maxRecDepth 100000 in
theorem char8_any (r : Int) (w : World) : Calls Tryz.prog 41 #[.int .i32 r] w fun e w' => e = .returned (.bool (Lab.charOk r)) ∧ Below w.heap.size w w' := by
  by_cases h45 : r = 45
  · subst h45
    go_enter Tryz.func41, Tryz.ntmps41
    go_wp2
    go_ret
    exact ⟨rfl, Below.refl _ _⟩
  · have e45 : (r == 45) = false := by simpa using h45
    have KC := Lib.hid (refCat_any r w)
    have KS := fun W => refSplit_any r W
    rw [Lab.char_split e45]
    generalize catOf r = c at KC ⊢
    unfold TellsSp at KS
    generalize (splitOf r).getD default = y at KS ⊢
    generalize (splitOf r).isSome = is at KS ⊢
    clear h45
    obtain ⟨v0, v1, v2, v3, v4⟩ := y
    simp only [encSp] at KS
    have KS := Lib.hid KS
    have hcs : c < 2 ∨ (2 ≤ c ∧ c ≤ 5) ∨ 5 < c := by omega
    rcases hcs with h | ⟨h, h'⟩ | h
    · rw [decide_eq_false (p := 2 ≤ c) (by omega), Bool.false_and, Bool.false_and]
      go_enter Tryz.func41, Tryz.ntmps41
      go_wp2_with fail
      refine KC.out.mono ?_
      rintro e w2 ⟨rfl, hb2⟩
      have B2 := Lib.hid hb2
      clear hb2
      go_wp2_with fail
      refine (KS.out w2).mono ?_
      rintro e w3 ⟨rfl, hb3⟩
      have B3 := Lib.hid (below_then B2.out hb3)
      clear hb3
      go_wp2
      go_ret
      exact ⟨rfl, below_new B3.out (Nat.le_refl _) _⟩
    · rw [decide_eq_true h, decide_eq_true h', Bool.and_true, Bool.true_and]
      cases is
      · go_enter Tryz.func41, Tryz.ntmps41
        go_wp2_with fail
        refine KC.out.mono ?_
        rintro e w2 ⟨rfl, hb2⟩
        have B2 := Lib.hid hb2
        clear hb2
        go_wp2_with fail
        refine (KS.out w2).mono ?_
        rintro e w3 ⟨rfl, hb3⟩
        have B3 := Lib.hid (below_then B2.out hb3)
        clear hb3
        go_wp2
        go_ret
        exact ⟨rfl, below_new B3.out (Nat.le_refl _) _⟩
      · cases v3 <;> cases v4
        all_goals
          go_enter Tryz.func41, Tryz.ntmps41
          go_wp2_with fail
          refine KC.out.mono ?_
          rintro e w2 ⟨rfl, hb2⟩
          have B2 := Lib.hid hb2
          clear hb2
          go_wp2_with fail
          refine (KS.out w2).mono ?_
          rintro e w3 ⟨rfl, hb3⟩
          have B3 := Lib.hid (below_then B2.out hb3)
          clear hb3
          go_wp2
          go_ret
          exact ⟨rfl, below_new B3.out (Nat.le_refl _) _⟩
    · rw [decide_eq_false (p := c ≤ 5) (by omega), Bool.and_false, Bool.false_and]
      go_enter Tryz.func41, Tryz.ntmps41
      go_wp2_with fail
      refine KC.out.mono ?_
      rintro e w2 ⟨rfl, hb2⟩
      have B2 := Lib.hid hb2
      clear hb2
      go_wp2_with fail
      refine (KS.out w2).mono ?_
      rintro e w3 ⟨rfl, hb3⟩
      have B3 := Lib.hid (below_then B2.out hb3)
      clear hb3
      go_wp2
      go_ret
      exact ⟨rfl, below_new B3.out (Nat.le_refl _) _⟩
end Go.Proofs.YtmbammhkkcnoaaaGreat
