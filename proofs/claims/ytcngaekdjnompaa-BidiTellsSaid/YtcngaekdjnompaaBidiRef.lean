/-
  Proved here: the document's own 'Has', 'Side', 'End' and 'Rule' of layer 6. Conditions: the slice can be read, and holds at most 10,000 numbers.
-/
import Derived.Test.YtcngaekdjnompaaRefB
import Derived.Test.YtcngaekdjnompaaUtfMore
import Derived.Test.YtcngaekdjnompaaBidiPlain
import Derived.Deep.LoopGhost
namespace Go.Proofs.Ytcngaekdjnompaa
open Go.RowKit
namespace Bidi
theorem drop_at (l : List Int) (k : Nat) (h : k < l.length) : l.drop k = l[k]! :: l.drop (k + 1) := by
  rw [getElem!_pos l k h]
  exact List.drop_eq_getElem_cons h
theorem take_at (l : List Int) (k : Nat) (h : k < l.length) : l.take (k + 1) = l.take k ++ [l[k]!] := by
  rw [getElem!_pos l k h]
  exact List.take_succ_eq_append_getElem h
theorem has_cons (x : Int) (t : List Int) : has (x :: t) = (strong (bidiOf x) || has t) := rfl
theorem stop_snoc (p : List Int) (x : Int) : stop (p ++ [x]) = if bidiOf x = 6 then stop p else bidiOf x := by
  unfold stop
  rw [List.reverse_append]
  rfl
theorem any_snoc (b : Int) (p : List Int) (x : Int) : any b (p ++ [x]) = (any b p || bidiOf x == b) := by rw [any_app]; simp [any]
theorem has_snoc (p : List Int) (x : Int) : has (p ++ [x]) = (has p || strong (bidiOf x)) := by rw [has_app]; simp [has]
def zero (_ : List Int) : Bool := false
theorem zero_snoc (p : List Int) (x : Int) : zero (p ++ [x]) = (zero p || false) := rfl
theorem any_part {b : Int} {l : List Int} {k : Nat} (h : any b (l.take k) = true) : any b l = true := by
  rw [← List.take_append_drop k l, any_app, h]; rfl
theorem has_part {l : List Int} {k : Nat} (h : has (l.take k) = true) : has l = true := by
  rw [← List.take_append_drop k l, has_app, h]; rfl
end Bidi
set_option maxHeartbeats 2000000 in
set_option maxRecDepth 100000 in
theorem has6_any (v : Value) (l : List Int) (w : World) (hl : Runes v l w) (hn : l.length ≤ 10000) : Calls Try.prog 11 #[v] w fun e w' => e = .returned (.bool (Bidi.has l)) ∧ Below w.heap.size w w' := by
  obtain ⟨A, c, rfl, -, hcell⟩ := hl.form
  have HC := Lib.hid hcell
  clear hl hcell
  go_enter Try.func11, Try.ntmps11
  go_wp2
  go_loopg [3, 4] (l.length + 1) (fun gk i _ wr => ∃ k : Nat, k ≤ l.length ∧ i = .int .i64 k ∧ l.length - k < gk ∧ Hid (Bidi.has l = Bidi.has (l.drop k) ∧ Below w.heap.size w wr))
  case atStart => exact ⟨0, Nat.zero_le _, rfl, by omega, ⟨rfl, Below.refl _ _⟩⟩
  case round =>
    obtain ⟨k, hk, rfl, hg, I⟩ := hrel
    by_cases hlt : k < l.length
    · obtain ⟨ad, rfl, hb, hx⟩ := HC.out k hlt
      have hx' := (I.out.2.cell (by rw [add_block]; exact hb)).trans hx
      obtain ⟨x, hxe⟩ : ∃ x, x = l[k]! := ⟨_, rfl⟩
      rw [← hxe] at hx'
      have hd := Bidi.drop_at l k hlt
      rw [← hxe] at hd
      have hh : Bidi.has l = (Bidi.strong (bidiOf x) || Bidi.has (l.drop (k + 1))) := by rw [I.out.1, hd, Bidi.has_cons]
      obtain ⟨b, hbe⟩ : ∃ b, b = bidiOf x := ⟨_, rfl⟩
      have K := Lib.hid (refBidi_any x wr)
      rw [← hbe] at K hh
      have HH := Lib.hid hh
      clear hx hb hxe hd hh hbe
      have hkz : (k : Int) < (l.length : Int) := by omega
      cases hs : Bidi.strong b with
      | true =>
        have hs' : b = 2 ∨ b = 3 ∨ b = 5 := by simpa [Bidi.strong, or_assoc] using hs
        have R := Lib.hid (show Bidi.has l = true by rw [HH.out, hs]; rfl)
        clear hs
        rcases hs' with rfl | rfl | rfl
        all_goals
          go_wp2_with fail
          refine K.out.mono ?_
          rintro e w2 ⟨rfl, hb2⟩
          have B2 := Lib.hid (I.out.2.trans (hb2.mono I.out.2.size))
          clear hb2 K
          go_wp2
          go_ret
          exact ⟨by rw [R.out]; rfl, B2.out⟩
      | false =>
        have hs' : b ≠ 2 ∧ b ≠ 3 ∧ b ≠ 5 := by simpa [Bidi.strong, and_assoc] using hs
        have R := Lib.hid (show Bidi.has l = Bidi.has (l.drop (k + 1)) by rw [HH.out, hs, Bool.false_or])
        have e1 : (b == 2) = false := by simpa using hs'.1
        have e2 : (b == 3) = false := by simpa using hs'.2.1
        have e3 : (b == 5) = false := by simpa using hs'.2.2
        clear hs hs'
        go_wp2_with fail
        refine K.out.mono ?_
        rintro e w2 ⟨rfl, hb2⟩
        have I2 : Hid (Bidi.has l = Bidi.has (l.drop (k + 1)) ∧ Below w.heap.size w w2) := ⟨R.out, I.out.2.trans (hb2.mono I.out.2.size)⟩
        clear hb2 K I
        go_wp2
        go_roundg (l.length - k)
        case measure => omega
        case rel => exact ⟨k + 1, by omega, by go_num, by omega, I2⟩
    · obtain rfl : k = l.length := by omega
      have R := Lib.hid (show Bidi.has l = false by rw [I.out.1, List.drop_length]; rfl)
      go_wp2
      go_ret
      exact ⟨by rw [R.out]; rfl, I.out.2⟩
set_option maxHeartbeats 1000000 in
set_option maxRecDepth 100000 in
theorem side6_any (v : Value) (l : List Int) (w : World) (hl : Runes v l w) (hn : l.length ≤ 10000) : Calls Try.prog 13 #[v] w fun e w' => e = .returned (.int .i64 (Bidi.side l)) ∧ Below w.heap.size w w' := by
  obtain ⟨A, c, rfl, -, hcell⟩ := hl.form
  have HC := Lib.hid hcell
  clear hl hcell
  cases l with
  | nil =>
    go_enter Try.func13, Try.ntmps13
    go_wp2
    go_ret
    exact ⟨rfl, Below.refl _ _⟩
  | cons x t =>
    obtain ⟨ad, rfl, hb, hx⟩ := HC.out 0 (by simp)
    rw [show ad.add 0 = ad by unfold Addr.add; rw [if_pos rfl]] at hx
    simp only [List.getElem!_cons_zero] at hx
    obtain ⟨n, hn0⟩ : ∃ n, n = (x :: t).length := ⟨_, rfl⟩
    have hnz : ((n : Int) == 0) = false := by rw [beq_eq_false_iff_ne]; simp at hn0; omega
    have hn1 : (0 : Int) < (n : Int) := by simp at hn0; omega
    show Calls Try.prog 13 #[.slice (some ad) (x :: t).length c] w fun e w' => e = .returned (.int .i64 (Bidi.sideB (bidiOf x))) ∧ Below w.heap.size w w'
    rw [← hn0]
    clear hn0 hn
    have K := Lib.hid (refBidi_any x w)
    generalize bidiOf x = b at K ⊢
    have cs : b = 3 ∨ b = 1 ∨ b = 2 ∨ (b ≠ 3 ∧ b ≠ 1 ∧ b ≠ 2) := by omega
    rcases cs with rfl | rfl | rfl | ⟨h1, h2, h3⟩
    case inr.inr.inr =>
      have e1 : (b == 3) = false := by simpa using h1
      have e2 : (b == 1) = false := by simpa using h2
      have e3 : (b == 2) = false := by simpa using h3
      have R : Bidi.sideB b = 0 := by unfold Bidi.sideB; rw [if_neg h1, if_neg (by omega)]
      rw [R]
      go_enter Try.func13, Try.ntmps13
      go_wp2_with fail
      refine K.out.mono ?_
      rintro e w2 ⟨rfl, hb2⟩
      have B2 := Lib.hid hb2
      clear hb2
      go_wp2
      go_ret
      exact ⟨rfl, B2.out⟩
    all_goals
      go_enter Try.func13, Try.ntmps13
      go_wp2_with fail
      refine K.out.mono ?_
      rintro e w2 ⟨rfl, hb2⟩
      have B2 := Lib.hid hb2
      clear hb2
      go_wp2
      go_ret
      exact ⟨rfl, B2.out⟩
set_option maxHeartbeats 2000000 in
set_option maxRecDepth 100000 in
theorem end6_any (v : Value) (l : List Int) (w : World) (hl : Runes v l w) (hn : l.length ≤ 10000) : Calls Try.prog 15 #[v] w fun e w' => e = .returned (.int .i64 (Bidi.stop l)) ∧ Below w.heap.size w w' := by
  obtain ⟨A, c, rfl, -, hcell⟩ := hl.form
  have HC := Lib.hid hcell
  clear hl hcell
  go_enter Try.func15, Try.ntmps15
  go_wp2
  go_loopg [3, 4] (l.length + 1) (fun gk i _ wr => ∃ k : Nat, k ≤ l.length ∧ i = .int .i64 ((k : Int) - 1) ∧ k < gk ∧ Hid (Bidi.stop l = Bidi.stop (l.take k) ∧ Below w.heap.size w wr))
  case atStart => exact ⟨l.length, Nat.le_refl _, rfl, by omega, ⟨by rw [List.take_length], Below.refl _ _⟩⟩
  case round =>
    obtain ⟨k, hk, rfl, hg, I⟩ := hrel
    cases k with
    | zero =>
      have R := Lib.hid (show Bidi.stop l = 0 by rw [I.out.1]; rfl)
      go_wp2
      go_ret
      exact ⟨by rw [R.out]; rfl, I.out.2⟩
    | succ k =>
      rw [show ((k + 1 : Nat) : Int) - 1 = (k : Int) by omega]
      have hlt : k < l.length := by omega
      obtain ⟨ad, rfl, hb, hx⟩ := HC.out k hlt
      have hx' := (I.out.2.cell (by rw [add_block]; exact hb)).trans hx
      obtain ⟨x, hxe⟩ : ∃ x, x = l[k]! := ⟨_, rfl⟩
      rw [← hxe] at hx'
      have hh : Bidi.stop l = if bidiOf x = 6 then Bidi.stop (l.take k) else bidiOf x := by rw [I.out.1, Bidi.take_at l k hlt, ← hxe, Bidi.stop_snoc]
      obtain ⟨b, hbe⟩ : ∃ b, b = bidiOf x := ⟨_, rfl⟩
      have K := Lib.hid (refBidi_any x wr)
      rw [← hbe] at K hh
      have HH := Lib.hid hh
      clear hx hb hxe hh hbe
      have hkz : (k : Int) < (l.length : Int) := by omega
      have hk0 : (0 : Int) ≤ (k : Int) := by omega
      by_cases h6 : b = 6
      · have R := Lib.hid (show Bidi.stop l = Bidi.stop (l.take k) by rw [HH.out, if_pos h6])
        subst h6
        go_wp2_with fail
        refine K.out.mono ?_
        rintro e w2 ⟨rfl, hb2⟩
        have I2 : Hid (Bidi.stop l = Bidi.stop (l.take k) ∧ Below w.heap.size w w2) := ⟨R.out, I.out.2.trans (hb2.mono I.out.2.size)⟩
        clear hb2 K I
        go_wp2
        go_roundg (k + 1)
        case measure => omega
        case rel => exact ⟨k, by omega, rfl, by omega, I2⟩
      · have R := Lib.hid (show Bidi.stop l = b by rw [HH.out, if_neg h6])
        have e1 : (b == 6) = false := by simpa using h6
        go_wp2_with fail
        refine K.out.mono ?_
        rintro e w2 ⟨rfl, hb2⟩
        have B2 := Lib.hid (I.out.2.trans (hb2.mono I.out.2.size))
        clear hb2 K
        go_wp2
        go_ret
        exact ⟨by rw [R.out]; rfl, B2.out⟩
/-- Which of five directions it is, or none. -/
theorem dir_cases (b : Int) : ((b == 1) = true ∧ (b == 2) = false ∧ (b == 3) = false ∧ (b == 4) = false ∧ (b == 5) = false) ∨ ((b == 1) = false ∧ (b == 2) = true ∧ (b == 3) = false ∧ (b == 4) = false ∧ (b == 5) = false) ∨
    ((b == 1) = false ∧ (b == 2) = false ∧ (b == 3) = true ∧ (b == 4) = false ∧ (b == 5) = false) ∨ ((b == 1) = false ∧ (b == 2) = false ∧ (b == 3) = false ∧ (b == 4) = true ∧ (b == 5) = false) ∨
    ((b == 1) = false ∧ (b == 2) = false ∧ (b == 3) = false ∧ (b == 4) = false ∧ (b == 5) = true) ∨ ((b == 1) = false ∧ (b == 2) = false ∧ (b == 3) = false ∧ (b == 4) = false ∧ (b == 5) = false) := by
  by_cases h1 : b = 1
  · subst h1; decide
  by_cases h2 : b = 2
  · subst h2; decide
  by_cases h3 : b = 3
  · subst h3; decide
  by_cases h4 : b = 4
  · subst h4; decide
  by_cases h5 : b = 5
  · subst h5; decide
  simp [h1, h2, h3, h4, h5]
set_option maxHeartbeats 8000000 in
set_option maxRecDepth 100000 in
theorem rule6_any (v : Value) (l : List Int) (w : World) (hl : Runes v l w) (hn : l.length ≤ 10000) : Calls Try.prog 17 #[v] w fun e w' => e = .returned (.bool (Bidi.rule l)) ∧ Below w.heap.size w w' := by
  have HL := Lib.hid hl
  obtain ⟨A, c, rfl, -, hcell⟩ := hl.form
  have HC := Lib.hid hcell
  clear hcell
  by_cases hne : l = []
  · subst hne
    clear hl HC HL
    go_enter Try.func17, Try.ntmps17
    go_wp2
    go_ret
    exact ⟨rfl, Below.refl _ _⟩
  have hnl : 0 < l.length := by rcases Nat.eq_zero_or_pos l.length with h | h; exact absurd (List.eq_nil_of_length_eq_zero h) hne; exact h
  have hnz : ((l.length : Int) == 0) = false := by rw [beq_eq_false_iff_ne]; omega
  have KS := Lib.hid (side6_any _ l w hl hn)
  have KE := Lib.hid (fun W (h : Below w.heap.size w W) => end6_any _ l W (HL.out.keep h) hn)
  obtain ⟨en, hen⟩ : ∃ en, Bidi.stop l = en := ⟨_, rfl⟩
  rw [hen] at KE
  have HEN := Lib.hid hen
  clear hl hen
  rcases Bidi.side_cases l with h | h | h
  all_goals
    rw [h] at KS
    have HSD := Lib.hid h
    clear h
  · have RF : Hid (Bidi.zero l = true → Bidi.rule l = false) := Lib.hid (fun h => by cases h)
    have NOGO : Hid (∀ {k : Nat}, Bidi.zero (l.take k) = true → Bidi.zero l = true) := Lib.hid (fun h => by cases h)
    go_enter Try.func17, Try.ntmps17
    go_wp2_with fail
    refine KS.out.mono ?_
    rintro e w1 ⟨rfl, hb1⟩
    have B1 := Lib.hid hb1
    clear hb1
    go_wp2_with fail
    refine (KE.out _ B1.out).mono ?_
    rintro e w2 ⟨rfl, hb2⟩
    have B2 := Lib.hid (below_then B1.out hb2)
    clear hb2 B1
    go_wp2
    go_loopg [5, 6, 7, 8] (l.length + 1) (fun gk s5 s6 i _ wr => ∃ (k : Nat) (nb ar : Bool), s5 = .bool nb ∧ s6 = .bool ar ∧ k ≤ l.length ∧ i = .int .i64 k ∧ l.length - k < gk ∧ Hid (Bidi.any 4 (l.take k) = nb ∧ Bidi.any 5 (l.take k) = ar ∧ Bidi.zero (l.take k) = false ∧ Below w.heap.size w wr))
    case atStart => exact ⟨0, false, false, rfl, rfl, Nat.zero_le _, rfl, by omega, ⟨rfl, rfl, rfl, B2.out⟩⟩
    case round =>
      obtain ⟨k, nb, ar, rfl, rfl, hk, rfl, hg, I⟩ := hrel
      by_cases hlt : k < l.length
      · obtain ⟨ad, rfl, hb, hx⟩ := HC.out k hlt
        have hx' := (I.out.2.2.2.cell (by rw [add_block]; exact hb)).trans hx
        obtain ⟨x, hxe⟩ : ∃ x, x = l[k]! := ⟨_, rfl⟩
        rw [← hxe] at hx'
        have ht := Bidi.take_at l k hlt
        rw [← hxe] at ht
        have h4 : Bidi.any 4 (l.take (k + 1)) = (nb || bidiOf x == 4) := by rw [ht, Bidi.any_snoc, I.out.1]
        have h5 : Bidi.any 5 (l.take (k + 1)) = (ar || bidiOf x == 5) := by rw [ht, Bidi.any_snoc, I.out.2.1]
        have hgd : Bidi.zero (l.take (k + 1)) = (false) := by rw [ht, Bidi.zero_snoc, I.out.2.2.1, Bool.false_or]
        obtain ⟨b, hbe⟩ : ∃ b, b = bidiOf x := ⟨_, rfl⟩
        have K := Lib.hid (refBidi_any x wr)
        rw [← hbe] at K h4 h5
        have H4 := Lib.hid h4
        have H5 := Lib.hid h5
        have HG := Lib.hid hgd
        have BW := Lib.hid I.out.2.2.2
        clear hx hb hxe ht h4 h5 hgd hbe I
        have hkz : (k : Int) < (l.length : Int) := by omega
        rcases dir_cases b with ⟨e1, e2, e3, e4, e5⟩ | ⟨e1, e2, e3, e4, e5⟩ | ⟨e1, e2, e3, e4, e5⟩ | ⟨e1, e2, e3, e4, e5⟩ | ⟨e1, e2, e3, e4, e5⟩ | ⟨e1, e2, e3, e4, e5⟩
        all_goals
          cases nb <;> cases ar
          all_goals
            have h4 := H4.out
            have h5 := H5.out
            have hgd := HG.out
            rw [e4] at h4
            rw [e5] at h5
            skip
            have G4 := Lib.hid h4
            have G5 := Lib.hid h5
            have GG := Lib.hid hgd
            clear h4 h5 hgd H4 H5 HG
            go_wp2_with fail
            refine K.out.mono ?_
            rintro e w3 ⟨rfl, hb3⟩
            have B3 := Lib.hid (BW.out.trans (hb3.mono BW.out.size))
            clear hb3 K BW
            go_wp2
            first
              | (go_ret
                 exact ⟨by rw [RF.out (NOGO.out GG.out)]; rfl, B3.out⟩)
              | (go_roundg (l.length - k)
                 case measure => omega
                 case rel => exact ⟨k + 1, _, _, rfl, rfl, by omega, by go_num, by omega, ⟨G4.out, G5.out, GG.out, B3.out⟩⟩)
      · obtain rfl : k = l.length := by omega
        have h1 := I.out.1
        have h2 := I.out.2.1
        have h3 := I.out.2.2.1
        rw [List.take_length] at h1 h2 h3
        have R := Lib.hid (show Bidi.rule l = (false) by rw [Bidi.rule_ne hne]; unfold Bidi.ruleOf; rw [HSD.out, if_neg (by decide), if_neg (by decide)])
        have BW := Lib.hid I.out.2.2.2
        clear I h1 h2 h3
        rcases dir_cases en with ⟨e1, e2, e3, e4, e5⟩ | ⟨e1, e2, e3, e4, e5⟩ | ⟨e1, e2, e3, e4, e5⟩ | ⟨e1, e2, e3, e4, e5⟩ | ⟨e1, e2, e3, e4, e5⟩ | ⟨e1, e2, e3, e4, e5⟩
        all_goals
          cases nb <;> cases ar
          all_goals
            have r := R.out
            have RR := Lib.hid r
            clear r R
            go_wp2
            go_ret
            exact ⟨by rw [RR.out]; rfl, BW.out⟩
  · have RF : Hid (Bidi.has l = true → Bidi.rule l = false) := Lib.hid (fun h => by rw [Bidi.rule_ne hne]; unfold Bidi.ruleOf; rw [HSD.out, if_neg (by decide), if_pos rfl, h]; rfl)
    have NOGO : Hid (∀ {k : Nat}, Bidi.has (l.take k) = true → Bidi.has l = true) := Lib.hid (fun h => Bidi.has_part h)
    go_enter Try.func17, Try.ntmps17
    go_wp2_with fail
    refine KS.out.mono ?_
    rintro e w1 ⟨rfl, hb1⟩
    have B1 := Lib.hid hb1
    clear hb1
    go_wp2_with fail
    refine (KE.out _ B1.out).mono ?_
    rintro e w2 ⟨rfl, hb2⟩
    have B2 := Lib.hid (below_then B1.out hb2)
    clear hb2 B1
    go_wp2
    go_loopg [5, 6, 7, 8] (l.length + 1) (fun gk s5 s6 i _ wr => ∃ (k : Nat) (nb ar : Bool), s5 = .bool nb ∧ s6 = .bool ar ∧ k ≤ l.length ∧ i = .int .i64 k ∧ l.length - k < gk ∧ Hid (Bidi.any 4 (l.take k) = nb ∧ Bidi.any 5 (l.take k) = ar ∧ Bidi.has (l.take k) = false ∧ Below w.heap.size w wr))
    case atStart => exact ⟨0, false, false, rfl, rfl, Nat.zero_le _, rfl, by omega, ⟨rfl, rfl, rfl, B2.out⟩⟩
    case round =>
      obtain ⟨k, nb, ar, rfl, rfl, hk, rfl, hg, I⟩ := hrel
      by_cases hlt : k < l.length
      · obtain ⟨ad, rfl, hb, hx⟩ := HC.out k hlt
        have hx' := (I.out.2.2.2.cell (by rw [add_block]; exact hb)).trans hx
        obtain ⟨x, hxe⟩ : ∃ x, x = l[k]! := ⟨_, rfl⟩
        rw [← hxe] at hx'
        have ht := Bidi.take_at l k hlt
        rw [← hxe] at ht
        have h4 : Bidi.any 4 (l.take (k + 1)) = (nb || bidiOf x == 4) := by rw [ht, Bidi.any_snoc, I.out.1]
        have h5 : Bidi.any 5 (l.take (k + 1)) = (ar || bidiOf x == 5) := by rw [ht, Bidi.any_snoc, I.out.2.1]
        have hgd : Bidi.has (l.take (k + 1)) = (Bidi.strong (bidiOf x)) := by rw [ht, Bidi.has_snoc, I.out.2.2.1, Bool.false_or]
        obtain ⟨b, hbe⟩ : ∃ b, b = bidiOf x := ⟨_, rfl⟩
        have K := Lib.hid (refBidi_any x wr)
        rw [← hbe] at K h4 h5
        rw [← hbe] at hgd
        have H4 := Lib.hid h4
        have H5 := Lib.hid h5
        have HG := Lib.hid hgd
        have BW := Lib.hid I.out.2.2.2
        clear hx hb hxe ht h4 h5 hgd hbe I
        have hkz : (k : Int) < (l.length : Int) := by omega
        rcases dir_cases b with ⟨e1, e2, e3, e4, e5⟩ | ⟨e1, e2, e3, e4, e5⟩ | ⟨e1, e2, e3, e4, e5⟩ | ⟨e1, e2, e3, e4, e5⟩ | ⟨e1, e2, e3, e4, e5⟩ | ⟨e1, e2, e3, e4, e5⟩
        all_goals
          cases nb <;> cases ar
          all_goals
            have h4 := H4.out
            have h5 := H5.out
            have hgd := HG.out
            rw [e4] at h4
            rw [e5] at h5
            unfold Bidi.strong at hgd; rw [e2, e3, e5] at hgd
            have G4 := Lib.hid h4
            have G5 := Lib.hid h5
            have GG := Lib.hid hgd
            clear h4 h5 hgd H4 H5 HG
            go_wp2_with fail
            refine K.out.mono ?_
            rintro e w3 ⟨rfl, hb3⟩
            have B3 := Lib.hid (BW.out.trans (hb3.mono BW.out.size))
            clear hb3 K BW
            go_wp2
            first
              | (go_ret
                 exact ⟨by rw [RF.out (NOGO.out GG.out)]; rfl, B3.out⟩)
              | (go_roundg (l.length - k)
                 case measure => omega
                 case rel => exact ⟨k + 1, _, _, rfl, rfl, by omega, by go_num, by omega, ⟨G4.out, G5.out, GG.out, B3.out⟩⟩)
      · obtain rfl : k = l.length := by omega
        have h1 := I.out.1
        have h2 := I.out.2.1
        have h3 := I.out.2.2.1
        rw [List.take_length] at h1 h2 h3
        have R := Lib.hid (show Bidi.rule l = (Bidi.goodL en) by rw [Bidi.rule_ne hne]; unfold Bidi.ruleOf; rw [HSD.out, HEN.out, if_neg (by decide), if_pos rfl, h3, Bool.not_false, Bool.true_and])
        have BW := Lib.hid I.out.2.2.2
        clear I h1 h2 h3
        rcases dir_cases en with ⟨e1, e2, e3, e4, e5⟩ | ⟨e1, e2, e3, e4, e5⟩ | ⟨e1, e2, e3, e4, e5⟩ | ⟨e1, e2, e3, e4, e5⟩ | ⟨e1, e2, e3, e4, e5⟩ | ⟨e1, e2, e3, e4, e5⟩
        all_goals
          cases nb <;> cases ar
          all_goals
            have r := R.out
            unfold Bidi.goodL at r
            rw [e1, e4] at r
            have RR := Lib.hid r
            clear r R
            go_wp2
            go_ret
            exact ⟨by rw [RR.out]; rfl, BW.out⟩
  · have RF : Hid (Bidi.any 1 l = true → Bidi.rule l = false) := Lib.hid (fun h => by rw [Bidi.rule_ne hne]; unfold Bidi.ruleOf; rw [HSD.out, if_pos rfl, h]; rfl)
    have NOGO : Hid (∀ {k : Nat}, Bidi.any 1 (l.take k) = true → Bidi.any 1 l = true) := Lib.hid (fun h => Bidi.any_part h)
    go_enter Try.func17, Try.ntmps17
    go_wp2_with fail
    refine KS.out.mono ?_
    rintro e w1 ⟨rfl, hb1⟩
    have B1 := Lib.hid hb1
    clear hb1
    go_wp2_with fail
    refine (KE.out _ B1.out).mono ?_
    rintro e w2 ⟨rfl, hb2⟩
    have B2 := Lib.hid (below_then B1.out hb2)
    clear hb2 B1
    go_wp2
    go_loopg [5, 6, 7, 8] (l.length + 1) (fun gk s5 s6 i _ wr => ∃ (k : Nat) (nb ar : Bool), s5 = .bool nb ∧ s6 = .bool ar ∧ k ≤ l.length ∧ i = .int .i64 k ∧ l.length - k < gk ∧ Hid (Bidi.any 4 (l.take k) = nb ∧ Bidi.any 5 (l.take k) = ar ∧ Bidi.any 1 (l.take k) = false ∧ Below w.heap.size w wr))
    case atStart => exact ⟨0, false, false, rfl, rfl, Nat.zero_le _, rfl, by omega, ⟨rfl, rfl, rfl, B2.out⟩⟩
    case round =>
      obtain ⟨k, nb, ar, rfl, rfl, hk, rfl, hg, I⟩ := hrel
      by_cases hlt : k < l.length
      · obtain ⟨ad, rfl, hb, hx⟩ := HC.out k hlt
        have hx' := (I.out.2.2.2.cell (by rw [add_block]; exact hb)).trans hx
        obtain ⟨x, hxe⟩ : ∃ x, x = l[k]! := ⟨_, rfl⟩
        rw [← hxe] at hx'
        have ht := Bidi.take_at l k hlt
        rw [← hxe] at ht
        have h4 : Bidi.any 4 (l.take (k + 1)) = (nb || bidiOf x == 4) := by rw [ht, Bidi.any_snoc, I.out.1]
        have h5 : Bidi.any 5 (l.take (k + 1)) = (ar || bidiOf x == 5) := by rw [ht, Bidi.any_snoc, I.out.2.1]
        have hgd : Bidi.any 1 (l.take (k + 1)) = (bidiOf x == 1) := by rw [ht, Bidi.any_snoc, I.out.2.2.1, Bool.false_or]
        obtain ⟨b, hbe⟩ : ∃ b, b = bidiOf x := ⟨_, rfl⟩
        have K := Lib.hid (refBidi_any x wr)
        rw [← hbe] at K h4 h5
        rw [← hbe] at hgd
        have H4 := Lib.hid h4
        have H5 := Lib.hid h5
        have HG := Lib.hid hgd
        have BW := Lib.hid I.out.2.2.2
        clear hx hb hxe ht h4 h5 hgd hbe I
        have hkz : (k : Int) < (l.length : Int) := by omega
        rcases dir_cases b with ⟨e1, e2, e3, e4, e5⟩ | ⟨e1, e2, e3, e4, e5⟩ | ⟨e1, e2, e3, e4, e5⟩ | ⟨e1, e2, e3, e4, e5⟩ | ⟨e1, e2, e3, e4, e5⟩ | ⟨e1, e2, e3, e4, e5⟩
        all_goals
          cases nb <;> cases ar
          all_goals
            have h4 := H4.out
            have h5 := H5.out
            have hgd := HG.out
            rw [e4] at h4
            rw [e5] at h5
            rw [e1] at hgd
            have G4 := Lib.hid h4
            have G5 := Lib.hid h5
            have GG := Lib.hid hgd
            clear h4 h5 hgd H4 H5 HG
            go_wp2_with fail
            refine K.out.mono ?_
            rintro e w3 ⟨rfl, hb3⟩
            have B3 := Lib.hid (BW.out.trans (hb3.mono BW.out.size))
            clear hb3 K BW
            go_wp2
            first
              | (go_ret
                 exact ⟨by rw [RF.out (NOGO.out GG.out)]; rfl, B3.out⟩)
              | (go_roundg (l.length - k)
                 case measure => omega
                 case rel => exact ⟨k + 1, _, _, rfl, rfl, by omega, by go_num, by omega, ⟨G4.out, G5.out, GG.out, B3.out⟩⟩)
      · obtain rfl : k = l.length := by omega
        have h1 := I.out.1
        have h2 := I.out.2.1
        have h3 := I.out.2.2.1
        rw [List.take_length] at h1 h2 h3
        have R := Lib.hid (show Bidi.rule l = (Bidi.goodR en && !(nb && ar)) by rw [Bidi.rule_ne hne]; unfold Bidi.ruleOf; rw [HSD.out, HEN.out, if_pos rfl, h1, h2, h3, Bool.not_false, Bool.true_and])
        have BW := Lib.hid I.out.2.2.2
        clear I h1 h2 h3
        rcases dir_cases en with ⟨e1, e2, e3, e4, e5⟩ | ⟨e1, e2, e3, e4, e5⟩ | ⟨e1, e2, e3, e4, e5⟩ | ⟨e1, e2, e3, e4, e5⟩ | ⟨e1, e2, e3, e4, e5⟩ | ⟨e1, e2, e3, e4, e5⟩
        all_goals
          cases nb <;> cases ar
          all_goals
            have r := R.out
            unfold Bidi.goodR at r
            rw [e2, e3, e4, e5] at r
            have RR := Lib.hid r
            clear r R
            go_wp2
            go_ret
            exact ⟨by rw [RR.out]; rfl, BW.out⟩
end Go.Proofs.Ytcngaekdjnompaa
