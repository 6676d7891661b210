/-
  Proved here: the document's own answers of layer 7. Conditions: the slice can be read, and holds at most 10,000 numbers.
-/
import Derived.Test.YtoekkiodhbejpaaRefB
import Derived.Test.YtoekkiodhbejpaaUtfMore
import Derived.Test.YtoekkiodhbejpaaCtxPlain
import Derived.Deep.LoopGhost
namespace Go.Proofs.Ytoekkiodhbejpaa
open Go.RowKit
namespace Ctx
theorem drop_at (l : List Int) (k : Nat) (h : k < l.length) : l.drop k = l[k]! :: l.drop (k + 1) := by
  rw [getElem!_pos l k h]
  exact List.drop_eq_getElem_cons h
theorem take_rev (l : List Int) (k : Nat) (h : k < l.length) : (l.take (k + 1)).reverse = l[k]! :: (l.take k).reverse := by
  rw [getElem!_pos l k h, List.take_succ_eq_append_getElem h, List.reverse_append]
  rfl
theorem met_at {l : List Int} {k : Nat} {x : Int} (hx : l[k]! = x) : met l k =
  if x = 8205 then virama l k else if x = 8204 then virama l k || joined l k
  else if x = 183 then at0 l ((k : Int) - 1) == 108 && at0 l ((k : Int) + 1) == 108
  else if x = 885 then scriptOf (at0 l ((k : Int) + 1)) == 2
  else if x = 1523 ∨ x = 1524 then scriptOf (at0 l ((k : Int) - 1)) == 4
  else if x = 12539 then asian l
  else if x < 1700 then !among l 1776 1785 else !among l 1632 1641 := by unfold met; rw [hx]
theorem among_cons (x : Int) (t : List Int) (lo hi : Int) : among (x :: t) lo hi = ((decide (lo ≤ x) && decide (x ≤ hi)) || among t lo hi) := rfl
theorem asian_cons (x : Int) (t : List Int) : asian (x :: t) = ((scriptOf x == 7 || scriptOf x == 8) || asian t) := rfl
end Ctx
set_option maxHeartbeats 1000000 in
theorem beside7_any (v : Value) (l : List Int) (i : Int) (w : World) (hl : Runes v l w) (hi : -1000000 ≤ i ∧ i ≤ 9223372036854775807) :
    Calls Try.prog 38 #[v, .int .i64 i] w fun e w' => e = .returned (.int .i32 (Ctx.at0 l i)) ∧ w = w' := by
  obtain ⟨A, c, rfl, -, hcell⟩ := hl.form
  obtain ⟨hi0, hi1⟩ := hi
  by_cases h0 : i < 0
  · rw [Ctx.at0_out (.inl h0)]
    clear hcell hl
    go_enter Try.func38, Try.ntmps38
    go_wp2
    go_ret
    exact ⟨rfl, rfl⟩
  · by_cases h1 : (l.length : Int) ≤ i
    · rw [Ctx.at0_out (.inr h1)]
      have h00 : (0 : Int) ≤ i := by omega
      clear hcell hl h0
      go_enter Try.func38, Try.ntmps38
      go_wp2
      go_ret
      exact ⟨rfl, rfl⟩
    · obtain ⟨k, rfl⟩ : ∃ k : Nat, i = k := ⟨i.toNat, by omega⟩
      have hk : k < l.length := by omega
      have hkz : (k : Int) < (l.length : Int) := by omega
      rw [Ctx.at0_in hk]
      obtain ⟨ad, rfl, hb, hx⟩ := hcell k hk
      generalize l[k]! = x at hx ⊢
      clear hcell hl h0 h1
      go_enter Try.func38, Try.ntmps38
      go_wp2
      go_ret
      exact ⟨rfl, rfl⟩
set_option maxHeartbeats 2000000 in
set_option maxRecDepth 100000 in
theorem among7_any (v : Value) (l : List Int) (lo hi : Int) (w : World) (hl : Runes v l w) (hn : l.length ≤ 10000) :
    Calls Try.prog 42 #[v, .int .i32 lo, .int .i32 hi] w fun e w' => e = .returned (.bool (Ctx.among l lo hi)) ∧ Below w.heap.size w w' := by
  obtain ⟨A, c, rfl, -, hcell⟩ := hl.form
  have HC := Lib.hid hcell
  clear hl hcell
  go_enter Try.func42, Try.ntmps42
  go_wp2
  go_loopg [7] (l.length + 1) (fun gk i wr => ∃ k : Nat, k ≤ l.length ∧ i = .int .i64 k ∧ l.length - k < gk ∧ Hid (Ctx.among l lo hi = Ctx.among (l.drop k) lo hi ∧ Below w.heap.size w wr))
  case atStart => exact ⟨0, Nat.zero_le _, rfl, by omega, ⟨rfl, Below.refl _ _⟩⟩
  case round =>
    obtain ⟨k, hk, rfl, hg, I⟩ := hrel
    by_cases hlt : k < l.length
    · obtain ⟨ad, rfl, hb, hx⟩ := HC.out k hlt
      have hx' := (I.out.2.cell (by rw [add_block]; exact hb)).trans hx
      obtain ⟨x, hxe⟩ : ∃ x, x = l[k]! := ⟨_, rfl⟩
      rw [← hxe] at hx'
      have hh : Ctx.among l lo hi = ((decide (lo ≤ x) && decide (x ≤ hi)) || Ctx.among (l.drop (k + 1)) lo hi) := by rw [I.out.1, Ctx.drop_at l k hlt, ← hxe, Ctx.among_cons]
      have hkz : (k : Int) < (l.length : Int) := by omega
      clear hx hb hxe
      rcases (show x < lo ∨ (lo ≤ x ∧ x ≤ hi) ∨ (lo ≤ x ∧ hi < x) by omega) with h1 | ⟨h1, h2⟩ | ⟨h1, h2⟩
      · have I2 : Hid (Ctx.among l lo hi = Ctx.among (l.drop (k + 1)) lo hi ∧ Below w.heap.size w wr) := ⟨by rw [hh, decide_eq_false (by omega)]; rfl, I.out.2⟩
        have d1 : decide (lo ≤ x) = false := decide_eq_false (by omega)
        clear hh I h1
        go_wp2
        go_roundg (l.length - k)
        case measure => omega
        case rel => exact ⟨k + 1, by omega, by go_num, by omega, I2⟩
      · have R := Lib.hid (show Ctx.among l lo hi = true by rw [hh, decide_eq_true h1, decide_eq_true h2]; rfl)
        clear hh
        go_wp2
        go_ret
        exact ⟨by rw [R.out]; rfl, I.out.2⟩
      · have I2 : Hid (Ctx.among l lo hi = Ctx.among (l.drop (k + 1)) lo hi ∧ Below w.heap.size w wr) := ⟨by rw [hh, decide_eq_false (p := x ≤ hi) (by omega), Bool.and_false]; rfl, I.out.2⟩
        have d1 : decide (x ≤ hi) = false := decide_eq_false (by omega)
        clear hh I h2
        go_wp2
        go_roundg (l.length - k)
        case measure => omega
        case rel => exact ⟨k + 1, by omega, by go_num, by omega, I2⟩
    · obtain rfl : k = l.length := by omega
      go_wp2
      go_ret
      have h := I.out.1
      rw [List.drop_of_length_le (Nat.le_refl _)] at h
      exact ⟨by rw [h]; rfl, I.out.2⟩
set_option maxHeartbeats 2000000 in
set_option maxRecDepth 100000 in
theorem asian7_any (v : Value) (l : List Int) (w : World) (hl : Runes v l w) (hn : l.length ≤ 10000) :
    Calls Try.prog 41 #[v] w fun e w' => e = .returned (.bool (Ctx.asian l)) ∧ Below w.heap.size w w' := by
  obtain ⟨A, c, rfl, -, hcell⟩ := hl.form
  have HC := Lib.hid hcell
  clear hl hcell
  go_enter Try.func41, Try.ntmps41
  go_wp2
  go_loopg [3, 4] (l.length + 1) (fun gk i _ wr => ∃ k : Nat, k ≤ l.length ∧ i = .int .i64 k ∧ l.length - k < gk ∧ Hid (Ctx.asian l = Ctx.asian (l.drop k) ∧ Below w.heap.size w wr))
  case atStart => exact ⟨0, Nat.zero_le _, rfl, by omega, ⟨rfl, Below.refl _ _⟩⟩
  case round =>
    obtain ⟨k, hk, rfl, hg, I⟩ := hrel
    by_cases hlt : k < l.length
    · obtain ⟨ad, rfl, hb, hx⟩ := HC.out k hlt
      have hx' := (I.out.2.cell (by rw [add_block]; exact hb)).trans hx
      obtain ⟨x, hxe⟩ : ∃ x, x = l[k]! := ⟨_, rfl⟩
      rw [← hxe] at hx'
      have hh : Ctx.asian l = ((scriptOf x == 7 || scriptOf x == 8) || Ctx.asian (l.drop (k + 1))) := by rw [I.out.1, Ctx.drop_at l k hlt, ← hxe, Ctx.asian_cons]
      have hkz : (k : Int) < (l.length : Int) := by omega
      have K := Lib.hid (refScript_any x wr)
      obtain ⟨b, hbe⟩ : ∃ b, b = scriptOf x := ⟨_, rfl⟩
      rw [← hbe] at K hh
      clear hx hb hxe hbe
      rcases (show (b == 7) = true ∨ ((b == 7) = false ∧ (b == 8) = true) ∨ ((b == 7) = false ∧ (b == 8) = false) by cases (b == 7) <;> cases (b == 8) <;> simp) with h1 | ⟨h1, h2⟩ | ⟨h1, h2⟩
      · have R := Lib.hid (show Ctx.asian l = true by rw [hh, h1]; rfl)
        clear hh
        go_wp2_with fail
        refine K.out.mono ?_
        rintro e w2 ⟨rfl, hb2⟩
        have B2 := Lib.hid (I.out.2.trans (hb2.mono I.out.2.size))
        clear hb2 K
        go_wp2
        go_ret
        exact ⟨by rw [R.out]; rfl, B2.out⟩
      · have R := Lib.hid (show Ctx.asian l = true by rw [hh, h2, Bool.or_true]; rfl)
        clear hh
        go_wp2_with fail
        refine K.out.mono ?_
        rintro e w2 ⟨rfl, hb2⟩
        have B2 := Lib.hid (I.out.2.trans (hb2.mono I.out.2.size))
        clear hb2 K
        go_wp2
        go_ret
        exact ⟨by rw [R.out]; rfl, B2.out⟩
      · have R := Lib.hid (show Ctx.asian l = Ctx.asian (l.drop (k + 1)) by rw [hh, h1, h2]; rfl)
        clear hh
        go_wp2_with fail
        refine K.out.mono ?_
        rintro e w2 ⟨rfl, hb2⟩
        have I2 : Hid (Ctx.asian l = Ctx.asian (l.drop (k + 1)) ∧ Below w.heap.size w w2) := ⟨R.out, I.out.2.trans (hb2.mono I.out.2.size)⟩
        clear hb2 K
        go_wp2
        go_roundg (l.length - k)
        case measure => omega
        case rel => exact ⟨k + 1, by omega, by go_num, by omega, I2⟩
    · obtain rfl : k = l.length := by omega
      go_wp2
      go_ret
      have h := I.out.1
      rw [List.drop_of_length_le (Nat.le_refl _)] at h
      exact ⟨by rw [h]; rfl, I.out.2⟩
set_option maxHeartbeats 2000000 in
theorem needs7_any (r : Int) (w : World) : Calls Try.prog 15 #[.int .i32 r] w fun e w' => e = .returned (.bool (Ctx.needs r)) ∧ w = w' := by
  obtain ⟨b, hb⟩ : ∃ b, b = Ctx.needs r := ⟨_, rfl⟩
  rw [← hb]
  unfold Ctx.needs at hb
  have HB := Lib.hid hb
  clear hb
  go_enter Try.func15, Try.ntmps15
  go_wp2
  all_goals
    go_ret
    refine ⟨?_, rfl⟩
    have h := HB.out
    try simp only [*] at h
    first
      | (subst h; rfl)
      | (rw [h]; simp; done)
      | (rw [h]; simp; omega)
      | (rw [h, decide_eq_false (p := 1632 ≤ r) (by omega), decide_eq_false (p := 1776 ≤ r) (by omega)]; simp)
set_option maxHeartbeats 4000000 in
set_option maxRecDepth 100000 in
theorem joined7_any (v : Value) (l : List Int) (p : Nat) (w : World) (hl : Runes v l w) (hn : l.length ≤ 10000) (hp : p < l.length) :
    Calls Try.prog 39 #[v, .int .i64 (p : Int)] w fun e w' => e = .returned (.bool (Ctx.joined l p)) ∧ Below w.heap.size w w' := by
  obtain ⟨A, c, rfl, -, hcell⟩ := hl.form
  have HC := Lib.hid hcell
  clear hl hcell
  go_enter Try.func39, Try.ntmps39
  go_wp2
  go_loopg [5] (p + 1) (fun gk i wr => ∃ k : Nat, k ≤ p ∧ i = .int .i64 ((k : Int) - 1) ∧ k < gk ∧ Hid (Ctx.ahead l p = (l.take k).reverse.find? Ctx.hard ∧ Below w.heap.size w wr))
  case atStart => exact ⟨p, Nat.le_refl _, rfl, by omega, ⟨rfl, Below.refl _ _⟩⟩
  case round =>
    obtain ⟨k, hk, rfl, hg, I⟩ := hrel
    by_cases h0 : k = 0
    · subst h0
      simp only [Int.natCast_zero, Int.zero_sub]
      have hA : Ctx.ahead l p = none := I.out.1
      have HA := Lib.hid hA
      have B2 := Lib.hid I.out.2
      clear hA I
      go_wp2
      go_loopg [6] (l.length + 1) (fun gk s6 wr => ∃ m : Nat, m ≤ l.length ∧ s6 = .int .i64 m ∧ l.length - m < gk ∧ Hid (Ctx.behind l (p + 1) = (l.drop m).find? Ctx.hard ∧ Below w.heap.size w wr))
      case atStart => exact ⟨p + 1, by omega, by go_num, by omega, ⟨rfl, B2.out⟩⟩
      case round =>
        obtain ⟨m, hm, rfl, hgm, I⟩ := hrel
        by_cases hml : m < l.length
        · obtain ⟨ad, rfl, hb3, hx3⟩ := HC.out m hml
          have hx4 := (I.out.2.cell (by rw [add_block]; exact hb3)).trans hx3
          obtain ⟨y, hye⟩ : ∃ y, y = l[m]! := ⟨_, rfl⟩
          rw [← hye] at hx4
          have hh := I.out.1
          rw [Ctx.drop_at l m hml, ← hye] at hh
          have hmz : (m : Int) < (l.length : Int) := by omega
          have K3 := Lib.hid (refJoin_any y wr)
          obtain ⟨d, hde⟩ : ∃ d, d = joinOf y := ⟨_, rfl⟩
          rw [← hde] at K3
          cases hc3 : (d == 3) with
          | true =>
            have R : Ctx.behind l (p + 1) = (l.drop (m + 1)).find? Ctx.hard := by rw [hh, List.find?_cons_of_neg]; unfold Ctx.hard; rw [← hde]; simpa using hc3
            have HR3 := Lib.hid R
            clear hh hx3 hb3 hye hde R
            go_wp2_with fail
            refine K3.out.mono ?_
            rintro e w3 ⟨rfl, hb3⟩
            have I2 : Hid (Ctx.behind l (p + 1) = (l.drop (m + 1)).find? Ctx.hard ∧ Below w.heap.size w w3) := ⟨HR3.out, I.out.2.trans (hb3.mono I.out.2.size)⟩
            clear hb3 K3 I
            go_wp2
            go_roundg (l.length - m)
            case measure => omega
            case rel => exact ⟨m + 1, by omega, by go_num, by omega, I2⟩
          | false =>
            have R : Ctx.behind l (p + 1) = some y := by rw [hh, List.find?_cons_of_pos]; unfold Ctx.hard; rw [← hde, bne, hc3]; rfl
            have HR3 := Lib.hid R
            have HDE := Lib.hid hde
            have HX3 := Lib.hid hx3
            have HB3Z := Lib.hid hb3
            clear hh hx3 hb3 hye hde R
            go_wp2_with fail
            refine K3.out.mono ?_
            rintro e w3 ⟨rfl, hb3⟩
            have B3 := Lib.hid (I.out.2.trans (hb3.mono I.out.2.size))
            have hy3 := (hb3.cell (p := ad.add m) (by rw [add_block]; exact Nat.lt_of_lt_of_le HB3Z.out I.out.2.size)).trans hx4
            clear hb3 K3 I
            go_wp2
            go_ret
            exact ⟨by unfold Ctx.joined; rw [HA.out]; rfl, B3.out⟩
        · obtain rfl : m = l.length := by omega
          have hB : Ctx.behind l (p + 1) = none := by rw [I.out.1, List.drop_of_length_le (Nat.le_refl _)]; rfl
          have HBN := Lib.hid hB
          clear hB
          go_wp2
          go_ret
          exact ⟨by unfold Ctx.joined; rw [HBN.out]; unfold Ctx.both; cases Ctx.ahead l p <;> rfl, I.out.2⟩
    · obtain ⟨j, rfl⟩ : ∃ j, k = j + 1 := ⟨k - 1, by omega⟩
      rw [show (((j + 1 : Nat) : Int) - 1) = (j : Int) by omega]
      have hjl : j < l.length := by omega
      obtain ⟨ad, rfl, hb, hx⟩ := HC.out j hjl
      have hx' := (I.out.2.cell (by rw [add_block]; exact hb)).trans hx
      obtain ⟨x, hxe⟩ : ∃ x, x = l[j]! := ⟨_, rfl⟩
      rw [← hxe] at hx'
      have hh := I.out.1
      rw [Ctx.take_rev l j hjl, ← hxe] at hh
      have hkz : (j : Int) < (l.length : Int) := by omega
      have K := Lib.hid (refJoin_any x wr)
      obtain ⟨b, hbe⟩ : ∃ b, b = joinOf x := ⟨_, rfl⟩
      rw [← hbe] at K
      cases hc : (b == 3) with
      | true =>
        have R : Ctx.ahead l p = (l.take j).reverse.find? Ctx.hard := by rw [hh, List.find?_cons_of_neg]; unfold Ctx.hard; rw [← hbe]; simpa using hc
        have HR := Lib.hid R
        clear hh hx hb hxe hbe R
        go_wp2_with fail
        refine K.out.mono ?_
        rintro e w2 ⟨rfl, hb2⟩
        have I2 : Hid (Ctx.ahead l p = (l.take j).reverse.find? Ctx.hard ∧ Below w.heap.size w w2) := ⟨HR.out, I.out.2.trans (hb2.mono I.out.2.size)⟩
        clear hb2 K I
        go_wp2
        go_roundg (j + 1)
        case measure => omega
        case rel => exact ⟨j, by omega, by go_num, by omega, I2⟩
      | false =>
        have R : Ctx.ahead l p = some x := by rw [hh, List.find?_cons_of_pos]; unfold Ctx.hard; rw [← hbe, bne, hc]; rfl
        have HR := Lib.hid R
        have HXJ := Lib.hid (show w.cell? (ad.add j) = some (.int .i32 x) by rw [hxe]; exact hx)
        have HBE := Lib.hid hbe
        have hbz := hb
        clear hh hx hb hxe hbe R
        go_wp2_with fail
        refine K.out.mono ?_
        rintro e w2 ⟨rfl, hb2⟩
        have B2 := Lib.hid (I.out.2.trans (hb2.mono I.out.2.size))
        clear hb2 K I
        go_wp2
        go_loopg [6] (l.length + 1) (fun gk s6 wr => ∃ m : Nat, m ≤ l.length ∧ s6 = .int .i64 m ∧ l.length - m < gk ∧ Hid (Ctx.behind l (p + 1) = (l.drop m).find? Ctx.hard ∧ Below w.heap.size w wr))
        case atStart => exact ⟨p + 1, by omega, by go_num, by omega, ⟨rfl, B2.out⟩⟩
        case round =>
          obtain ⟨m, hm, rfl, hgm, I⟩ := hrel
          by_cases hml : m < l.length
          · obtain ⟨ad2, he2, hb3, hx3⟩ := HC.out m hml
            obtain rfl : ad = ad2 := by injection he2
            clear he2
            have hx4 := (I.out.2.cell (by rw [add_block]; exact hb3)).trans hx3
            obtain ⟨y, hye⟩ : ∃ y, y = l[m]! := ⟨_, rfl⟩
            rw [← hye] at hx4
            have hh := I.out.1
            rw [Ctx.drop_at l m hml, ← hye] at hh
            have hmz : (m : Int) < (l.length : Int) := by omega
            have K3 := Lib.hid (refJoin_any y wr)
            obtain ⟨d, hde⟩ : ∃ d, d = joinOf y := ⟨_, rfl⟩
            rw [← hde] at K3
            cases hc3 : (d == 3) with
            | true =>
              have R : Ctx.behind l (p + 1) = (l.drop (m + 1)).find? Ctx.hard := by rw [hh, List.find?_cons_of_neg]; unfold Ctx.hard; rw [← hde]; simpa using hc3
              have HR3 := Lib.hid R
              clear hh hx3 hb3 hye hde R
              go_wp2_with fail
              refine K3.out.mono ?_
              rintro e w3 ⟨rfl, hb3⟩
              have I2 : Hid (Ctx.behind l (p + 1) = (l.drop (m + 1)).find? Ctx.hard ∧ Below w.heap.size w w3) := ⟨HR3.out, I.out.2.trans (hb3.mono I.out.2.size)⟩
              clear hb3 K3 I
              go_wp2
              go_roundg (l.length - m)
              case measure => omega
              case rel => exact ⟨m + 1, by omega, by go_num, by omega, I2⟩
            | false =>
              have R : Ctx.behind l (p + 1) = some y := by rw [hh, List.find?_cons_of_pos]; unfold Ctx.hard; rw [← hde, bne, hc3]; rfl
              have HR3 := Lib.hid R
              have HDE := Lib.hid hde
              have HYE := Lib.hid (show l[m]! = y from hye.symm)
              have HX3 := Lib.hid hx3
              have HB3Z := Lib.hid hb3
              clear hh hx3 hb3 hye hde R
              go_wp2_with fail
              refine K3.out.mono ?_
              rintro e w3 ⟨rfl, hb3⟩
              have B3 := Lib.hid (I.out.2.trans (hb3.mono I.out.2.size))
              have hy3 := (hb3.cell (p := ad.add m) (by rw [add_block]; exact Nat.lt_of_lt_of_le HB3Z.out I.out.2.size)).trans hx4
              clear hb3 K3 I
              have hx5 := (B3.out.cell (by rw [add_block]; exact hbz)).trans HXJ.out
              have KX := Lib.hid (refJoin_any x w3)
              rw [← HBE.out] at KX
              cases h1 : (b == 1) with
              | false =>
                have hne : (b != 1) = true := by rw [bne, h1]; rfl
                have RJ := Lib.hid (show Ctx.joined l p = false by unfold Ctx.joined; rw [HR.out, HR3.out]; unfold Ctx.both; simp only; rw [← HBE.out, h1]; rfl)
                go_wp2_with fail
                refine KX.out.mono ?_
                rintro e w4 ⟨rfl, hb4⟩
                have B4 := Lib.hid (B3.out.trans (hb4.mono B3.out.size))
                clear hb4 KX
                go_wp2
                go_ret
                exact ⟨by rw [RJ.out]; rfl, B4.out⟩
              | true =>
                have hne : (b != 1) = false := by rw [bne, h1]; rfl
                have RJ := Lib.hid (show Ctx.joined l p = (d == 1 || d == 2) by unfold Ctx.joined; rw [HR.out, HR3.out]; unfold Ctx.both; simp only; rw [← HBE.out, ← HDE.out, h1, Bool.true_and])
                go_wp2_with fail
                refine KX.out.mono ?_
                rintro e w4 ⟨rfl, hb4⟩
                have B4 := Lib.hid (B3.out.trans (hb4.mono B3.out.size))
                have hy4 := (B4.out.cell (by rw [add_block]; exact HB3Z.out)).trans HX3.out
                rw [HYE.out] at hy4
                have KY := Lib.hid (refJoin_any y w4)
                rw [← HDE.out] at KY
                clear hb4 KX
                go_wp2_with fail
                refine KY.out.mono ?_
                rintro e w5 ⟨rfl, hb5⟩
                have B5 := Lib.hid (B4.out.trans (hb5.mono B4.out.size))
                clear hb5 KY
                cases h2 : (d == 1) <;> cases h3 : (d == 2)
                all_goals
                  go_wp2
                  go_ret
                  exact ⟨by rw [RJ.out, h2, h3]; rfl, B5.out⟩
          · obtain rfl : m = l.length := by omega
            have hB : Ctx.behind l (p + 1) = none := by rw [I.out.1, List.drop_of_length_le (Nat.le_refl _)]; rfl
            have HBN := Lib.hid hB
            clear hB
            go_wp2
            go_ret
            exact ⟨by unfold Ctx.joined; rw [HBN.out]; unfold Ctx.both; cases Ctx.ahead l p <;> rfl, I.out.2⟩
end Go.Proofs.Ytoekkiodhbejpaa
