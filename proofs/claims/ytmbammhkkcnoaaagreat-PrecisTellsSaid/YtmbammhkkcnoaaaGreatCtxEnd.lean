/-
  Proved here: the document's own answers of layer 7. Conditions: the slice can be read, and holds at most 10,000 numbers.
  Proved here: the document's own 'met', 'Need' and 'All' of layer 7. Conditions: the slice can be read, and holds at most 10,000 numbers.
  Proved here: the head of the laws of layer 7 comes out true, given what the program's Need, All and Needs tell. Conditions: as they stand in each.
  Proved here: the program's Need, All and Needs of layer 7. Conditions: the slice can be read, and holds at most 1000 numbers.
-/
import Derived.Test.YtmbammhkkcnoaaaGreatUcdAll
import Derived.Test.YtmbammhkkcnoaaaGreatUtfRow
import Derived.Test.YtmbammhkkcnoaaaGreatCtxPlain
import Derived.Deep.LoopGhost
import Derived.Deep.DeepCutAuto
import Derived.Test.YtmbammhkkcnoaaaGreatCtxOnce
import Derived.Deep.RegionWith
namespace Go.Proofs.YtmbammhkkcnoaaaGreat
open Go.RowKit
namespace Ctx
theorem drop_at (l : List Int) (k : Nat) (h : k < l.length) : l.drop k = l[k]! :: l.drop (k + 1) := by
  rw [getElem!_pos l k h]
  exact List.drop_eq_getElem_cons h
theorem take_rev (l : List Int) (k : Nat) (h : k < l.length) : (l.take (k + 1)).reverse = l[k]! :: (l.take k).reverse := by
  rw [getElem!_pos l k h, List.take_succ_eq_append_getElem h, List.reverse_append]
  rfl
theorem met_at {l : List Int} {k : Nat} {x : Int} (hx : l[k]! = x) : met l k =
  if x = 8205 then virama l k else if x = 8204 then virama l k || joined l k
  else if x = 183 then at0 l ((k : Int) - 1) == 108 && at0 l ((k : Int) + 1) == 108
  else if x = 885 then scriptOf (at0 l ((k : Int) + 1)) == 2
  else if x = 1523 ∨ x = 1524 then scriptOf (at0 l ((k : Int) - 1)) == 4
  else if x = 12539 then asian l
  else if x < 1700 then !among l 1776 1785 else !among l 1632 1641 := by unfold met; rw [hx]
theorem among_cons (x : Int) (t : List Int) (lo hi : Int) : among (x :: t) lo hi = ((decide (lo ≤ x) && decide (x ≤ hi)) || among t lo hi) := rfl
theorem asian_cons (x : Int) (t : List Int) : asian (x :: t) = ((scriptOf x == 7 || scriptOf x == 8) || asian t) := rfl
end Ctx
set_option maxHeartbeats 1000000 in
theorem beside7_any (v : Value) (l : List Int) (i : Int) (w : World) (hl : Runes v l w) (hi : -1000000 ≤ i ∧ i ≤ 9223372036854775807) :
    Calls Tryz.prog 115 #[v, .int .i64 i] w fun e w' => e = .returned (.int .i32 (Ctx.at0 l i)) ∧ w = w' := by
  obtain ⟨A, c, rfl, -, hcell⟩ := hl.form
  obtain ⟨hi0, hi1⟩ := hi
  by_cases h0 : i < 0
  · rw [Ctx.at0_out (.inl h0)]
    clear hcell hl
    go_enter Tryz.func115, Tryz.ntmps115
    go_wp2
    go_ret
    exact ⟨rfl, rfl⟩
  · by_cases h1 : (l.length : Int) ≤ i
    · rw [Ctx.at0_out (.inr h1)]
      have h00 : (0 : Int) ≤ i := by omega
      clear hcell hl h0
      go_enter Tryz.func115, Tryz.ntmps115
      go_wp2
      go_ret
      exact ⟨rfl, rfl⟩
    · obtain ⟨k, rfl⟩ : ∃ k : Nat, i = k := ⟨i.toNat, by omega⟩
      have hk : k < l.length := by omega
      have hkz : (k : Int) < (l.length : Int) := by omega
      rw [Ctx.at0_in hk]
      obtain ⟨ad, rfl, hb, hx⟩ := hcell k hk
      generalize l[k]! = x at hx ⊢
      clear hcell hl h0 h1
      go_enter Tryz.func115, Tryz.ntmps115
      go_wp2
      go_ret
      exact ⟨rfl, rfl⟩
set_option maxHeartbeats 2000000 in
set_option maxRecDepth 100000 in
theorem among7_any (v : Value) (l : List Int) (lo hi : Int) (w : World) (hl : Runes v l w) (hn : l.length ≤ 10000) :
    Calls Tryz.prog 119 #[v, .int .i32 lo, .int .i32 hi] w fun e w' => e = .returned (.bool (Ctx.among l lo hi)) ∧ Below w.heap.size w w' := by
  obtain ⟨A, c, rfl, -, hcell⟩ := hl.form
  have HC := Lib.hid hcell
  clear hl hcell
  go_enter Tryz.func119, Tryz.ntmps119
  go_wp2
  go_loopg [7] (l.length + 1) (fun gk i wr => ∃ k : Nat, k ≤ l.length ∧ i = .int .i64 k ∧ l.length - k < gk ∧ Hid (Ctx.among l lo hi = Ctx.among (l.drop k) lo hi ∧ Below w.heap.size w wr))
  case atStart => exact ⟨0, Nat.zero_le _, rfl, by omega, ⟨rfl, Below.refl _ _⟩⟩
  case round =>
    obtain ⟨k, hk, rfl, hg, I⟩ := hrel
    by_cases hlt : k < l.length
    · obtain ⟨ad, rfl, hb, hx⟩ := HC.out k hlt
      have hx' := (I.out.2.cell (by rw [add_block]; exact hb)).trans hx
      obtain ⟨x, hxe⟩ : ∃ x, x = l[k]! := ⟨_, rfl⟩
      rw [← hxe] at hx'
      have hh : Ctx.among l lo hi = ((decide (lo ≤ x) && decide (x ≤ hi)) || Ctx.among (l.drop (k + 1)) lo hi) := by rw [I.out.1, Ctx.drop_at l k hlt, ← hxe, Ctx.among_cons]
      have hkz : (k : Int) < (l.length : Int) := by omega
      clear hx hb hxe
      rcases (show x < lo ∨ (lo ≤ x ∧ x ≤ hi) ∨ (lo ≤ x ∧ hi < x) by omega) with h1 | ⟨h1, h2⟩ | ⟨h1, h2⟩
      · have I2 : Hid (Ctx.among l lo hi = Ctx.among (l.drop (k + 1)) lo hi ∧ Below w.heap.size w wr) := ⟨by rw [hh, decide_eq_false (by omega)]; rfl, I.out.2⟩
        have d1 : decide (lo ≤ x) = false := decide_eq_false (by omega)
        clear hh I h1
        go_wp2
        go_roundg (l.length - k)
        case measure => omega
        case rel => exact ⟨k + 1, by omega, by go_num, by omega, I2⟩
      · have R := Lib.hid (show Ctx.among l lo hi = true by rw [hh, decide_eq_true h1, decide_eq_true h2]; rfl)
        clear hh
        go_wp2
        go_ret
        exact ⟨by rw [R.out]; rfl, I.out.2⟩
      · have I2 : Hid (Ctx.among l lo hi = Ctx.among (l.drop (k + 1)) lo hi ∧ Below w.heap.size w wr) := ⟨by rw [hh, decide_eq_false (p := x ≤ hi) (by omega), Bool.and_false]; rfl, I.out.2⟩
        have d1 : decide (x ≤ hi) = false := decide_eq_false (by omega)
        clear hh I h2
        go_wp2
        go_roundg (l.length - k)
        case measure => omega
        case rel => exact ⟨k + 1, by omega, by go_num, by omega, I2⟩
    · obtain rfl : k = l.length := by omega
      go_wp2
      go_ret
      have h := I.out.1
      rw [List.drop_of_length_le (Nat.le_refl _)] at h
      exact ⟨by rw [h]; rfl, I.out.2⟩
set_option maxHeartbeats 2000000 in
set_option maxRecDepth 100000 in
theorem asian7_any (v : Value) (l : List Int) (w : World) (hl : Runes v l w) (hn : l.length ≤ 10000) :
    Calls Tryz.prog 118 #[v] w fun e w' => e = .returned (.bool (Ctx.asian l)) ∧ Below w.heap.size w w' := by
  obtain ⟨A, c, rfl, -, hcell⟩ := hl.form
  have HC := Lib.hid hcell
  clear hl hcell
  go_enter Tryz.func118, Tryz.ntmps118
  go_wp2
  go_loopg [3, 4] (l.length + 1) (fun gk i _ wr => ∃ k : Nat, k ≤ l.length ∧ i = .int .i64 k ∧ l.length - k < gk ∧ Hid (Ctx.asian l = Ctx.asian (l.drop k) ∧ Below w.heap.size w wr))
  case atStart => exact ⟨0, Nat.zero_le _, rfl, by omega, ⟨rfl, Below.refl _ _⟩⟩
  case round =>
    obtain ⟨k, hk, rfl, hg, I⟩ := hrel
    by_cases hlt : k < l.length
    · obtain ⟨ad, rfl, hb, hx⟩ := HC.out k hlt
      have hx' := (I.out.2.cell (by rw [add_block]; exact hb)).trans hx
      obtain ⟨x, hxe⟩ : ∃ x, x = l[k]! := ⟨_, rfl⟩
      rw [← hxe] at hx'
      have hh : Ctx.asian l = ((scriptOf x == 7 || scriptOf x == 8) || Ctx.asian (l.drop (k + 1))) := by rw [I.out.1, Ctx.drop_at l k hlt, ← hxe, Ctx.asian_cons]
      have hkz : (k : Int) < (l.length : Int) := by omega
      have K := Lib.hid (refScript_any x wr)
      obtain ⟨b, hbe⟩ : ∃ b, b = scriptOf x := ⟨_, rfl⟩
      rw [← hbe] at K hh
      clear hx hb hxe hbe
      rcases (show (b == 7) = true ∨ ((b == 7) = false ∧ (b == 8) = true) ∨ ((b == 7) = false ∧ (b == 8) = false) by cases (b == 7) <;> cases (b == 8) <;> simp) with h1 | ⟨h1, h2⟩ | ⟨h1, h2⟩
      · have R := Lib.hid (show Ctx.asian l = true by rw [hh, h1]; rfl)
        clear hh
        go_wp2_with fail
        refine K.out.mono ?_
        rintro e w2 ⟨rfl, hb2⟩
        have B2 := Lib.hid (I.out.2.trans (hb2.mono I.out.2.size))
        clear hb2 K
        go_wp2
        go_ret
        exact ⟨by rw [R.out]; rfl, B2.out⟩
      · have R := Lib.hid (show Ctx.asian l = true by rw [hh, h2, Bool.or_true]; rfl)
        clear hh
        go_wp2_with fail
        refine K.out.mono ?_
        rintro e w2 ⟨rfl, hb2⟩
        have B2 := Lib.hid (I.out.2.trans (hb2.mono I.out.2.size))
        clear hb2 K
        go_wp2
        go_ret
        exact ⟨by rw [R.out]; rfl, B2.out⟩
      · have R := Lib.hid (show Ctx.asian l = Ctx.asian (l.drop (k + 1)) by rw [hh, h1, h2]; rfl)
        clear hh
        go_wp2_with fail
        refine K.out.mono ?_
        rintro e w2 ⟨rfl, hb2⟩
        have I2 : Hid (Ctx.asian l = Ctx.asian (l.drop (k + 1)) ∧ Below w.heap.size w w2) := ⟨R.out, I.out.2.trans (hb2.mono I.out.2.size)⟩
        clear hb2 K
        go_wp2
        go_roundg (l.length - k)
        case measure => omega
        case rel => exact ⟨k + 1, by omega, by go_num, by omega, I2⟩
    · obtain rfl : k = l.length := by omega
      go_wp2
      go_ret
      have h := I.out.1
      rw [List.drop_of_length_le (Nat.le_refl _)] at h
      exact ⟨by rw [h]; rfl, I.out.2⟩
set_option maxHeartbeats 2000000 in
theorem needs7_any (r : Int) (w : World) : Calls Tryz.prog 69 #[.int .i32 r] w fun e w' => e = .returned (.bool (Ctx.needs r)) ∧ w = w' := by
  obtain ⟨b, hb⟩ : ∃ b, b = Ctx.needs r := ⟨_, rfl⟩
  rw [← hb]
  unfold Ctx.needs at hb
  have HB := Lib.hid hb
  clear hb
  go_enter Tryz.func69, Tryz.ntmps69
  go_wp2
  all_goals
    go_ret
    refine ⟨?_, rfl⟩
    have h := HB.out
    try simp only [*] at h
    first
      | (subst h; rfl)
      | (rw [h]; simp; done)
      | (rw [h]; simp; omega)
      | (rw [h, decide_eq_false (p := 1632 ≤ r) (by omega), decide_eq_false (p := 1776 ≤ r) (by omega)]; simp)
set_option maxHeartbeats 4000000 in
set_option maxRecDepth 100000 in
theorem joined7_any (v : Value) (l : List Int) (p : Nat) (w : World) (hl : Runes v l w) (hn : l.length ≤ 10000) (hp : p < l.length) :
    Calls Tryz.prog 116 #[v, .int .i64 (p : Int)] w fun e w' => e = .returned (.bool (Ctx.joined l p)) ∧ Below w.heap.size w w' := by
  obtain ⟨A, c, rfl, -, hcell⟩ := hl.form
  have HC := Lib.hid hcell
  clear hl hcell
  go_enter Tryz.func116, Tryz.ntmps116
  go_wp2
  go_loopg [5] (p + 1) (fun gk i wr => ∃ k : Nat, k ≤ p ∧ i = .int .i64 ((k : Int) - 1) ∧ k < gk ∧ Hid (Ctx.ahead l p = (l.take k).reverse.find? Ctx.hard ∧ Below w.heap.size w wr))
  case atStart => exact ⟨p, Nat.le_refl _, rfl, by omega, ⟨rfl, Below.refl _ _⟩⟩
  case round =>
    obtain ⟨k, hk, rfl, hg, I⟩ := hrel
    by_cases h0 : k = 0
    · subst h0
      simp only [Int.natCast_zero, Int.zero_sub]
      have hA : Ctx.ahead l p = none := I.out.1
      have HA := Lib.hid hA
      have B2 := Lib.hid I.out.2
      clear hA I
      go_wp2
      go_loopg [6] (l.length + 1) (fun gk s6 wr => ∃ m : Nat, m ≤ l.length ∧ s6 = .int .i64 m ∧ l.length - m < gk ∧ Hid (Ctx.behind l (p + 1) = (l.drop m).find? Ctx.hard ∧ Below w.heap.size w wr))
      case atStart => exact ⟨p + 1, by omega, by go_num, by omega, ⟨rfl, B2.out⟩⟩
      case round =>
        obtain ⟨m, hm, rfl, hgm, I⟩ := hrel
        by_cases hml : m < l.length
        · obtain ⟨ad, rfl, hb3, hx3⟩ := HC.out m hml
          have hx4 := (I.out.2.cell (by rw [add_block]; exact hb3)).trans hx3
          obtain ⟨y, hye⟩ : ∃ y, y = l[m]! := ⟨_, rfl⟩
          rw [← hye] at hx4
          have hh := I.out.1
          rw [Ctx.drop_at l m hml, ← hye] at hh
          have hmz : (m : Int) < (l.length : Int) := by omega
          have K3 := Lib.hid (refJoin_any y wr)
          obtain ⟨d, hde⟩ : ∃ d, d = joinOf y := ⟨_, rfl⟩
          rw [← hde] at K3
          cases hc3 : (d == 3) with
          | true =>
            have R : Ctx.behind l (p + 1) = (l.drop (m + 1)).find? Ctx.hard := by rw [hh, List.find?_cons_of_neg]; unfold Ctx.hard; rw [← hde]; simpa using hc3
            have HR3 := Lib.hid R
            clear hh hx3 hb3 hye hde R
            go_wp2_with fail
            refine K3.out.mono ?_
            rintro e w3 ⟨rfl, hb3⟩
            have I2 : Hid (Ctx.behind l (p + 1) = (l.drop (m + 1)).find? Ctx.hard ∧ Below w.heap.size w w3) := ⟨HR3.out, I.out.2.trans (hb3.mono I.out.2.size)⟩
            clear hb3 K3 I
            go_wp2
            go_roundg (l.length - m)
            case measure => omega
            case rel => exact ⟨m + 1, by omega, by go_num, by omega, I2⟩
          | false =>
            have R : Ctx.behind l (p + 1) = some y := by rw [hh, List.find?_cons_of_pos]; unfold Ctx.hard; rw [← hde, bne, hc3]; rfl
            have HR3 := Lib.hid R
            have HDE := Lib.hid hde
            have HX3 := Lib.hid hx3
            have HB3Z := Lib.hid hb3
            clear hh hx3 hb3 hye hde R
            go_wp2_with fail
            refine K3.out.mono ?_
            rintro e w3 ⟨rfl, hb3⟩
            have B3 := Lib.hid (I.out.2.trans (hb3.mono I.out.2.size))
            have hy3 := (hb3.cell (p := ad.add m) (by rw [add_block]; exact Nat.lt_of_lt_of_le HB3Z.out I.out.2.size)).trans hx4
            clear hb3 K3 I
            go_wp2
            go_ret
            exact ⟨by unfold Ctx.joined; rw [HA.out]; rfl, B3.out⟩
        · obtain rfl : m = l.length := by omega
          have hB : Ctx.behind l (p + 1) = none := by rw [I.out.1, List.drop_of_length_le (Nat.le_refl _)]; rfl
          have HBN := Lib.hid hB
          clear hB
          go_wp2
          go_ret
          exact ⟨by unfold Ctx.joined; rw [HBN.out]; unfold Ctx.both; cases Ctx.ahead l p <;> rfl, I.out.2⟩
    · obtain ⟨j, rfl⟩ : ∃ j, k = j + 1 := ⟨k - 1, by omega⟩
      rw [show (((j + 1 : Nat) : Int) - 1) = (j : Int) by omega]
      have hjl : j < l.length := by omega
      obtain ⟨ad, rfl, hb, hx⟩ := HC.out j hjl
      have hx' := (I.out.2.cell (by rw [add_block]; exact hb)).trans hx
      obtain ⟨x, hxe⟩ : ∃ x, x = l[j]! := ⟨_, rfl⟩
      rw [← hxe] at hx'
      have hh := I.out.1
      rw [Ctx.take_rev l j hjl, ← hxe] at hh
      have hkz : (j : Int) < (l.length : Int) := by omega
      have K := Lib.hid (refJoin_any x wr)
      obtain ⟨b, hbe⟩ : ∃ b, b = joinOf x := ⟨_, rfl⟩
      rw [← hbe] at K
      cases hc : (b == 3) with
      | true =>
        have R : Ctx.ahead l p = (l.take j).reverse.find? Ctx.hard := by rw [hh, List.find?_cons_of_neg]; unfold Ctx.hard; rw [← hbe]; simpa using hc
        have HR := Lib.hid R
        clear hh hx hb hxe hbe R
        go_wp2_with fail
        refine K.out.mono ?_
        rintro e w2 ⟨rfl, hb2⟩
        have I2 : Hid (Ctx.ahead l p = (l.take j).reverse.find? Ctx.hard ∧ Below w.heap.size w w2) := ⟨HR.out, I.out.2.trans (hb2.mono I.out.2.size)⟩
        clear hb2 K I
        go_wp2
        go_roundg (j + 1)
        case measure => omega
        case rel => exact ⟨j, by omega, by go_num, by omega, I2⟩
      | false =>
        have R : Ctx.ahead l p = some x := by rw [hh, List.find?_cons_of_pos]; unfold Ctx.hard; rw [← hbe, bne, hc]; rfl
        have HR := Lib.hid R
        have HXJ := Lib.hid (show w.cell? (ad.add j) = some (.int .i32 x) by rw [hxe]; exact hx)
        have HBE := Lib.hid hbe
        have hbz := hb
        clear hh hx hb hxe hbe R
        go_wp2_with fail
        refine K.out.mono ?_
        rintro e w2 ⟨rfl, hb2⟩
        have B2 := Lib.hid (I.out.2.trans (hb2.mono I.out.2.size))
        clear hb2 K I
        go_wp2
        go_loopg [6] (l.length + 1) (fun gk s6 wr => ∃ m : Nat, m ≤ l.length ∧ s6 = .int .i64 m ∧ l.length - m < gk ∧ Hid (Ctx.behind l (p + 1) = (l.drop m).find? Ctx.hard ∧ Below w.heap.size w wr))
        case atStart => exact ⟨p + 1, by omega, by go_num, by omega, ⟨rfl, B2.out⟩⟩
        case round =>
          obtain ⟨m, hm, rfl, hgm, I⟩ := hrel
          by_cases hml : m < l.length
          · obtain ⟨ad2, he2, hb3, hx3⟩ := HC.out m hml
            obtain rfl : ad = ad2 := by injection he2
            clear he2
            have hx4 := (I.out.2.cell (by rw [add_block]; exact hb3)).trans hx3
            obtain ⟨y, hye⟩ : ∃ y, y = l[m]! := ⟨_, rfl⟩
            rw [← hye] at hx4
            have hh := I.out.1
            rw [Ctx.drop_at l m hml, ← hye] at hh
            have hmz : (m : Int) < (l.length : Int) := by omega
            have K3 := Lib.hid (refJoin_any y wr)
            obtain ⟨d, hde⟩ : ∃ d, d = joinOf y := ⟨_, rfl⟩
            rw [← hde] at K3
            cases hc3 : (d == 3) with
            | true =>
              have R : Ctx.behind l (p + 1) = (l.drop (m + 1)).find? Ctx.hard := by rw [hh, List.find?_cons_of_neg]; unfold Ctx.hard; rw [← hde]; simpa using hc3
              have HR3 := Lib.hid R
              clear hh hx3 hb3 hye hde R
              go_wp2_with fail
              refine K3.out.mono ?_
              rintro e w3 ⟨rfl, hb3⟩
              have I2 : Hid (Ctx.behind l (p + 1) = (l.drop (m + 1)).find? Ctx.hard ∧ Below w.heap.size w w3) := ⟨HR3.out, I.out.2.trans (hb3.mono I.out.2.size)⟩
              clear hb3 K3 I
              go_wp2
              go_roundg (l.length - m)
              case measure => omega
              case rel => exact ⟨m + 1, by omega, by go_num, by omega, I2⟩
            | false =>
              have R : Ctx.behind l (p + 1) = some y := by rw [hh, List.find?_cons_of_pos]; unfold Ctx.hard; rw [← hde, bne, hc3]; rfl
              have HR3 := Lib.hid R
              have HDE := Lib.hid hde
              have HYE := Lib.hid (show l[m]! = y from hye.symm)
              have HX3 := Lib.hid hx3
              have HB3Z := Lib.hid hb3
              clear hh hx3 hb3 hye hde R
              go_wp2_with fail
              refine K3.out.mono ?_
              rintro e w3 ⟨rfl, hb3⟩
              have B3 := Lib.hid (I.out.2.trans (hb3.mono I.out.2.size))
              have hy3 := (hb3.cell (p := ad.add m) (by rw [add_block]; exact Nat.lt_of_lt_of_le HB3Z.out I.out.2.size)).trans hx4
              clear hb3 K3 I
              have hx5 := (B3.out.cell (by rw [add_block]; exact hbz)).trans HXJ.out
              have KX := Lib.hid (refJoin_any x w3)
              rw [← HBE.out] at KX
              cases h1 : (b == 1) with
              | false =>
                have hne : (b != 1) = true := by rw [bne, h1]; rfl
                have RJ := Lib.hid (show Ctx.joined l p = false by unfold Ctx.joined; rw [HR.out, HR3.out]; unfold Ctx.both; simp only; rw [← HBE.out, h1]; rfl)
                go_wp2_with fail
                refine KX.out.mono ?_
                rintro e w4 ⟨rfl, hb4⟩
                have B4 := Lib.hid (B3.out.trans (hb4.mono B3.out.size))
                clear hb4 KX
                go_wp2
                go_ret
                exact ⟨by rw [RJ.out]; rfl, B4.out⟩
              | true =>
                have hne : (b != 1) = false := by rw [bne, h1]; rfl
                have RJ := Lib.hid (show Ctx.joined l p = (d == 1 || d == 2) by unfold Ctx.joined; rw [HR.out, HR3.out]; unfold Ctx.both; simp only; rw [← HBE.out, ← HDE.out, h1, Bool.true_and])
                go_wp2_with fail
                refine KX.out.mono ?_
                rintro e w4 ⟨rfl, hb4⟩
                have B4 := Lib.hid (B3.out.trans (hb4.mono B3.out.size))
                have hy4 := (B4.out.cell (by rw [add_block]; exact HB3Z.out)).trans HX3.out
                rw [HYE.out] at hy4
                have KY := Lib.hid (refJoin_any y w4)
                rw [← HDE.out] at KY
                clear hb4 KX
                go_wp2_with fail
                refine KY.out.mono ?_
                rintro e w5 ⟨rfl, hb5⟩
                have B5 := Lib.hid (B4.out.trans (hb5.mono B4.out.size))
                clear hb5 KY
                cases h2 : (d == 1) <;> cases h3 : (d == 2)
                all_goals
                  go_wp2
                  go_ret
                  exact ⟨by rw [RJ.out, h2, h3]; rfl, B5.out⟩
          · obtain rfl : m = l.length := by omega
            have hB : Ctx.behind l (p + 1) = none := by rw [I.out.1, List.drop_of_length_le (Nat.le_refl _)]; rfl
            have HBN := Lib.hid hB
            clear hB
            go_wp2
            go_ret
            exact ⟨by unfold Ctx.joined; rw [HBN.out]; unfold Ctx.both; cases Ctx.ahead l p <;> rfl, I.out.2⟩
end Go.Proofs.YtmbammhkkcnoaaaGreat
namespace Go.Proofs.YtmbammhkkcnoaaaGreat
open Go.RowKit
set_option maxHeartbeats 8000000 in
set_option maxRecDepth 100000 in
theorem met7_any (v : Value) (l : List Int) (p : Nat) (w : World) (hl : Runes v l w) (hn : l.length ≤ 10000) (hp : p < l.length) :
    Calls Tryz.prog 70 #[v, .int .i64 (p : Int)] w fun e w' => e = .returned (.bool (Ctx.met l p)) ∧ Below w.heap.size w w' := by
  have HL := Lib.hid hl
  obtain ⟨A, c, rfl, -, hcell⟩ := hl.form
  obtain ⟨ad, hAd, hb0, hx⟩ := hcell p hp
  obtain ⟨x, hxe⟩ : ∃ x, l[p]! = x := ⟨_, rfl⟩
  rw [hxe] at hx
  have HM := Lib.hid (Ctx.met_at hxe)
  have hpz : (p : Int) < (l.length : Int) := by omega
  subst hAd
  clear hl hcell hxe
  obtain ⟨vr, hvr⟩ : ∃ vr, vr = Ctx.virama l p := ⟨_, rfl⟩
  have HVR := Lib.hid hvr
  rw [← hvr] at HM
  clear hvr
  go_enter Tryz.func70, Tryz.ntmps70
  go_upto_region 2 with (fail)
  go_cut [6] (fun s6 wx => s6 = .bool vr ∧ Hid (Below w.heap.size w wx))
  case first =>
    by_cases h0 : p = 0
    · have hv : vr = false := by rw [HVR.out, h0]; rfl
      subst hv
      have d0 : ¬ (0 : Int) < (p : Int) := by omega
      clear h0
      go_wp2
      go_meet
      exact ⟨rfl, Below.refl _ _⟩
    · have d0 : (0 : Int) < (p : Int) := by omega
      have K1 := Lib.hid (beside7_any _ l ((p : Int) - 1) w HL.out (by omega))
      have hv : vr = (clsOf (Ctx.at0 l ((p : Int) - 1)) == 9) := by rw [HVR.out]; unfold Ctx.virama; rw [decide_eq_true (by omega), Bool.true_and]
      generalize Ctx.at0 l ((p : Int) - 1) = y at hv K1
      have HV := Lib.hid hv
      clear h0 hv
      go_wp2_with fail
      refine K1.out.mono ?_
      rintro e w1 ⟨rfl, rfl⟩
      go_wp2_with fail
      refine (refClass_any y _).mono ?_
      rintro e w2 ⟨rfl, hb2⟩
      have B2 := Lib.hid hb2
      clear hb2
      go_wp2
      go_meet
      exact ⟨by rw [HV.out], B2.out⟩
  case rest =>
    obtain ⟨rfl, B1⟩ := hcut
    have K1 := Lib.hid (beside7_any _ l ((p : Int) - 1) wc (HL.out.keep B1.out) (by omega))
    have K2 := Lib.hid (beside7_any _ l ((p : Int) + 1) wc (HL.out.keep B1.out) (by omega))
    have HM2 := HM.out
    generalize Ctx.at0 l ((p : Int) - 1) = y at K1 HM2
    generalize Ctx.at0 l ((p : Int) + 1) = z at K2 HM2
    clear HM HVR
    by_cases x1 : x = 8205
    · rw [if_pos x1] at HM2
      have R := Lib.hid HM2
      subst x1
      clear HM2 K1 K2
      go_wp2
      go_ret
      exact ⟨by rw [R.out]; rfl, B1.out⟩
    rw [if_neg x1] at HM2
    by_cases x2 : x = 8204
    · rw [if_pos x2] at HM2
      have KJ := Lib.hid (joined7_any _ l p wc (HL.out.keep B1.out) hn hp)
      generalize Ctx.joined l p = jj at KJ HM2
      have R := Lib.hid HM2
      subst x2
      clear HM2 K1 K2 x1
      cases vr with
      | true =>
        go_wp2
        go_ret
        exact ⟨by rw [R.out]; rfl, B1.out⟩
      | false =>
        go_wp2_with fail
        refine KJ.out.mono ?_
        rintro e w3 ⟨rfl, hb3⟩
        have B3 := Lib.hid (below_then B1.out hb3)
        clear hb3
        go_wp2
        go_ret
        exact ⟨by rw [R.out]; rfl, B3.out⟩
    rw [if_neg x2] at HM2
    by_cases x3 : x = 183
    · rw [if_pos x3] at HM2
      have R := Lib.hid HM2
      subst x3
      clear HM2 x1 x2
      go_wp2_with fail
      refine K1.out.mono ?_
      rintro e w3 ⟨rfl, rfl⟩
      cases h1 : (y == 108) with
      | false =>
        go_wp2
        go_ret
        exact ⟨by rw [R.out, h1]; rfl, B1.out⟩
      | true =>
        go_wp2_with fail
        refine K2.out.mono ?_
        rintro e w4 ⟨rfl, rfl⟩
        go_wp2
        go_ret
        exact ⟨by rw [R.out, h1, Bool.true_and]; rfl, B1.out⟩
    rw [if_neg x3] at HM2
    by_cases x4 : x = 885
    · rw [if_pos x4] at HM2
      have R := Lib.hid HM2
      subst x4
      clear HM2 x1 x2 x3
      go_wp2_with fail
      refine K2.out.mono ?_
      rintro e w3 ⟨rfl, rfl⟩
      go_wp2_with fail
      refine (refScript_any z _).mono ?_
      rintro e w4 ⟨rfl, hb4⟩
      have B4 := Lib.hid (below_then B1.out hb4)
      clear hb4
      go_wp2
      go_ret
      exact ⟨by rw [R.out]; rfl, B4.out⟩
    rw [if_neg x4] at HM2
    by_cases x5 : x = 1523 ∨ x = 1524
    · rw [if_pos x5] at HM2
      have R := Lib.hid HM2
      clear HM2 x1 x2 x3 x4
      rcases x5 with rfl | rfl
      all_goals
        go_wp2_with fail
        refine K1.out.mono ?_
        rintro e w3 ⟨rfl, rfl⟩
        go_wp2_with fail
        refine (refScript_any y _).mono ?_
        rintro e w4 ⟨rfl, hb4⟩
        have B4 := Lib.hid (below_then B1.out hb4)
        clear hb4
        go_wp2
        go_ret
        exact ⟨by rw [R.out]; rfl, B4.out⟩
    rw [if_neg x5] at HM2
    by_cases x6 : x = 12539
    · rw [if_pos x6] at HM2
      have KA := Lib.hid (asian7_any _ l wc (HL.out.keep B1.out) hn)
      generalize Ctx.asian l = aa at KA HM2
      have R := Lib.hid HM2
      subst x6
      clear HM2 x1 x2 x3 x4 x5
      go_wp2_with fail
      refine KA.out.mono ?_
      rintro e w4 ⟨rfl, hb4⟩
      have B4 := Lib.hid (below_then B1.out hb4)
      clear hb4
      go_wp2
      go_ret
      exact ⟨by rw [R.out]; rfl, B4.out⟩
    rw [if_neg x6] at HM2
    have y1 : (x == 8205) = false := beq_eq_false_iff_ne.2 x1
    have y2 : (x == 8204) = false := beq_eq_false_iff_ne.2 x2
    have y3 : (x == 183) = false := beq_eq_false_iff_ne.2 x3
    have y4 : (x == 885) = false := beq_eq_false_iff_ne.2 x4
    have y5 : (x == 1523) = false := beq_eq_false_iff_ne.2 (fun e => x5 (.inl e))
    have y6 : (x == 1524) = false := beq_eq_false_iff_ne.2 (fun e => x5 (.inr e))
    have y7 : (x == 12539) = false := beq_eq_false_iff_ne.2 x6
    clear x1 x2 x3 x4 x5 x6 K1 K2
    by_cases x7 : x < 1700
    · rw [if_pos x7] at HM2
      have KA := Lib.hid (among7_any _ l 1776 1785 wc (HL.out.keep B1.out) hn)
      generalize Ctx.among l 1776 1785 = aa at KA HM2
      have R := Lib.hid HM2
      clear HM2
      go_wp2_with fail
      refine KA.out.mono ?_
      rintro e w4 ⟨rfl, hb4⟩
      have B4 := Lib.hid (below_then B1.out hb4)
      clear hb4
      go_wp2
      go_ret
      exact ⟨by rw [R.out]; rfl, B4.out⟩
    · rw [if_neg x7] at HM2
      have KA := Lib.hid (among7_any _ l 1632 1641 wc (HL.out.keep B1.out) hn)
      generalize Ctx.among l 1632 1641 = aa at KA HM2
      have R := Lib.hid HM2
      clear HM2
      go_wp2_with fail
      refine KA.out.mono ?_
      rintro e w4 ⟨rfl, hb4⟩
      have B4 := Lib.hid (below_then B1.out hb4)
      clear hb4
      go_wp2
      go_ret
      exact ⟨by rw [R.out]; rfl, B4.out⟩
set_option maxHeartbeats 4000000 in
set_option maxRecDepth 100000 in
theorem need7_any (v : Value) (l : List Int) (i : Int) (w : World) (hl : Runes v l w) (hn : l.length ≤ 10000) :
    Calls Tryz.prog 36 #[v, .int .i64 i] w fun e w' => e = .returned (.int .i64 (Ctx.need l i)) ∧ Below w.heap.size w w' := by
  have HL := Lib.hid hl
  obtain ⟨A, c, rfl, -, hcell⟩ := hl.form
  have HC := Lib.hid hcell
  clear hl hcell
  by_cases h0 : i < 0
  · have R := Lib.hid (show Ctx.need l i = 0 by unfold Ctx.need; rw [if_neg (by omega)])
    go_enter Tryz.func36, Tryz.ntmps36
    go_wp2
    go_ret
    exact ⟨by rw [R.out]; rfl, Below.refl _ _⟩
  · by_cases h1 : i < (l.length : Int)
    · obtain ⟨k, rfl⟩ : ∃ k : Nat, i = k := ⟨i.toNat, by omega⟩
      have hk : k < l.length := by omega
      obtain ⟨ad, rfl, hb, hx⟩ := HC.out k hk
      obtain ⟨x, hxe⟩ : ∃ x, l[k]! = x := ⟨_, rfl⟩
      have hN := Ctx.need_in hk
      rw [hxe] at hx hN
      have KN := needs7_any x w
      cases hnd : Ctx.needs x with
      | false =>
        rw [hnd] at KN hN
        have R := Lib.hid hN
        have HKN := Lib.hid KN
        clear hN KN hnd hb hxe h0
        go_enter Tryz.func36, Tryz.ntmps36
        go_wp2_with fail
        refine HKN.out.mono ?_
        rintro e w1 ⟨rfl, rfl⟩
        go_wp2
        go_ret
        exact ⟨by rw [R.out]; rfl, Below.refl _ _⟩
      | true =>
        rw [hnd, if_pos rfl] at hN
        rw [hnd] at KN
        have KM := met7_any _ l k w HL.out hn hk
        have HKN := Lib.hid KN
        cases hm : Ctx.met l k with
        | false =>
          rw [hm] at KM hN
          have R := Lib.hid hN
          have HKM := Lib.hid KM
          clear hN KN hnd hb hxe h0 KM hm
          go_enter Tryz.func36, Tryz.ntmps36
          go_wp2_with fail
          refine HKN.out.mono ?_
          rintro e w1 ⟨rfl, rfl⟩
          go_wp2_with fail
          refine HKM.out.mono ?_
          rintro e w2 ⟨rfl, hb2⟩
          have B2 := Lib.hid hb2
          clear hb2
          go_wp2
          go_ret
          exact ⟨by rw [R.out]; rfl, B2.out⟩
        | true =>
          rw [hm] at KM hN
          have R := Lib.hid hN
          have HKM := Lib.hid KM
          clear hN KN hnd hb hxe h0 KM hm
          go_enter Tryz.func36, Tryz.ntmps36
          go_wp2_with fail
          refine HKN.out.mono ?_
          rintro e w1 ⟨rfl, rfl⟩
          go_wp2_with fail
          refine HKM.out.mono ?_
          rintro e w2 ⟨rfl, hb2⟩
          have B2 := Lib.hid hb2
          clear hb2
          go_wp2
          go_ret
          exact ⟨by rw [R.out]; rfl, B2.out⟩
    · have R := Lib.hid (show Ctx.need l i = 0 by unfold Ctx.need; rw [if_neg (by omega)])
      have h2 : (l.length : Int) ≤ i := by omega
      go_enter Tryz.func36, Tryz.ntmps36
      go_wp2
      go_ret
      exact ⟨by rw [R.out]; rfl, Below.refl _ _⟩
namespace Ctx
/-- None of the first k misses what it needs. -/
def allTo (l : List Int) (k : Nat) : Bool := (List.range k).all fun i => need l (i : Nat) != 2
theorem allTo_next (l : List Int) (k : Nat) : allTo l (k + 1) = (allTo l k && need l (k : Nat) != 2) := by
  unfold allTo
  rw [List.range_succ, List.all_append]
  simp
theorem allTo_no {l : List Int} {k : Nat} (hk : k < l.length) (h : need l (k : Nat) = 2) : all l = false := by
  unfold all
  rw [List.all_eq_false]
  exact ⟨k, List.mem_range.2 hk, by rw [h]; decide⟩
end Ctx
end Go.Proofs.YtmbammhkkcnoaaaGreat
namespace Go.Proofs.YtmbammhkkcnoaaaGreat
open Go.RowKit
/-- A slice's first part can be read. -/
theorem runes_front {ad : Addr} {n c : Nat} {l : List Int} {w : World} (h : Runes (.slice (some ad) n c) l w) (m : Nat) (hm : m ≤ l.length) (h0 : 0 < l.length) : Runes (.slice (some ad) m c) (l.take m) w := by
  obtain ⟨A, c', e, hc, -, ha⟩ := h
  injection e with e1 e2 e3
  subst e1 e3
  rw [List.length_map] at hc ha
  obtain ⟨ad', e4, hlt, hcell⟩ := ha h0
  obtain rfl : ad = ad' := by injection e4
  refine ⟨some ad, c, by rw [List.length_map, List.length_take, Nat.min_eq_left hm], by rw [List.length_map, List.length_take]; omega, fun e => (by cases e), fun _ => ⟨ad, rfl, hlt, fun j u hu => ?_⟩⟩
  have hj : j < (l.take m).length := by have := (List.getElem?_eq_some_iff.1 hu).1; simpa using this
  rw [List.length_take] at hj
  rw [List.getElem?_map, List.getElem?_take_of_lt (by omega), ← List.getElem?_map] at hu
  exact hcell j u hu
end Go.Proofs.YtmbammhkkcnoaaaGreat
namespace Go.Proofs.YtmbammhkkcnoaaaGreat
open Go.RowKit
def isKind (d : Int) : Bool := d == 8204 || d == 8205 || d == 183 || d == 885 || d == 1523 || d == 12539 || d == 1632 || d == 1776
/-- What the rule of a kind tells of a place. -/
def ruleOf (l : List Int) (k : Nat) (d : Int) : Bool :=
  if d = 8205 then Ctx.virama l k else if d = 8204 then Ctx.virama l k || Ctx.joined l k
  else if d = 183 then Ctx.at0 l ((k : Int) - 1) == 108 && Ctx.at0 l ((k : Int) + 1) == 108
  else if d = 885 then scriptOf (Ctx.at0 l ((k : Int) + 1)) == 2
  else if d = 1523 then scriptOf (Ctx.at0 l ((k : Int) - 1)) == 4
  else if d = 12539 then Ctx.asian l
  else if d = 1632 then !Ctx.among l 1776 1785 else !Ctx.among l 1632 1641
theorem kind_cases (r : Int) : (r = 1524 ∧ kindOf r = 1523) ∨ (r ≠ 1524 ∧ 1632 ≤ r ∧ r ≤ 1641 ∧ kindOf r = 1632) ∨ (r ≠ 1524 ∧ 1776 ≤ r ∧ r ≤ 1785 ∧ kindOf r = 1776) ∨ (r ≠ 1524 ∧ ¬ (1632 ≤ r ∧ r ≤ 1641) ∧ ¬ (1776 ≤ r ∧ r ≤ 1785) ∧ kindOf r = r) := by
  unfold kindOf
  by_cases h1 : r = 1524
  · exact .inl ⟨h1, by rw [if_pos h1]⟩
  · rw [if_neg h1]
    by_cases h2 : 1632 ≤ r ∧ r ≤ 1641
    · exact .inr (.inl ⟨h1, h2.1, h2.2, by rw [if_pos h2]⟩)
    · rw [if_neg h2]
      by_cases h3 : 1776 ≤ r ∧ r ≤ 1785
      · exact .inr (.inr (.inl ⟨h1, h3.1, h3.2, by rw [if_pos h3]⟩))
      · exact .inr (.inr (.inr ⟨h1, h2, h3, by rw [if_neg h3]⟩))
theorem needs_kind (r : Int) : Ctx.needs r = isKind (kindOf r) := by
  rw [Bool.eq_iff_iff]
  unfold Ctx.needs isKind
  rcases kind_cases r with ⟨rfl, h⟩ | ⟨h1, h2, h3, h⟩ | ⟨h1, h2, h3, h⟩ | ⟨h1, h2, h3, h⟩ <;> rw [h]
  · decide
  · simp [h2, h3]
  · simp [h2, h3]
  · simp only [Bool.or_eq_true, Bool.and_eq_true, beq_iff_eq, decide_eq_true_eq]
    omega
theorem met_kind (l : List Int) (k : Nat) (hn : Ctx.needs l[k]! = true) : Ctx.met l k = ruleOf l k (kindOf l[k]!) := by
  rw [needs_kind] at hn
  unfold Ctx.met ruleOf
  generalize l[k]! = r at hn ⊢
  rcases kind_cases r with ⟨rfl, h⟩ | ⟨h1, h2, h3, h⟩ | ⟨h1, h2, h3, h⟩ | ⟨h1, h2, h3, h⟩
  · rw [h]; rfl
  · rw [h, if_neg (show ¬ r = 8205 by omega), if_neg (show ¬ r = 8204 by omega), if_neg (show ¬ r = 183 by omega), if_neg (show ¬ r = 885 by omega), if_neg (show ¬ (r = 1523 ∨ r = 1524) by omega), if_neg (show ¬ r = 12539 by omega), if_pos (show r < 1700 by omega)]
    rfl
  · rw [h, if_neg (show ¬ r = 8205 by omega), if_neg (show ¬ r = 8204 by omega), if_neg (show ¬ r = 183 by omega), if_neg (show ¬ r = 885 by omega), if_neg (show ¬ (r = 1523 ∨ r = 1524) by omega), if_neg (show ¬ r = 12539 by omega), if_neg (show ¬ r < 1700 by omega)]
    rfl
  · rw [h] at hn ⊢
    unfold isKind at hn
    simp only [Bool.or_eq_true, beq_iff_eq] at hn
    have hc : r = 8204 ∨ r = 8205 ∨ r = 183 ∨ r = 885 ∨ r = 1523 ∨ r = 12539 := by omega
    rcases hc with rfl | rfl | rfl | rfl | rfl | rfl <;> rfl
/-- The rules stand in block B, each of them as it was made, or with its answer, and no memory that was there before has changed. -/
structure Ruled (B g c1 c2 c3 : Nat) (t v : Value) (l : List Int) (w0 w : World) : Prop where
  below : Below B w0 w
  base : B = w0.heap.size
  row : RowIs g t v l w0
  o1 : B < c1
  o2 : c1 + 2 < c2
  o3 : c2 + 2 < c3
  rules : RulesAt B g c1 c2 c3 w
  q1 : OnceAt c1 g 109 (Ctx.asian l) w
  q2 : OnceAt c2 g 110 (!Ctx.among l 1776 1785) w
  q3 : OnceAt c3 g 111 (!Ctx.among l 1632 1641) w
section
variable {B g c1 c2 c3 : Nat} {t v : Value} {l : List Int} {w0 w w' : World}
theorem Ruled.lt (h : Ruled B g c1 c2 c3 t v l w0 w) : B < w.heap.size := (Array.getElem?_eq_some_iff.1 h.rules).1
theorem Ruled.keep (h : Ruled B g c1 c2 c3 t v l w0 w) (hb : Below w.heap.size w w') : Ruled B g c1 c2 c3 t v l w0 w' :=
  ⟨h.below.trans (hb.mono (Nat.le_of_lt h.lt)), h.base, h.row, h.o1, h.o2, h.o3, (hb.block _ h.lt).trans h.rules, h.q1.keep hb, h.q2.keep hb, h.q3.keep hb⟩
theorem Ruled.now (h : Ruled B g c1 c2 c3 t v l w0 w) : RowIs g t v l w := h.row.keep (by have := h.below; rwa [h.base] at this)
theorem Ruled.all (h : Ruled B g c1 c2 c3 t v l w0 w) : Below w0.heap.size w0 w := by have := h.below; rwa [h.base] at this
/-- One of them has been asked. -/
theorem Ruled.asked (h : Ruled B g c1 c2 c3 t v l w0 w) {c : Nat} (hc : c = c1 ∨ c = c2 ∨ c = c3) (hb : Below c w w') (hs : ∀ j, c + 2 < j → j < w.heap.size → w'.heap[j]? = w.heap[j]?)
    (h1 : c = c1 → OnceAt c1 g 109 (Ctx.asian l) w') (h2 : c = c2 → OnceAt c2 g 110 (!Ctx.among l 1776 1785) w') (h3 : c = c3 → OnceAt c3 g 111 (!Ctx.among l 1632 1641) w') : Ruled B g c1 c2 c3 t v l w0 w' := by
  have p1 := h.o1
  have p2 := h.o2
  have p3 := h.o3
  have l1 := h.q1.lt
  have l2 := h.q2.lt
  have l3 := h.q3.lt
  refine ⟨h.below.trans (hb.mono (by omega)), h.base, h.row, p1, p2, p3, (hb.block B (by omega)).trans h.rules, ?_, ?_, ?_⟩
  · by_cases e : c = c1
    · exact h1 e
    · exact h.q1.same (hb.block _ (by omega)) (hb.block _ (by omega)) (hb.block _ (by omega))
  · by_cases e : c = c2
    · exact h2 e
    · by_cases e3 : c = c3
      · exact h.q2.same (hb.block _ (by omega)) (hb.block _ (by omega)) (hb.block _ (by omega))
      · exact h.q2.same (hs _ (by omega) (by omega)) (hs _ (by omega) (by omega)) (hs _ (by omega) (by omega))
  · by_cases e : c = c3
    · exact h3 e
    · exact h.q3.same (hs _ (by omega) (by omega)) (hs _ (by omega) (by omega)) (hs _ (by omega) (by omega))
end
theorem find_none (g c1 c2 c3 : Nat) {d : Int} (h : isKind d = false) : Instr.findNow (.int .i32) (.int .i32 d) (rulesOf g c1 c2 c3) 0 = some none := by
  unfold isKind at h
  simp only [Bool.or_eq_false_iff] at h
  obtain ⟨⟨⟨⟨⟨⟨⟨h1, h2⟩, h3⟩, h4⟩, h5⟩, h6⟩, h7⟩, h8⟩ := h
  simp [rulesOf, Instr.findNow, Instr.sameNow, h1, h2, h3, h4, h5, h6, h7, h8]
/-- What tells of a place by a rule of the map. -/
def Tells (B g c1 c2 c3 : Nat) (t v : Value) (l : List Int) (w0 : World) (d : Int) (f : Nat) (args : Int → Array Value) : Prop :=
  ∀ (k : Nat) (w : World), k < l.length → Ruled B g c1 c2 c3 t v l w0 w → Calls Tryz.prog f (args k) w fun e w' => e = .returned (.bool (ruleOf l k d)) ∧ Ruled B g c1 c2 c3 t v l w0 w'
theorem find_some (B g c1 c2 c3 : Nat) (t v : Value) (l : List Int) (w0 : World) (hn : l.length ≤ 1000) {d : Int} (h : isKind d = true) :
    (∃ i f, Instr.findNow (.int .i32) (.int .i32 d) (rulesOf g c1 c2 c3) 0 = some (some (i, .func (.func f) #[.pointer (some ⟨g, 0, none⟩)] #[])) ∧ (∀ args w, (callFunc f args).run Tryz.prog w = .ok (.enter f args) w) ∧ Tells B g c1 c2 c3 t v l w0 d f (fun k => #[.pointer (some ⟨g, 0, none⟩), .int .i64 k])) ∨
    (∃ i c, Instr.findNow (.int .i32) (.int .i32 d) (rulesOf g c1 c2 c3) 0 = some (some (i, .func (.func 143) #[] #[.pointer (some ⟨c + 1, 0, none⟩), .pointer (some ⟨c, 0, none⟩), .pointer (some ⟨c + 2, 0, none⟩)])) ∧ Tells B g c1 c2 c3 t v l w0 d 143 (fun k => #[.int .i64 k, .pointer (some ⟨c + 1, 0, none⟩), .pointer (some ⟨c, 0, none⟩), .pointer (some ⟨c + 2, 0, none⟩)])) := by
  unfold isKind at h
  simp only [Bool.or_eq_true, beq_iff_eq] at h
  rcases h with ((((((rfl | rfl) | rfl) | rfl) | rfl) | rfl) | rfl) | rfl
  · exact .inl ⟨_, _, rfl, enters_of Tryz.func103 (by kernel_rfl) rfl, fun k w hk h => (parts_any g t v l k w h.now hn hk).mono fun e w' ⟨h1, h2⟩ => ⟨h1, h.keep h2⟩⟩
  · exact .inl ⟨_, _, rfl, enters_of Tryz.func104 (by kernel_rfl) rfl, fun k w hk h => (joins_any g t v l k w h.now hn hk).mono fun e w' ⟨h1, h2⟩ => ⟨h1, h.keep h2⟩⟩
  · exact .inl ⟨_, _, rfl, enters_of Tryz.func105 (by kernel_rfl) rfl, fun k w hk h => (isBetween_any g t v l k w h.now hn hk).mono fun e w' ⟨h1, h2⟩ => ⟨h1, h.keep h2⟩⟩
  · exact .inl ⟨_, _, rfl, enters_of Tryz.func106 (by kernel_rfl) rfl, fun k w hk h => (isAheadOfGreek_any g t v l k w h.now hn hk).mono fun e w' ⟨h1, h2⟩ => ⟨h1, h.keep h2⟩⟩
  · exact .inl ⟨_, _, rfl, enters_of Tryz.func107 (by kernel_rfl) rfl, fun k w hk h => (isBehindHebrew_any g t v l k w h.now hn hk).mono fun e w' ⟨h1, h2⟩ => ⟨h1, h.keep h2⟩⟩
  · exact .inr ⟨_, c1, rfl, fun k w hk h => (onceIn_any c1 g _ _ k w h.q1 (enters_of Tryz.func109 (by kernel_rfl) rfl) (hasKanaOrHan_any g t v l w h.now hn)).mono fun e w' ⟨h1, h2, h3, h4⟩ => ⟨h1, h.asked (.inl rfl) h3 h4 (fun _ => h2) (fun e => absurd e (by have := h.o2; omega)) (fun e => absurd e (by have := h.o2; have := h.o3; omega))⟩⟩
  · exact .inr ⟨_, c2, rfl, fun k w hk h => (onceIn_any c2 g _ _ k w h.q2 (enters_of Tryz.func110 (by kernel_rfl) rfl) (hasNoEastern_any g t v l w h.now hn)).mono fun e w' ⟨h1, h2, h3, h4⟩ => ⟨h1, h.asked (.inr (.inl rfl)) h3 h4 (fun e => absurd e (by have := h.o2; omega)) (fun _ => h2) (fun e => absurd e (by have := h.o3; omega))⟩⟩
  · exact .inr ⟨_, c3, rfl, fun k w hk h => (onceIn_any c3 g _ _ k w h.q3 (enters_of Tryz.func111 (by kernel_rfl) rfl) (hasNoArabic_any g t v l w h.now hn)).mono fun e w' ⟨h1, h2, h3, h4⟩ => ⟨h1, h.asked (.inr (.inr rfl)) h3 h4 (fun e => absurd e (by have := h.o2; have := h.o3; omega)) (fun e => absurd e (by have := h.o3; omega)) (fun _ => h2)⟩⟩
theorem zeroRule (w : World) : (zeroValue 81).run Tryz.prog w = .ok .nilFunc w := by kernel_rfl
set_option maxHeartbeats 2000000 in
set_option maxRecDepth 100000 in
theorem needs7_prog (r : Int) (w : World) : Calls Tryz.prog 33 #[.int .i32 r] w fun e w' => e = .returned (.bool (Ctx.needs r)) ∧ Below w.heap.size w w' := by
  rw [needs_kind]
  have KK := fun W => kind_any r W
  generalize kindOf r = d at KK ⊢
  have KK := Lib.hid KK
  have KR := Lib.hid (fun B W h => rules_any w.heap.size B W h)
  have hw : Below w.heap.size w (w.alloc (.cells #[.slice none 0 0, .slice none 0 0, .slice none 0 0, .slice none 0 0, .slice none 0 0] 91)) := below_one _ _
  have HW := Lib.hid hw
  clear hw
  cases hd : isKind d
  · have HD := Lib.hid hd
    clear hd
    go_enter Tryz.func33, Tryz.ntmps33
    go_wp2_with fail
    refine (KR.out (w.heap.size + 1) _ (by simp)).mono ?_
    rintro e w2 ⟨c1, c2, c3, rfl, hb, -, -, -, hr, -, -, -⟩
    have hl := look_none w2 Tryz.underlying87 Tryz.underlying21 (zeroRule w2) hr d (find_none _ _ _ _ HD.out)
    have HB := Lib.hid (below_then HW.out hb)
    clear hb hr
    go_wp2_with fail
    refine (KK.out w2).mono ?_
    rintro e w3 ⟨rfl, rfl⟩
    go_wp2
    go_ret
    exact ⟨rfl, HB.out⟩
  · have HD := Lib.hid hd
    clear hd
    go_enter Tryz.func33, Tryz.ntmps33
    go_wp2_with fail
    refine (KR.out (w.heap.size + 1) _ (by simp)).mono ?_
    rintro e w2 ⟨c1, c2, c3, rfl, hb, -, -, -, hr, -, -, -⟩
    have hl : ∃ V, (Instr.lookup 87 (.map (some (w.heap.size + 1))) (.int .i32 d) true).run Tryz.prog w2 = .ok (.tuple #[V, .bool true]) w2 := by
      rcases find_some 0 w.heap.size c1 c2 c3 .nilFunc .nilFunc [] w (by simp) HD.out with ⟨i, f, hf, -⟩ | ⟨i, f, hf, -⟩
      · exact ⟨_, look_some w2 Tryz.underlying87 Tryz.underlying21 hr d _ hf⟩
      · exact ⟨_, look_some w2 Tryz.underlying87 Tryz.underlying21 hr d _ hf⟩
    obtain ⟨V, hl⟩ := hl
    have HB := Lib.hid (below_then HW.out hb)
    clear hb hr
    go_wp2_with fail
    refine (KK.out w2).mono ?_
    rintro e w3 ⟨rfl, rfl⟩
    go_wp2
    go_ret
    exact ⟨rfl, HB.out⟩
theorem rowIs_new {t v : Value} {l : List Int} {W : World} (g : Nat) (hg : g = W.heap.size) (hT : Table W t) (hl : Runes v l W) {b0 b1 b2 b3 c : Nat} {A : Option Addr} (e1 : t = .agg #[.slice (some ⟨b0, 0, none⟩) 74 74, .slice (some ⟨b1, 0, none⟩) 10 10, .slice (some ⟨b2, 0, none⟩) 11 11, .slice (some ⟨b3, 0, none⟩) 42 42]) (e2 : v = .slice A l.length c) :
    RowIs g t v l (W.alloc (.cells #[.slice (some ⟨b0, 0, none⟩) 74 74, .slice (some ⟨b1, 0, none⟩) 10 10, .slice (some ⟨b2, 0, none⟩) 11 11, .slice (some ⟨b3, 0, none⟩) 42 42, .slice A l.length c] 91)) := by
  subst hg
  exact ⟨hT.below (below_one W _), hl.keep (below_one W _), b0, b1, b2, b3, A, c, e1, e2, heap_alloc_new W _⟩
theorem ruled_new {B g : Nat} {t v : Value} {l : List Int} {w0 : World} {e : Ending} {w' : World} (hB : B = w0.heap.size) (hR : RowIs g t v l w0) (h : RulesPost g B w0 e w') : e = .returned (.map (some B)) ∧ ∃ c1 c2 c3, Ruled B g c1 c2 c3 t v l w0 w' := by
  obtain ⟨c1, c2, c3, rfl, hb, h1, h2, h3, hr, q1, q2, q3⟩ := h
  exact ⟨rfl, c1, c2, c3, hB ▸ hb, hB, hR, h1, h2, h3, hr, q1 _, q2 _, q3 _⟩
/-- Nobody ahead of a place misses what it needs. -/
def Good (l : List Int) (k : Nat) : Prop := ∀ j, j < k → Ctx.needs l[j]! = true → Ctx.met l j = true
theorem Good.next {l : List Int} {k : Nat} (h : Good l k) (hx : Ctx.needs l[k]! = true → Ctx.met l k = true) : Good l (k + 1) := fun j hj => by
  by_cases e : j = k
  · subst e; exact hx
  · exact h j (by omega)
set_option maxHeartbeats 8000000 in
set_option maxRecDepth 100000 in
theorem all7_prog (t v : Value) (l : List Int) (w : World) (hT : Table w t) (hl : Runes v l w) (hn : l.length ≤ 1000) :
    Calls Tryz.prog 35 #[t, v] w fun e w' => e = .returned (.bool (Ctx.all l)) ∧ Below w.heap.size w w' := by
  have hT0 := hT
  have hl0 := hl
  obtain ⟨b0, b1, b2, b3, rfl, -, -, -, -⟩ := hT0
  obtain ⟨A, c, rfl, hc, hx⟩ := hl0.form
  have hB1 := below_one w (.cells #[.slice (some ⟨b0, 0, none⟩) 74 74, .slice (some ⟨b1, 0, none⟩) 10 10, .slice (some ⟨b2, 0, none⟩) 11 11, .slice (some ⟨b3, 0, none⟩) 42 42] 28)
  have hrow := rowIs_new (w.heap.size + 1) (by simp) (hT.below hB1) (hl.keep hB1) (b0 := b0) (b1 := b1) (b2 := b2) (b3 := b3) (c := c) (A := A) rfl rfl
  have hB2 : Below w.heap.size w ((w.alloc (.cells #[.slice (some ⟨b0, 0, none⟩) 74 74, .slice (some ⟨b1, 0, none⟩) 10 10, .slice (some ⟨b2, 0, none⟩) 11 11, .slice (some ⟨b3, 0, none⟩) 42 42] 28)).alloc (.cells #[.slice (some ⟨b0, 0, none⟩) 74 74, .slice (some ⟨b1, 0, none⟩) 10 10, .slice (some ⟨b2, 0, none⟩) 11 11, .slice (some ⟨b3, 0, none⟩) 42 42, .slice A l.length c] 91)) := below_pair _ _ _
  have HX := Lib.hid (fun W (h : Below w.heap.size w W) k (hk : k < l.length) => by
    obtain ⟨ad, e, hb, hcell⟩ := hx k hk
    exact (⟨ad, e, (h.cell (p := ad.add k) (by rw [add_block]; exact hb)).trans hcell⟩ : ∃ ad, A = some ad ∧ W.cell? (ad.add k) = some (.int .i32 l[k]!)))
  have KK := Lib.hid (fun r W => kind_any r W)
  have hra := rules_any (w.heap.size + 1) (w.heap.size + 1 + 1) ((w.alloc (.cells #[.slice (some ⟨b0, 0, none⟩) 74 74, .slice (some ⟨b1, 0, none⟩) 10 10, .slice (some ⟨b2, 0, none⟩) 11 11, .slice (some ⟨b3, 0, none⟩) 42 42] 28)).alloc (.cells #[.slice (some ⟨b0, 0, none⟩) 74 74, .slice (some ⟨b1, 0, none⟩) 10 10, .slice (some ⟨b2, 0, none⟩) 11 11, .slice (some ⟨b3, 0, none⟩) 42 42, .slice A l.length c] 91)) (by simp)
  have HR := Lib.hid (fun e w' h => ruled_new (e := e) (w' := w') (show w.heap.size + 1 + 1 = ((w.alloc (.cells #[.slice (some ⟨b0, 0, none⟩) 74 74, .slice (some ⟨b1, 0, none⟩) 10 10, .slice (some ⟨b2, 0, none⟩) 11 11, .slice (some ⟨b3, 0, none⟩) 42 42] 28)).alloc (.cells #[.slice (some ⟨b0, 0, none⟩) 74 74, .slice (some ⟨b1, 0, none⟩) 10 10, .slice (some ⟨b2, 0, none⟩) 11 11, .slice (some ⟨b3, 0, none⟩) 42 42, .slice A l.length c] 91)).heap.size by simp) hrow h)
  generalize hW0 : (w.alloc (.cells #[.slice (some ⟨b0, 0, none⟩) 74 74, .slice (some ⟨b1, 0, none⟩) 10 10, .slice (some ⟨b2, 0, none⟩) 11 11, .slice (some ⟨b3, 0, none⟩) 42 42] 28)).alloc (.cells #[.slice (some ⟨b0, 0, none⟩) 74 74, .slice (some ⟨b1, 0, none⟩) 10 10, .slice (some ⟨b2, 0, none⟩) 11 11, .slice (some ⟨b3, 0, none⟩) 42 42, .slice A l.length c] 91) = W0 at *
  have HA := Lib.hid hra
  have HB2 := Lib.hid hB2
  have HW0 := Lib.hid hW0
  obtain ⟨r, hr⟩ : ∃ r, r = Ctx.all l := ⟨_, rfl⟩
  rw [← hr]
  have HRes := Lib.hid hr
  have HN := Lib.hid hn
  clear hT hl hx hc hB1 hrow hB2 hra hW0 hr
  go_enter Tryz.func35, Tryz.ntmps35
  go_wp2_with fail
  rw [HW0.out]
  refine HA.out.mono ?_
  rintro e w2 hpost
  obtain ⟨rfl, c1, c2, c3, hru⟩ := HR.out e w2 hpost
  have HRu := Lib.hid hru
  have FS := Lib.hid (fun d h => find_some (w.heap.size + 1 + 1) (w.heap.size + 1) c1 c2 c3 (.agg #[.slice (some ⟨b0, 0, none⟩) 74 74, .slice (some ⟨b1, 0, none⟩) 10 10, .slice (some ⟨b2, 0, none⟩) 11 11, .slice (some ⟨b3, 0, none⟩) 42 42]) (.slice A l.length c) l W0 hn (d := d) h)
  clear hpost hru HA HR
  go_wp2
  go_loopg [6, 7, 8, 9, 17] (l.length + 1) (fun gk _ _ _ _ i wr => ∃ k : Nat, k ≤ l.length ∧ i = .int .i64 k ∧ l.length - k < gk ∧ Hid (Good l k ∧ Ruled (w.heap.size + 1 + 1) (w.heap.size + 1) c1 c2 c3 (.agg #[.slice (some ⟨b0, 0, none⟩) 74 74, .slice (some ⟨b1, 0, none⟩) 10 10, .slice (some ⟨b2, 0, none⟩) 11 11, .slice (some ⟨b3, 0, none⟩) 42 42]) (.slice A l.length c) l W0 wr))
  case atStart => exact ⟨0, Nat.zero_le _, rfl, by omega, ⟨fun j hj => absurd hj (Nat.not_lt_zero _), HRu.out⟩⟩
  case round =>
    obtain ⟨k, hk, rfl, hg0, I⟩ := hrel
    by_cases hlt : k < l.length
    · have BW := Lib.hid (below_then HB2.out I.out.2.all)
      obtain ⟨ad, rfl, hcell⟩ := HX.out wr BW.out k hlt
      obtain ⟨x, hxe⟩ : ∃ x, x = l[k]! := ⟨_, rfl⟩
      rw [← hxe] at hcell
      have hnk := needs_kind x
      have hmk : Ctx.needs x = true → Ctx.met l k = ruleOf l k (kindOf x) := fun h => by rw [hxe] at h ⊢; exact met_kind l k h
      have K := KK.out x wr
      generalize kindOf x = d at hnk hmk K
      have HXE := Lib.hid hxe
      have HNK := Lib.hid hnk
      have HMK := Lib.hid hmk
      have K := Lib.hid K
      have hkz : (k : Int) < (l.length : Int) := by omega
      clear hxe hnk hmk
      cases hd : isKind d
      · have hl := look_none wr Tryz.underlying87 Tryz.underlying21 (zeroRule wr) I.out.2.rules d (find_none _ _ _ _ hd)
        have I2 := Lib.hid (show Good l (k + 1) from I.out.1.next (fun h => by rw [← HXE.out, HNK.out, hd] at h; cases h))
        clear hd
        go_wp2_with fail
        refine K.out.mono ?_
        rintro e w3 ⟨rfl, rfl⟩
        go_wp2
        go_roundg (l.length - k)
        case measure => omega
        case rel => exact ⟨k + 1, by omega, by go_num, by omega, ⟨I2.out, I.out.2⟩⟩
      · have HD := Lib.hid hd
        clear hd
        have hneed : Hid (Ctx.needs l[k]! = true) := Lib.hid (by rw [← HXE.out, HNK.out, HD.out])
        have hmet : Hid (Ctx.met l k = ruleOf l k d) := Lib.hid (HMK.out (by rw [HNK.out, HD.out]))
        rcases FS.out d HD.out with ⟨i, f, hf, eg, ht⟩ | ⟨i, c', hf, ht⟩
        · have hl := look_some wr Tryz.underlying87 Tryz.underlying21 I.out.2.rules d _ hf
          have HC := ht k wr hlt I.out.2
          generalize ruleOf l k d = b at HC hmet
          have HC := Lib.hid HC
          clear hf ht
          cases b
          · have R := Lib.hid (HRes.out.trans (Ctx.all_no hlt hneed.out hmet.out))
            go_wp2_with fail
            refine K.out.mono ?_
            rintro e w3 ⟨rfl, rfl⟩
            go_wp2_with fail
            refine HC.out.mono ?_
            rintro e w4 ⟨rfl, hru4⟩
            have B4 := Lib.hid (below_then HB2.out hru4.all)
            clear hru4 hcell hl
            go_wp2
            go_ret
            exact ⟨by rw [R.out]; rfl, B4.out⟩
          · have I2 := Lib.hid (show Good l (k + 1) from I.out.1.next (fun _ => hmet.out))
            go_wp2_with fail
            refine K.out.mono ?_
            rintro e w3 ⟨rfl, rfl⟩
            go_wp2_with fail
            refine HC.out.mono ?_
            rintro e w4 ⟨rfl, hru4⟩
            have HR4 := Lib.hid hru4
            clear hru4 hcell hl
            go_wp2
            go_roundg (l.length - k)
            case measure => omega
            case rel => exact ⟨k + 1, by omega, by go_num, by omega, ⟨I2.out, HR4.out⟩⟩
        · have hl := look_some wr Tryz.underlying87 Tryz.underlying21 I.out.2.rules d _ hf
          have HC := ht k wr hlt I.out.2
          generalize ruleOf l k d = b at HC hmet
          have HC := Lib.hid HC
          clear hf ht
          cases b
          · have R := Lib.hid (HRes.out.trans (Ctx.all_no hlt hneed.out hmet.out))
            go_wp2_with fail
            refine K.out.mono ?_
            rintro e w3 ⟨rfl, rfl⟩
            go_wp2_with fail
            refine HC.out.mono ?_
            rintro e w4 ⟨rfl, hru4⟩
            have B4 := Lib.hid (below_then HB2.out hru4.all)
            clear hru4 hcell hl
            go_wp2
            go_ret
            exact ⟨by rw [R.out]; rfl, B4.out⟩
          · have I2 := Lib.hid (show Good l (k + 1) from I.out.1.next (fun _ => hmet.out))
            go_wp2_with fail
            refine K.out.mono ?_
            rintro e w3 ⟨rfl, rfl⟩
            go_wp2_with fail
            refine HC.out.mono ?_
            rintro e w4 ⟨rfl, hru4⟩
            have HR4 := Lib.hid hru4
            clear hru4 hcell hl
            go_wp2
            go_roundg (l.length - k)
            case measure => omega
            case rel => exact ⟨k + 1, by omega, by go_num, by omega, ⟨I2.out, HR4.out⟩⟩
    · obtain rfl : k = l.length := by omega
      have R := Lib.hid (HRes.out.trans ((Ctx.all_iff l).2 I.out.1))
      have hkz : ¬ (l.length : Int) < (l.length : Int) := by omega
      go_wp2
      go_ret
      exact ⟨by rw [R.out]; rfl, below_then HB2.out I.out.2.all⟩
def EntryIs (B g c1 c2 c3 : Nat) (t v : Value) (l : List Int) (w0 : World) (d : Int) (V : Value) : Prop :=
  (∃ f, V = .func (.func f) #[.pointer (some ⟨g, 0, none⟩)] #[] ∧ (∀ args w, (callFunc f args).run Tryz.prog w = .ok (.enter f args) w) ∧ Tells B g c1 c2 c3 t v l w0 d f (fun k => #[.pointer (some ⟨g, 0, none⟩), .int .i64 k])) ∨
    (∃ c, V = .func (.func 143) #[] #[.pointer (some ⟨c + 1, 0, none⟩), .pointer (some ⟨c, 0, none⟩), .pointer (some ⟨c + 2, 0, none⟩)] ∧ Tells B g c1 c2 c3 t v l w0 d 143 (fun k => #[.int .i64 k, .pointer (some ⟨c + 1, 0, none⟩), .pointer (some ⟨c, 0, none⟩), .pointer (some ⟨c + 2, 0, none⟩)]))
theorem entry_at {B g c1 c2 c3 : Nat} {t v : Value} {l : List Int} {w0 w : World} (h : Ruled B g c1 c2 c3 t v l w0 w) (hn : l.length ≤ 1000) {d : Int} (hd : isKind d = true) :
    ∃ V, (Instr.lookup 87 (.map (some B)) (.int .i32 d) true).run Tryz.prog w = .ok (.tuple #[V, .bool true]) w ∧ EntryIs B g c1 c2 c3 t v l w0 d V := by
  rcases find_some B g c1 c2 c3 t v l w0 hn hd with ⟨i, f, hf, eg, ht⟩ | ⟨i, c', hf, ht⟩
  · exact ⟨_, look_some w Tryz.underlying87 Tryz.underlying21 h.rules d _ hf, .inl ⟨f, rfl, eg, ht⟩⟩
  · exact ⟨_, look_some w Tryz.underlying87 Tryz.underlying21 h.rules d _ hf, .inr ⟨c', rfl, ht⟩⟩
theorem need_out {l : List Int} {i : Int} (h : i < 0 ∨ l.length ≤ i) : Ctx.need l i = 0 := by unfold Ctx.need; rw [if_neg (by omega)]
end Go.Proofs.YtmbammhkkcnoaaaGreat
