/-
  Proved here: context's small functions of a row of characters and its table: who stands at a place, which kind a character is of, and what joiners, dots, and the signs of Greek and of Hebrew need. Conditions: the row can be read, and holds at most 1000 numbers.
  Proved here: slices.ContainsFunc at a row of characters and any function value that tells of a character and leaves what lay in memory as it was; context's three rules of a whole row; how the first one behind a place that is not Clear joins. Conditions: the row can be read, and holds at most 1000 numbers.
-/
import Derived.Test.YtmbammhkkcnoaaaGreatUtfRow
import Derived.Test.YtmbammhkkcnoaaaGreatUcdAll
import Derived.Test.YtmbammhkkcnoaaaGreatCtxPlain
import Derived.BigRegion
import Derived.Deep.RegionHeld3
import Derived.IntWalk
namespace Go.Proofs.YtmbammhkkcnoaaaGreat
open Go.RowKit
/-- Characters and their table lie in block g, and can be read. -/
def RowIs (g : Nat) (t v : Value) (l : List Int) (w : World) : Prop :=
  Table w t ∧ Runes v l w ∧ ∃ b0 b1 b2 b3 A c, t = .agg #[.slice (some ⟨b0, 0, none⟩) 74 74, .slice (some ⟨b1, 0, none⟩) 10 10, .slice (some ⟨b2, 0, none⟩) 11 11, .slice (some ⟨b3, 0, none⟩) 42 42] ∧ v = .slice A l.length c ∧
    w.heap[g]? = some (.cells #[.slice (some ⟨b0, 0, none⟩) 74 74, .slice (some ⟨b1, 0, none⟩) 10 10, .slice (some ⟨b2, 0, none⟩) 11 11, .slice (some ⟨b3, 0, none⟩) 42 42, .slice A l.length c] 91 (0, 0))
theorem RowIs.lt {g : Nat} {t v : Value} {l : List Int} {w : World} (h : RowIs g t v l w) : g < w.heap.size := by
  obtain ⟨-, -, b0, b1, b2, b3, A, c, -, -, h⟩ := h
  exact (Array.getElem?_eq_some_iff.1 h).1
theorem RowIs.keep {g : Nat} {t v : Value} {l : List Int} {w w' : World} (h : RowIs g t v l w) (hb : Below w.heap.size w w') : RowIs g t v l w' := by
  have hlt := h.lt
  obtain ⟨h1, h2, b0, b1, b2, b3, A, c, e1, e2, h3⟩ := h
  exact ⟨h1.below hb, h2.keep hb, b0, b1, b2, b3, A, c, e1, e2, (hb.block g hlt).trans h3⟩
/-- What a walk asks of it. -/
theorem RowIs.form {g : Nat} {t v : Value} {l : List Int} {w : World} (h : RowIs g t v l w) : ∃ b0 b1 b2 b3 A c, t = .agg #[.slice (some ⟨b0, 0, none⟩) 74 74, .slice (some ⟨b1, 0, none⟩) 10 10, .slice (some ⟨b2, 0, none⟩) 11 11, .slice (some ⟨b3, 0, none⟩) 42 42] ∧ v = .slice A l.length c ∧ l.length ≤ c ∧ g < w.heap.size ∧
    (w.cell? ⟨g, 0, none⟩ = some (.slice (some ⟨b0, 0, none⟩) 74 74) ∧ w.cell? ⟨g, 1, none⟩ = some (.slice (some ⟨b1, 0, none⟩) 10 10) ∧ w.cell? ⟨g, 2, none⟩ = some (.slice (some ⟨b2, 0, none⟩) 11 11) ∧ w.cell? ⟨g, 3, none⟩ = some (.slice (some ⟨b3, 0, none⟩) 42 42) ∧ w.cell? ⟨g, 4, none⟩ = some (.slice A l.length c)) ∧
    (∀ k, k < l.length → ∃ ad, A = some ad ∧ ad.block < w.heap.size ∧ w.cell? (ad.add k) = some (.int .i32 l[k]!)) := by
  have hlt := h.lt
  obtain ⟨h1, h2, b0, b1, b2, b3, A, c, rfl, rfl, h3⟩ := h
  obtain ⟨A', c', e, hc, hx⟩ := h2.form
  injection e with e1 e2 e3
  subst e1 e3
  refine ⟨b0, b1, b2, b3, A, c, rfl, rfl, hc, hlt, ?_, hx⟩
  refine ⟨?_, ?_, ?_, ?_, ?_⟩ <;> simp [World.cell?, h3]
/-- Who stands at a place; -1: nobody. -/
def whoOf (l : List Int) (i : Int) : Int := if 0 ≤ i ∧ i < l.length then l[i.toNat]! else -1
theorem whoOf_in {l : List Int} {k : Nat} (h : k < l.length) : whoOf l k = l[k]! := by unfold whoOf; rw [if_pos (by omega)]; simp
theorem whoOf_out {l : List Int} {i : Int} (h : i < 0 ∨ l.length ≤ i) : whoOf l i = -1 := by unfold whoOf; rw [if_neg (by omega)]
theorem who_split (l : List Int) (i : Int) : (∃ k : Nat, k < l.length ∧ i = k ∧ whoOf l i = l[k]! ∧ Ctx.at0 l i = l[k]!) ∨ (whoOf l i = -1 ∧ Ctx.at0 l i = 0) := by
  by_cases h : 0 ≤ i ∧ i < l.length
  · obtain ⟨k, rfl⟩ : ∃ k : Nat, i = k := ⟨i.toNat, by omega⟩
    exact .inl ⟨k, by omega, rfl, whoOf_in (by omega), Ctx.at0_in (by omega)⟩
  · exact .inr ⟨whoOf_out (by omega), Ctx.at0_out (by omega)⟩
theorem nobody_facts : clsOf (-1) ≠ 9 ∧ scriptOf (-1) ≠ 2 ∧ scriptOf (-1) ≠ 4 := by decide +kernel
theorem who_l (l : List Int) (i : Int) : (whoOf l i == 108) = (Ctx.at0 l i == 108) := by
  rcases who_split l i with ⟨k, -, -, h1, h2⟩ | ⟨h1, h2⟩ <;> rw [h1, h2] <;> rfl
theorem who_greek (l : List Int) (i : Int) : (scriptOf (whoOf l i) == 2) = (scriptOf (Ctx.at0 l i) == 2) := by
  rcases who_split l i with ⟨k, -, -, h1, h2⟩ | ⟨h1, h2⟩ <;> rw [h1, h2]
  rw [beq_eq_false_iff_ne.2 nobody_facts.2.1, beq_eq_false_iff_ne.2 Ctx.script_zero.1]
theorem who_hebrew (l : List Int) (i : Int) : (scriptOf (whoOf l i) == 4) = (scriptOf (Ctx.at0 l i) == 4) := by
  rcases who_split l i with ⟨k, -, -, h1, h2⟩ | ⟨h1, h2⟩ <;> rw [h1, h2]
  rw [beq_eq_false_iff_ne.2 nobody_facts.2.2, beq_eq_false_iff_ne.2 Ctx.script_zero.2]
theorem who_virama (l : List Int) (k : Nat) (hk : k < l.length) : (clsOf (whoOf l ((k : Int) - 1)) == 9) = Ctx.virama l k := by
  unfold Ctx.virama
  by_cases h0 : k = 0
  · subst h0
    rw [whoOf_out (.inl (by omega)), beq_eq_false_iff_ne.2 nobody_facts.1]
    rfl
  · rw [decide_eq_true (by omega), Bool.true_and, show ((k : Int) - 1) = ((k - 1 : Nat) : Int) by omega, whoOf_in (by omega), Ctx.at0_in (by omega)]
set_option maxHeartbeats 1000000 in
set_option maxRecDepth 100000 in
theorem who_any (g : Nat) (t v : Value) (l : List Int) (i : Int) (w : World) (hR : RowIs g t v l w) :
    Calls Tryz.prog 141 #[.pointer (some ⟨g, 0, none⟩), .int .i64 i] w fun e w' => e = .returned (.int .i32 (whoOf l i)) ∧ w = w' := by
  obtain ⟨b0, b1, b2, b3, A, c, rfl, rfl, hc, hg, ⟨c0, c1, c2, c3, c4⟩, hx⟩ := hR.form
  clear hR
  by_cases h0 : i < 0
  · rw [whoOf_out (.inl h0)]
    clear hx
    go_enter Tryz.func141, Tryz.ntmps141
    go_wp2
    go_ret
    exact ⟨rfl, rfl⟩
  · obtain ⟨k, rfl⟩ : ∃ k : Nat, i = k := ⟨i.toNat, by omega⟩
    by_cases hk : k < l.length
    · rw [whoOf_in hk]
      obtain ⟨ad, rfl, hb, hcell⟩ := hx k hk
      obtain ⟨x, hxe⟩ : ∃ x, x = l[k]! := ⟨_, rfl⟩
      rw [← hxe] at hcell ⊢
      clear hx hxe
      have hkz : (k : Int) < (l.length : Int) := by omega
      go_enter Tryz.func141, Tryz.ntmps141
      go_wp2
      go_ret
      exact ⟨rfl, rfl⟩
    · rw [whoOf_out (.inr (by omega))]
      clear hx
      have hkz : (l.length : Int) ≤ (k : Int) := by omega
      go_enter Tryz.func141, Tryz.ntmps141
      go_wp2
      go_ret
      exact ⟨rfl, rfl⟩
/-- The kinds that share a rule, each under its first one. -/
def kindOf (r : Int) : Int := if r = 1524 then 1523 else if 1632 ≤ r ∧ r ≤ 1641 then 1632 else if 1776 ≤ r ∧ r ≤ 1785 then 1776 else r
set_option maxHeartbeats 1000000 in
set_option maxRecDepth 100000 in
theorem isArabic_any (r : Int) (w : World) : Calls Tryz.prog 112 #[.int .i32 r] w fun e w' => e = .returned (.bool (decide (1632 ≤ r) && decide (r ≤ 1641))) ∧ w = w' := by
  by_cases h1 : 1632 ≤ r <;> by_cases h2 : r ≤ 1641
  all_goals first | rw [decide_eq_true h1] | rw [decide_eq_false h1]
  all_goals first | rw [decide_eq_true h2] | rw [decide_eq_false h2]
  all_goals
    go_enter Tryz.func112, Tryz.ntmps112
    go_wp2
    go_ret
    exact ⟨rfl, rfl⟩
set_option maxHeartbeats 1000000 in
set_option maxRecDepth 100000 in
theorem isEastern_any (r : Int) (w : World) : Calls Tryz.prog 113 #[.int .i32 r] w fun e w' => e = .returned (.bool (decide (1776 ≤ r) && decide (r ≤ 1785))) ∧ w = w' := by
  by_cases h1 : 1776 ≤ r <;> by_cases h2 : r ≤ 1785
  all_goals first | rw [decide_eq_true h1] | rw [decide_eq_false h1]
  all_goals first | rw [decide_eq_true h2] | rw [decide_eq_false h2]
  all_goals
    go_enter Tryz.func113, Tryz.ntmps113
    go_wp2
    go_ret
    exact ⟨rfl, rfl⟩
set_option maxHeartbeats 1000000 in
set_option maxRecDepth 100000 in
theorem kind_any (r : Int) (w : World) : Calls Tryz.prog 67 #[.int .i32 r] w fun e w' => e = .returned (.int .i32 (kindOf r)) ∧ w = w' := by
  have KA := Lib.hid (isArabic_any r w)
  have KE := Lib.hid (isEastern_any r w)
  unfold kindOf
  by_cases h : r = 1524
  · subst h
    rw [if_pos rfl]
    go_enter Tryz.func67, Tryz.ntmps67
    go_wp2
    go_ret
    exact ⟨rfl, rfl⟩
  · rw [if_neg h]
    have e1 : (r == 1524) = false := by simpa using h
    by_cases h2 : 1632 ≤ r ∧ r ≤ 1641
    · rw [if_pos h2]
      have k := KA.out
      rw [decide_eq_true h2.1, decide_eq_true h2.2] at k
      have KA := Lib.hid k
      clear k h h2
      go_enter Tryz.func67, Tryz.ntmps67
      go_wp2_with fail
      refine KA.out.mono ?_
      rintro e w2 ⟨rfl, rfl⟩
      go_wp2
      go_ret
      exact ⟨rfl, rfl⟩
    · rw [if_neg h2]
      have ha : (decide (1632 ≤ r) && decide (r ≤ 1641)) = false := by simp; omega
      have k := KA.out
      rw [ha] at k
      have KA := Lib.hid k
      clear k ha h h2
      by_cases h3 : 1776 ≤ r ∧ r ≤ 1785
      · rw [if_pos h3]
        have k := KE.out
        rw [decide_eq_true h3.1, decide_eq_true h3.2] at k
        have KE := Lib.hid k
        clear k h3
        go_enter Tryz.func67, Tryz.ntmps67
        go_wp2_with fail
        refine KA.out.mono ?_
        rintro e w2 ⟨rfl, rfl⟩
        go_wp2_with fail
        refine KE.out.mono ?_
        rintro e w2 ⟨rfl, rfl⟩
        go_wp2
        go_ret
        exact ⟨rfl, rfl⟩
      · rw [if_neg h3]
        have ha : (decide (1776 ≤ r) && decide (r ≤ 1785)) = false := by simp; omega
        have k := KE.out
        rw [ha] at k
        have KE := Lib.hid k
        clear k ha h3
        go_enter Tryz.func67, Tryz.ntmps67
        go_wp2_with fail
        refine KA.out.mono ?_
        rintro e w2 ⟨rfl, rfl⟩
        go_wp2_with fail
        refine KE.out.mono ?_
        rintro e w2 ⟨rfl, rfl⟩
        go_wp2
        go_ret
        exact ⟨rfl, rfl⟩
set_option maxHeartbeats 1000000 in
set_option maxRecDepth 100000 in
theorem isBetween_any (g : Nat) (t v : Value) (l : List Int) (k : Nat) (w : World) (hR : RowIs g t v l w) (hn : l.length ≤ 1000) (hk : k < l.length) :
    Calls Tryz.prog 105 #[.pointer (some ⟨g, 0, none⟩), .int .i64 k] w fun e w' => e = .returned (.bool (Ctx.at0 l ((k : Int) - 1) == 108 && Ctx.at0 l ((k : Int) + 1) == 108)) ∧ Below w.heap.size w w' := by
  rw [← who_l, ← who_l]
  have KX := who_any g t v l ((k : Int) - 1) w hR
  have KY := who_any g t v l ((k : Int) + 1) w hR
  generalize whoOf l ((k : Int) - 1) = x at KX ⊢
  generalize whoOf l ((k : Int) + 1) = y at KY ⊢
  have KX := Lib.hid KX
  have KY := Lib.hid KY
  have hk' : k ≤ 1000 := by omega
  clear hR hn hk
  cases h1 : (x == 108)
  · go_enter Tryz.func105, Tryz.ntmps105
    go_wp2_with fail
    refine KX.out.mono ?_
    rintro e w2 ⟨rfl, rfl⟩
    go_wp2
    go_ret
    exact ⟨rfl, Below.refl _ _⟩
  · cases h2 : (y == 108)
    all_goals
      go_enter Tryz.func105, Tryz.ntmps105
      go_wp2_with fail
      refine KX.out.mono ?_
      rintro e w2 ⟨rfl, rfl⟩
      go_wp2_with fail
      refine KY.out.mono ?_
      rintro e w2 ⟨rfl, rfl⟩
      go_wp2
      go_ret
      exact ⟨rfl, Below.refl _ _⟩
set_option maxHeartbeats 4000000 in
set_option maxRecDepth 100000 in
theorem joins_any (g : Nat) (t v : Value) (l : List Int) (k : Nat) (w : World) (hR : RowIs g t v l w) (hn : l.length ≤ 1000) (hk : k < l.length) :
    Calls Tryz.prog 104 #[.pointer (some ⟨g, 0, none⟩), .int .i64 k] w fun e w' => e = .returned (.bool (Ctx.virama l k)) ∧ Below w.heap.size w w' := by
  rw [← who_virama l k hk]
  have KX := fun W (h : Below w.heap.size w W) => who_any g t v l ((k : Int) - 1) W (hR.keep h)
  generalize whoOf l ((k : Int) - 1) = x at KX ⊢
  have KC := fun W (h : Below w.heap.size w W) => class_any t x W (hR.1.below h)
  generalize clsOf x = y at KC ⊢
  obtain ⟨b0, b1, b2, b3, A, c, rfl, rfl, hc, hg, ⟨c0, c1, c2, c3, c4⟩, -⟩ := hR.form
  have hk' : k ≤ 1000 := by omega
  have KX := Lib.hid KX
  have KC := Lib.hid KC
  clear hR hn hk hc
  cases h1 : (y == 9)
  all_goals
    go_enter Tryz.func104, Tryz.ntmps104
    go_wp2
    have hwr : IntKind.i64.wrap ((k : Int) - 1) = (k : Int) - 1 := IntWalk.i64_in _ (by omega)
    go_region_held3 (fun w' => w'.cell? ⟨g, 0, none⟩ = some (.slice (some ⟨b0, 0, none⟩) 74 74) ∧ w'.cell? ⟨g, 1, none⟩ = some (.slice (some ⟨b1, 0, none⟩) 10 10) ∧ w'.cell? ⟨g, 2, none⟩ = some (.slice (some ⟨b2, 0, none⟩) 11 11) ∧ w'.cell? ⟨g, 3, none⟩ = some (.slice (some ⟨b3, 0, none⟩) 42 42)) (go_keep) (first
      | (go_at_call 141; (with_reducible refine (KX.out _ (Below.refl _ w).drew).mono ?_); rintro e w5 ⟨rfl, rfl⟩)
      | (go_at_call 140; (with_reducible refine (KC.out _ (Below.refl _ w).drew).mono ?_); rintro e w5 ⟨rfl, hb5⟩; have B5 := Lib.hid (below_of_drew hb5); obtain ⟨d0, d1, d2, d3⟩ : w5.cell? ⟨g, 0, none⟩ = some (.slice (some ⟨b0, 0, none⟩) 74 74) ∧ w5.cell? ⟨g, 1, none⟩ = some (.slice (some ⟨b1, 0, none⟩) 10 10) ∧ w5.cell? ⟨g, 2, none⟩ = some (.slice (some ⟨b2, 0, none⟩) 11 11) ∧ w5.cell? ⟨g, 3, none⟩ = some (.slice (some ⟨b3, 0, none⟩) 42 42) := ⟨(B5.out.cell (p := ⟨g, 0, none⟩) hg).trans c0, (B5.out.cell (p := ⟨g, 1, none⟩) hg).trans c1, (B5.out.cell (p := ⟨g, 2, none⟩) hg).trans c2, (B5.out.cell (p := ⟨g, 3, none⟩) hg).trans c3⟩; clear hb5))
    clear hwr
    go_wp2
    go_ret
    exact ⟨rfl, B5.out⟩
set_option maxHeartbeats 4000000 in
set_option maxRecDepth 100000 in
theorem isAheadOfGreek_any (g : Nat) (t v : Value) (l : List Int) (k : Nat) (w : World) (hR : RowIs g t v l w) (hn : l.length ≤ 1000) (hk : k < l.length) :
    Calls Tryz.prog 106 #[.pointer (some ⟨g, 0, none⟩), .int .i64 k] w fun e w' => e = .returned (.bool (scriptOf (Ctx.at0 l ((k : Int) + 1)) == 2)) ∧ Below w.heap.size w w' := by
  rw [← who_greek]
  have KX := fun W (h : Below w.heap.size w W) => who_any g t v l ((k : Int) + 1) W (hR.keep h)
  generalize whoOf l ((k : Int) + 1) = x at KX ⊢
  have KC := fun W (h : Below w.heap.size w W) => script_any t x W (hR.1.below h)
  generalize scriptOf x = y at KC ⊢
  obtain ⟨b0, b1, b2, b3, A, c, rfl, rfl, hc, hg, ⟨c0, c1, c2, c3, c4⟩, -⟩ := hR.form
  have hk' : k ≤ 1000 := by omega
  have KX := Lib.hid KX
  have KC := Lib.hid KC
  clear hR hn hk hc
  cases h1 : (y == 2)
  all_goals
    go_enter Tryz.func106, Tryz.ntmps106
    go_wp2
    have hwr : IntKind.i64.wrap ((k : Int) + 1) = (k : Int) + 1 := IntWalk.i64_in _ (by omega)
    go_region_held3 (fun w' => w'.cell? ⟨g, 0, none⟩ = some (.slice (some ⟨b0, 0, none⟩) 74 74) ∧ w'.cell? ⟨g, 1, none⟩ = some (.slice (some ⟨b1, 0, none⟩) 10 10) ∧ w'.cell? ⟨g, 2, none⟩ = some (.slice (some ⟨b2, 0, none⟩) 11 11) ∧ w'.cell? ⟨g, 3, none⟩ = some (.slice (some ⟨b3, 0, none⟩) 42 42)) (go_keep) (first
      | (go_at_call 141; (with_reducible refine (KX.out _ (Below.refl _ w).drew).mono ?_); rintro e w5 ⟨rfl, rfl⟩)
      | (go_at_call 142; (with_reducible refine (KC.out _ (Below.refl _ w).drew).mono ?_); rintro e w5 ⟨rfl, hb5⟩; have B5 := Lib.hid (below_of_drew hb5); obtain ⟨d0, d1, d2, d3⟩ : w5.cell? ⟨g, 0, none⟩ = some (.slice (some ⟨b0, 0, none⟩) 74 74) ∧ w5.cell? ⟨g, 1, none⟩ = some (.slice (some ⟨b1, 0, none⟩) 10 10) ∧ w5.cell? ⟨g, 2, none⟩ = some (.slice (some ⟨b2, 0, none⟩) 11 11) ∧ w5.cell? ⟨g, 3, none⟩ = some (.slice (some ⟨b3, 0, none⟩) 42 42) := ⟨(B5.out.cell (p := ⟨g, 0, none⟩) hg).trans c0, (B5.out.cell (p := ⟨g, 1, none⟩) hg).trans c1, (B5.out.cell (p := ⟨g, 2, none⟩) hg).trans c2, (B5.out.cell (p := ⟨g, 3, none⟩) hg).trans c3⟩; clear hb5))
    clear hwr
    go_wp2
    go_ret
    exact ⟨rfl, B5.out⟩
set_option maxHeartbeats 4000000 in
set_option maxRecDepth 100000 in
theorem isBehindHebrew_any (g : Nat) (t v : Value) (l : List Int) (k : Nat) (w : World) (hR : RowIs g t v l w) (hn : l.length ≤ 1000) (hk : k < l.length) :
    Calls Tryz.prog 107 #[.pointer (some ⟨g, 0, none⟩), .int .i64 k] w fun e w' => e = .returned (.bool (scriptOf (Ctx.at0 l ((k : Int) - 1)) == 4)) ∧ Below w.heap.size w w' := by
  rw [← who_hebrew]
  have KX := fun W (h : Below w.heap.size w W) => who_any g t v l ((k : Int) - 1) W (hR.keep h)
  generalize whoOf l ((k : Int) - 1) = x at KX ⊢
  have KC := fun W (h : Below w.heap.size w W) => script_any t x W (hR.1.below h)
  generalize scriptOf x = y at KC ⊢
  obtain ⟨b0, b1, b2, b3, A, c, rfl, rfl, hc, hg, ⟨c0, c1, c2, c3, c4⟩, -⟩ := hR.form
  have hk' : k ≤ 1000 := by omega
  have KX := Lib.hid KX
  have KC := Lib.hid KC
  clear hR hn hk hc
  cases h1 : (y == 4)
  all_goals
    go_enter Tryz.func107, Tryz.ntmps107
    go_wp2
    have hwr : IntKind.i64.wrap ((k : Int) - 1) = (k : Int) - 1 := IntWalk.i64_in _ (by omega)
    go_region_held3 (fun w' => w'.cell? ⟨g, 0, none⟩ = some (.slice (some ⟨b0, 0, none⟩) 74 74) ∧ w'.cell? ⟨g, 1, none⟩ = some (.slice (some ⟨b1, 0, none⟩) 10 10) ∧ w'.cell? ⟨g, 2, none⟩ = some (.slice (some ⟨b2, 0, none⟩) 11 11) ∧ w'.cell? ⟨g, 3, none⟩ = some (.slice (some ⟨b3, 0, none⟩) 42 42)) (go_keep) (first
      | (go_at_call 141; (with_reducible refine (KX.out _ (Below.refl _ w).drew).mono ?_); rintro e w5 ⟨rfl, rfl⟩)
      | (go_at_call 142; (with_reducible refine (KC.out _ (Below.refl _ w).drew).mono ?_); rintro e w5 ⟨rfl, hb5⟩; have B5 := Lib.hid (below_of_drew hb5); obtain ⟨d0, d1, d2, d3⟩ : w5.cell? ⟨g, 0, none⟩ = some (.slice (some ⟨b0, 0, none⟩) 74 74) ∧ w5.cell? ⟨g, 1, none⟩ = some (.slice (some ⟨b1, 0, none⟩) 10 10) ∧ w5.cell? ⟨g, 2, none⟩ = some (.slice (some ⟨b2, 0, none⟩) 11 11) ∧ w5.cell? ⟨g, 3, none⟩ = some (.slice (some ⟨b3, 0, none⟩) 42 42) := ⟨(B5.out.cell (p := ⟨g, 0, none⟩) hg).trans c0, (B5.out.cell (p := ⟨g, 1, none⟩) hg).trans c1, (B5.out.cell (p := ⟨g, 2, none⟩) hg).trans c2, (B5.out.cell (p := ⟨g, 3, none⟩) hg).trans c3⟩; clear hb5))
    clear hwr
    go_wp2
    go_ret
    exact ⟨rfl, B5.out⟩
end Go.Proofs.YtmbammhkkcnoaaaGreat
namespace Go.Proofs.YtmbammhkkcnoaaaGreat
open Go.RowKit
def RIndexPost (p : Int → Bool) (l : List Int) (w : World) (e : Ending) (w' : World) : Prop :=
  ∃ k : Nat, k ≤ l.length ∧ (∀ j, j < k → p l[j]! = false) ∧ ((k < l.length ∧ p l[k]! = true ∧ e = .returned (.int .i64 k)) ∨ (k = l.length ∧ e = .returned (.int .i64 (-1)))) ∧ Below w.heap.size w w'
set_option maxHeartbeats 2000000 in
set_option maxRecDepth 100000 in
theorem rindex_any (g : Nat) (cb : Array Value) (v : Value) (l : List Int) (p : Int → Bool) (w : World) (hl : Runes v l w) (hn : l.length ≤ 1000)
    (eg : ∀ args w, (callFunc g args).run Tryz.prog w = .ok (.enter g args) w)
    (hf : ∀ (W : World) (x : Int), Below w.heap.size w W → Calls Tryz.prog g (#[.int .i32 x] ++ cb) W fun e w' => e = .returned (.bool (p x)) ∧ Below W.heap.size W w') :
    Calls Tryz.prog 68 #[v, .func (.func g) #[] cb] w (RIndexPost p l w) := by
  have HF := Lib.hid hf
  obtain ⟨A, c, rfl, hc, hx⟩ := hl.form
  have HX := Lib.hid hx
  clear hf hl hx hc
  obtain ⟨n, hnn⟩ : ∃ n, n = l.length := ⟨_, rfl⟩
  rw [← hnn]
  have HN := Lib.hid hnn
  rw [← hnn] at hn
  clear hnn
  go_enter Tryz.func68, Tryz.ntmps68
  go_wp2
  go_loopg [5, 8] n (fun gg _ s8 wr => ∃ k : Nat, k ≤ n ∧ n - k ≤ gg ∧ s8 = .int .i64 k ∧ Hid (Below w.heap.size w wr) ∧ Hid (∀ j, j < k → p l[j]! = false))
  case atStart => exact ⟨0, Nat.zero_le _, by omega, rfl, Below.refl _ w, fun j hj => absurd hj (Nat.not_lt_zero _)⟩
  case round =>
    obtain ⟨k, hk, hg, rfl, BW, A⟩ := hrel
    by_cases hlt : k < n
    · have hkz : (k : Int) < (n : Int) := by omega
      obtain ⟨ad, rfl, hb, hcell⟩ := HX.out k (by have := HN.out; omega)
      have hcell' := (BW.out.cell (by rw [add_block]; exact hb)).trans hcell
      have hcall := HF.out wr l[k]! BW.out
      generalize hy : l[k]! = y at hcell' hcall
      have HY := Lib.hid hy
      clear hy hcell hb
      cases hp : p y with
      | true =>
        rw [hp] at hcall
        have HP := Lib.hid hp
        have HC := Lib.hid hcall
        clear hp hcall
        go_wp2_with fail
        refine HC.out.mono ?_
        rintro e w2 ⟨rfl, hb'⟩
        have HB2 := Lib.hid (BW.out.trans (hb'.mono BW.out.size))
        clear hb' hcell'
        go_wp2
        go_ret
        exact ⟨k, by have := HN.out; omega, A.out, .inl ⟨by have := HN.out; omega, by rw [HY.out]; exact HP.out, rfl⟩, HB2.out⟩
      | false =>
        rw [hp] at hcall
        have HP := Lib.hid hp
        have HC := Lib.hid hcall
        clear hp hcall
        go_wp2_with fail
        refine HC.out.mono ?_
        rintro e w2 ⟨rfl, hb'⟩
        have HB2 := Lib.hid (BW.out.trans (hb'.mono BW.out.size))
        clear hb' hcell'
        go_wp2
        go_roundg (n - (k + 1))
        case measure => omega
        case rel =>
          refine ⟨k + 1, by omega, by omega, by go_num, HB2, (show Hid _ from fun j hj => ?_)⟩
          by_cases e : j = k
          · subst e
            rw [HY.out]; exact HP.out
          · exact A.out j (by omega)
    · have hkz : ¬ (k : Int) < (n : Int) := by omega
      go_wp2
      go_ret
      exact ⟨k, by have := HN.out; omega, A.out, .inr ⟨by have := HN.out; omega, rfl⟩, BW.out⟩
theorem any_hit {p : Int → Bool} {l : List Int} {k : Nat} (hk : k < l.length) (h : p l[k]! = true) : l.any p = true :=
  List.any_eq_true.2 ⟨l[k]!, by rw [getElem!_pos l k hk]; exact List.getElem_mem hk, h⟩
theorem any_miss {p : Int → Bool} {l : List Int} (h : ∀ j, j < l.length → p l[j]! = false) : l.any p = false := by
  rw [List.any_eq_false]
  intro x hx
  obtain ⟨j, hj, rfl⟩ := List.getElem_of_mem hx
  have := h j hj
  rw [getElem!_pos l j hj] at this
  rw [this]; exact Bool.noConfusion
set_option maxHeartbeats 2000000 in
set_option maxRecDepth 100000 in
theorem rcontains_any (g : Nat) (cb : Array Value) (v : Value) (l : List Int) (p : Int → Bool) (w : World) (hl : Runes v l w) (hn : l.length ≤ 1000)
    (eg : ∀ args w, (callFunc g args).run Tryz.prog w = .ok (.enter g args) w)
    (hf : ∀ (W : World) (x : Int), Below w.heap.size w W → Calls Tryz.prog g (#[.int .i32 x] ++ cb) W fun e w' => e = .returned (.bool (p x)) ∧ Below W.heap.size W w') :
    Calls Tryz.prog 34 #[v, .func (.func g) #[] cb] w fun e w' => e = .returned (.bool (l.any p)) ∧ Below w.heap.size w w' := by
  have K := Lib.hid (rindex_any g cb v l p w hl hn eg hf)
  clear hl hn eg hf
  obtain ⟨r, hr⟩ : ∃ r, r = l.any p := ⟨_, rfl⟩
  rw [← hr]
  have HR := Lib.hid hr
  clear hr
  go_enter Tryz.func34, Tryz.ntmps34
  go_wp2_with fail
  refine K.out.mono ?_
  rintro e w2 ⟨k, hk, hm, ⟨h1, h2, rfl⟩ | ⟨h1, rfl⟩, hb⟩
  · have R := Lib.hid (HR.out.trans (any_hit h1 h2))
    have HB := Lib.hid hb
    clear hm h1 h2 hb hk
    go_wp2
    go_ret
    exact ⟨by rw [R.out]; rfl, HB.out⟩
  · have R := Lib.hid (HR.out.trans (any_miss (fun j hj => hm j (by omega))))
    have HB := Lib.hid hb
    clear hm h1 hb hk
    go_wp2
    go_ret
    exact ⟨by rw [R.out]; rfl, HB.out⟩
set_option maxHeartbeats 2000000 in
set_option maxRecDepth 100000 in
theorem hasNoEastern_any (g : Nat) (t v : Value) (l : List Int) (w : World) (hR : RowIs g t v l w) (hn : l.length ≤ 1000) :
    Calls Tryz.prog 110 #[.pointer (some ⟨g, 0, none⟩)] w fun e w' => e = .returned (.bool (!Ctx.among l 1776 1785)) ∧ Below w.heap.size w w' := by
  have eg : ∀ args w, (callFunc 113 args).run Tryz.prog w = .ok (.enter 113 args) w := enters_of Tryz.func113 (by kernel_rfl) rfl
  have K := rcontains_any 113 #[] v l (fun x => decide (1776 ≤ x) && decide (x ≤ 1785)) w hR.2.1 hn eg (fun W x _ => (isEastern_any x W).mono fun e w' ⟨h1, h2⟩ => ⟨h1, h2 ▸ Below.refl _ _⟩)
  change Calls _ _ _ _ fun e w' => e = .returned (.bool (Ctx.among l 1776 1785)) ∧ _ at K
  generalize Ctx.among l 1776 1785 = r at K ⊢
  obtain ⟨b0, b1, b2, b3, A, c, rfl, rfl, hc, hg, ⟨c0, c1, c2, c3, c4⟩, -⟩ := hR.form
  have K := Lib.hid K
  clear hR hn hc eg
  cases r
  all_goals
    go_enter Tryz.func110, Tryz.ntmps110
    go_wp2_with fail
    refine K.out.mono ?_
    rintro e w2 ⟨rfl, hb⟩
    have HB := Lib.hid hb
    clear hb
    go_wp2
    go_ret
    exact ⟨rfl, HB.out⟩
set_option maxHeartbeats 2000000 in
set_option maxRecDepth 100000 in
theorem hasNoArabic_any (g : Nat) (t v : Value) (l : List Int) (w : World) (hR : RowIs g t v l w) (hn : l.length ≤ 1000) :
    Calls Tryz.prog 111 #[.pointer (some ⟨g, 0, none⟩)] w fun e w' => e = .returned (.bool (!Ctx.among l 1632 1641)) ∧ Below w.heap.size w w' := by
  have eg : ∀ args w, (callFunc 112 args).run Tryz.prog w = .ok (.enter 112 args) w := enters_of Tryz.func112 (by kernel_rfl) rfl
  have K := rcontains_any 112 #[] v l (fun x => decide (1632 ≤ x) && decide (x ≤ 1641)) w hR.2.1 hn eg (fun W x _ => (isArabic_any x W).mono fun e w' ⟨h1, h2⟩ => ⟨h1, h2 ▸ Below.refl _ _⟩)
  change Calls _ _ _ _ fun e w' => e = .returned (.bool (Ctx.among l 1632 1641)) ∧ _ at K
  generalize Ctx.among l 1632 1641 = r at K ⊢
  obtain ⟨b0, b1, b2, b3, A, c, rfl, rfl, hc, hg, ⟨c0, c1, c2, c3, c4⟩, -⟩ := hR.form
  have K := Lib.hid K
  clear hR hn hc eg
  cases r
  all_goals
    go_enter Tryz.func111, Tryz.ntmps111
    go_wp2_with fail
    refine K.out.mono ?_
    rintro e w2 ⟨rfl, hb⟩
    have HB := Lib.hid hb
    clear hb
    go_wp2
    go_ret
    exact ⟨rfl, HB.out⟩
set_option maxHeartbeats 2000000 in
set_option maxRecDepth 100000 in
theorem kanaClosure (g B : Nat) (t v : Value) (l : List Int) (x : Int) (w : World) (hR : RowIs g t v l w) (hB : w.cell? ⟨B, 0, none⟩ = some (.pointer (some ⟨g, 0, none⟩))) :
    Calls Tryz.prog 144 #[.int .i32 x, .pointer (some ⟨B, 0, none⟩)] w fun e w' => e = .returned (.bool (scriptOf x == 7 || scriptOf x == 8)) ∧ Below w.heap.size w w' := by
  have K := script_any t x w hR.1
  generalize scriptOf x = y at K ⊢
  obtain ⟨b0, b1, b2, b3, A, c, rfl, rfl, hc, hg, ⟨c0, c1, c2, c3, c4⟩, -⟩ := hR.form
  have K := Lib.hid K
  clear hR hc
  cases h1 : (y == 7) <;> cases h2 : (y == 8)
  all_goals
    go_enter Tryz.func144, Tryz.ntmps144
    go_wp2_with fail
    refine K.out.mono ?_
    rintro e w2 ⟨rfl, hb⟩
    have HB := Lib.hid hb
    clear hb c0 c1 c2 c3 c4 hB
    go_wp2
    go_ret
    exact ⟨rfl, HB.out⟩
set_option maxHeartbeats 2000000 in
set_option maxRecDepth 100000 in
theorem hasKanaOrHan_any (g : Nat) (t v : Value) (l : List Int) (w : World) (hR : RowIs g t v l w) (hn : l.length ≤ 1000) :
    Calls Tryz.prog 109 #[.pointer (some ⟨g, 0, none⟩)] w fun e w' => e = .returned (.bool (Ctx.asian l)) ∧ Below w.heap.size w w' := by
  have eg : ∀ args w, (callFunc 144 args).run Tryz.prog w = .ok (.enter 144 args) w := enters_of Tryz.func144 (by kernel_rfl) rfl
  have hW : Below w.heap.size w (w.alloc (.cells #[.pointer (some ⟨g, 0, none⟩)] 89)) := below_one _ _
  have K := rcontains_any 144 #[.pointer (some ⟨w.heap.size, 0, none⟩)] v l (fun x => scriptOf x == 7 || scriptOf x == 8) _ (hR.keep hW).2.1 hn eg
    (fun W x hb => kanaClosure g w.heap.size t v l x W ((hR.keep hW).keep hb) ((hb.cell (p := ⟨w.heap.size, 0, none⟩) (by simp)).trans (cell_new1 w _ _)))
  change Calls _ _ _ _ fun e w' => e = .returned (.bool (Ctx.asian l)) ∧ _ at K
  generalize Ctx.asian l = r at K ⊢
  obtain ⟨b0, b1, b2, b3, A, c, rfl, rfl, hc, hg, ⟨c0, c1, c2, c3, c4⟩, -⟩ := hR.form
  have K := Lib.hid K
  have HW := Lib.hid hW
  clear hR hn hc eg hW
  go_enter Tryz.func109, Tryz.ntmps109
  go_wp2_with fail
  refine K.out.mono ?_
  rintro e w2 ⟨rfl, hb⟩
  have HB := Lib.hid (below_then HW.out hb)
  clear hb
  go_wp2
  go_ret
  exact ⟨rfl, HB.out⟩
/-- How the first one that is not Clear joins. -/
def joinsOf : Option Int → Int
  | some x => joinOf x
  | none => 0
theorem joined_is (l : List Int) (k : Nat) : (joinsOf (Ctx.ahead l k) == 1 && (joinsOf (Ctx.behind l (k + 1)) == 1 || joinsOf (Ctx.behind l (k + 1)) == 2)) = Ctx.joined l k := by
  unfold Ctx.joined Ctx.both joinsOf
  cases Ctx.ahead l k <;> cases Ctx.behind l (k + 1) <;> simp
theorem behind_step {l : List Int} {k : Nat} (hk : k < l.length) : Ctx.behind l k = if joinOf l[k]! = 3 then Ctx.behind l (k + 1) else some l[k]! := by
  unfold Ctx.behind
  rw [List.drop_eq_getElem_cons hk, ← getElem!_pos l k hk]
  by_cases h : joinOf l[k]! = 3
  · rw [if_pos h, List.find?_cons_of_neg (by unfold Ctx.hard; rw [h]; decide)]
  · rw [if_neg h, List.find?_cons_of_pos (by unfold Ctx.hard; exact bne_iff_ne.2 h)]
theorem behind_end {l : List Int} {k : Nat} (hk : l.length ≤ k) : Ctx.behind l k = none := by
  unfold Ctx.behind
  rw [List.drop_of_length_le hk]; rfl
set_option maxHeartbeats 4000000 in
set_option maxRecDepth 100000 in
theorem joinBehind_any (g : Nat) (t v : Value) (l : List Int) (k : Nat) (w : World) (hR : RowIs g t v l w) (hn : l.length ≤ 1000) (hk : k < l.length) :
    Calls Tryz.prog 138 #[.pointer (some ⟨g, 0, none⟩), .int .i64 k] w fun e w' => e = .returned (.int .i64 (joinsOf (Ctx.behind l (k + 1)))) ∧ Below w.heap.size w w' := by
  have KJ := Lib.hid (fun W (h : Below w.heap.size w W) x => join_any t x W (hR.1.below h))
  obtain ⟨b0, b1, b2, b3, A, c, rfl, rfl, hc, hg, ⟨c0, c1, c2, c3, c4⟩, hx⟩ := hR.form
  obtain ⟨ad, rfl, hb, -⟩ := hx k hk
  have HX : Hid (∀ j, j < l.length → w.cell? (ad.add j) = some (.int .i32 l[j]!)) := Lib.hid (fun j hj => by obtain ⟨ad', e, -, h⟩ := hx j hj; obtain rfl : ad = ad' := (by injection e); exact h)
  clear hR hx
  obtain ⟨n, hnn⟩ : ∃ n, n = l.length := ⟨_, rfl⟩
  rw [← hnn] at hn hk hc c4
  have HN := Lib.hid hnn
  clear hnn
  have C0 := Lib.hid (show ∀ W, Below w.heap.size w W → W.cell? ⟨g, 0, none⟩ = some (.slice (some ⟨b0, 0, none⟩) 74 74) ∧ W.cell? ⟨g, 1, none⟩ = some (.slice (some ⟨b1, 0, none⟩) 10 10) ∧ W.cell? ⟨g, 2, none⟩ = some (.slice (some ⟨b2, 0, none⟩) 11 11) ∧ W.cell? ⟨g, 3, none⟩ = some (.slice (some ⟨b3, 0, none⟩) 42 42) from fun W h => ⟨(h.cell (p := ⟨g, 0, none⟩) hg).trans c0, (h.cell (p := ⟨g, 1, none⟩) hg).trans c1, (h.cell (p := ⟨g, 2, none⟩) hg).trans c2, (h.cell (p := ⟨g, 3, none⟩) hg).trans c3⟩)
  clear c0 c1 c2 c3
  have hkz : (k : Int) + 1 ≤ (n : Int) := by omega
  have hcz : (n : Int) ≤ (c : Int) := by omega
  by_cases hcc : c = k + 1
  · have hB : Ctx.behind l (k + 1) = none := behind_end (by have := HN.out; omega)
    rw [hB]
    obtain rfl : n = k + 1 := by omega
    subst hcc
    clear hB
    go_enter Tryz.func138, Tryz.ntmps138
    go_wp2
    go_loopg [6, 7, 16] 1 (fun gk _ _ i wr => i = .int .i64 0 ∧ 0 < gk ∧ w = wr)
    case atStart => exact ⟨rfl, by omega, rfl⟩
    case round =>
      obtain ⟨rfl, hg0, rfl⟩ := hrel
      go_wp2
      go_ret
      exact ⟨rfl, Below.refl _ _⟩
  · have hcz2 : ((c : Int) == (k : Int) + 1) = false := by rw [beq_eq_false_iff_ne]; omega
    have hcc2 : ¬ c = k + 1 := hcc
    clear hcc
    go_enter Tryz.func138, Tryz.ntmps138
    go_wp2
    go_loopg [6, 7, 16] (n + 1) (fun gk _ _ i wr => ∃ j : Nat, j ≤ n - (k + 1) ∧ i = .int .i64 j ∧ n - j < gk ∧ Hid (Ctx.behind l (k + 1) = Ctx.behind l (k + 1 + j) ∧ Below w.heap.size w wr))
    case atStart => exact ⟨0, Nat.zero_le _, rfl, by omega, ⟨rfl, Below.refl _ w⟩⟩
    case round =>
      obtain ⟨j, hj, rfl, hg0, I⟩ := hrel
      by_cases hlt : j < n - (k + 1)
      · obtain ⟨x, hxe⟩ : ∃ x, x = l[k + 1 + j]! := ⟨_, rfl⟩
        have hcell : w.cell? ⟨ad.block, ad.off + (k + 1) + j, none⟩ = some (.int .i32 x) := by
          have h := HX.out (k + 1 + j) (by have := HN.out; omega)
          rw [← hxe] at h
          rw [← h]
          unfold Addr.add
          rw [if_neg (by omega), Nat.add_assoc]
        have hcell' := (I.out.2.cell (p := ⟨ad.block, ad.off + (k + 1) + j, none⟩) hb).trans hcell
        obtain ⟨d0, d1, d2, d3⟩ := C0.out wr I.out.2
        have hs : Ctx.behind l (k + 1) = if joinOf x = 3 then Ctx.behind l (k + 1 + (j + 1)) else some x := by
          rw [I.out.1, behind_step (show k + 1 + j < l.length by have := HN.out; omega), ← hxe]
          rfl
        have hy : ∃ y, y = joinOf x := ⟨_, rfl⟩
        obtain ⟨y, hy⟩ := hy
        have K := KJ.out wr I.out.2 x
        rw [← hy] at K hs
        have HY := Lib.hid hy
        have HS := Lib.hid hs
        have K := Lib.hid K
        have hjz : (j : Int) < ((n - (k + 1) : Nat) : Int) := by omega
        clear hcell hxe hs hy
        by_cases h3 : y = 3
        · have R := Lib.hid (show Ctx.behind l (k + 1) = Ctx.behind l (k + 1 + (j + 1)) by rw [HS.out, if_pos h3])
          clear HY
          subst h3
          go_wp2_with fail
          refine K.out.mono ?_
          rintro e w5 ⟨rfl, hb5⟩
          have B5 := Lib.hid (I.out.2.trans (hb5.mono I.out.2.size))
          clear hb5 d0 d1 d2 d3 hcell'
          go_wp2
          go_roundg (n - j)
          case measure => omega
          case rel => exact ⟨j + 1, by omega, by go_num, by omega, ⟨R.out, B5.out⟩⟩
        · have R := Lib.hid (show joinsOf (Ctx.behind l (k + 1)) = y by rw [HS.out, if_neg h3]; exact HY.out.symm)
          have e3 : (y == 3) = false := by simpa using h3
          clear h3
          go_wp2_with fail
          refine K.out.mono ?_
          rintro e w5 ⟨rfl, hb5⟩
          have B5 := Lib.hid (I.out.2.trans (hb5.mono I.out.2.size))
          clear hb5 d0 d1 d2 d3 hcell'
          go_wp2
          go_ret
          exact ⟨by rw [R.out]; rfl, B5.out⟩
      · have R := Lib.hid (show joinsOf (Ctx.behind l (k + 1)) = 0 by rw [I.out.1, behind_end (by have := HN.out; omega)]; rfl)
        have hjz : ¬ (j : Int) < ((n - (k + 1) : Nat) : Int) := by omega
        go_wp2
        go_ret
        exact ⟨by rw [R.out]; rfl, I.out.2⟩
end Go.Proofs.YtmbammhkkcnoaaaGreat
