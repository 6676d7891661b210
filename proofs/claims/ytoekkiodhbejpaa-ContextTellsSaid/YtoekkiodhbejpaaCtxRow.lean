/-
  Proved here: context's small functions of a row of characters and its table: who stands at a place, which kind a character is of, and what joiners, dots, and the signs of Greek and of Hebrew need. Conditions: the row can be read, and holds at most 1000 numbers.
-/
import Derived.Test.YtoekkiodhbejpaaUtfMore
import Derived.Test.YtoekkiodhbejpaaUcd
import Derived.Test.YtoekkiodhbejpaaCtxPlain
import Derived.BigRegion
import Derived.Deep.RegionHeld3
import Derived.IntWalk
namespace Go.Proofs.Ytoekkiodhbejpaa
open Go.RowKit
/-- Characters and their table lie in block g, and can be read. -/
def RowIs (g : Nat) (t v : Value) (l : List Int) (w : World) : Prop :=
  Table w t ∧ Runes v l w ∧ ∃ b0 b1 b2 b3 A c, t = .agg #[.slice (some ⟨b0, 0, none⟩) 74 74, .slice (some ⟨b1, 0, none⟩) 10 10, .slice (some ⟨b2, 0, none⟩) 11 11, .slice (some ⟨b3, 0, none⟩) 42 42] ∧ v = .slice A l.length c ∧
    w.heap[g]? = some (.cells #[.slice (some ⟨b0, 0, none⟩) 74 74, .slice (some ⟨b1, 0, none⟩) 10 10, .slice (some ⟨b2, 0, none⟩) 11 11, .slice (some ⟨b3, 0, none⟩) 42 42, .slice A l.length c] 52 (0, 0))
theorem RowIs.lt {g : Nat} {t v : Value} {l : List Int} {w : World} (h : RowIs g t v l w) : g < w.heap.size := by
  obtain ⟨-, -, b0, b1, b2, b3, A, c, -, -, h⟩ := h
  exact (Array.getElem?_eq_some_iff.1 h).1
theorem RowIs.keep {g : Nat} {t v : Value} {l : List Int} {w w' : World} (h : RowIs g t v l w) (hb : Below w.heap.size w w') : RowIs g t v l w' := by
  have hlt := h.lt
  obtain ⟨h1, h2, b0, b1, b2, b3, A, c, e1, e2, h3⟩ := h
  exact ⟨h1.below hb, h2.keep hb, b0, b1, b2, b3, A, c, e1, e2, (hb.block g hlt).trans h3⟩
/-- What a walk asks of it. -/
theorem RowIs.form {g : Nat} {t v : Value} {l : List Int} {w : World} (h : RowIs g t v l w) : ∃ b0 b1 b2 b3 A c, t = .agg #[.slice (some ⟨b0, 0, none⟩) 74 74, .slice (some ⟨b1, 0, none⟩) 10 10, .slice (some ⟨b2, 0, none⟩) 11 11, .slice (some ⟨b3, 0, none⟩) 42 42] ∧ v = .slice A l.length c ∧ l.length ≤ c ∧ g < w.heap.size ∧
    (w.cell? ⟨g, 0, none⟩ = some (.slice (some ⟨b0, 0, none⟩) 74 74) ∧ w.cell? ⟨g, 1, none⟩ = some (.slice (some ⟨b1, 0, none⟩) 10 10) ∧ w.cell? ⟨g, 2, none⟩ = some (.slice (some ⟨b2, 0, none⟩) 11 11) ∧ w.cell? ⟨g, 3, none⟩ = some (.slice (some ⟨b3, 0, none⟩) 42 42) ∧ w.cell? ⟨g, 4, none⟩ = some (.slice A l.length c)) ∧
    (∀ k, k < l.length → ∃ ad, A = some ad ∧ ad.block < w.heap.size ∧ w.cell? (ad.add k) = some (.int .i32 l[k]!)) := by
  have hlt := h.lt
  obtain ⟨h1, h2, b0, b1, b2, b3, A, c, rfl, rfl, h3⟩ := h
  obtain ⟨A', c', e, hc, hx⟩ := h2.form
  injection e with e1 e2 e3
  subst e1 e3
  refine ⟨b0, b1, b2, b3, A, c, rfl, rfl, hc, hlt, ?_, hx⟩
  refine ⟨?_, ?_, ?_, ?_, ?_⟩ <;> simp [World.cell?, h3]
/-- Who stands at a place; -1: nobody. -/
def whoOf (l : List Int) (i : Int) : Int := if 0 ≤ i ∧ i < l.length then l[i.toNat]! else -1
theorem whoOf_in {l : List Int} {k : Nat} (h : k < l.length) : whoOf l k = l[k]! := by unfold whoOf; rw [if_pos (by omega)]; simp
theorem whoOf_out {l : List Int} {i : Int} (h : i < 0 ∨ l.length ≤ i) : whoOf l i = -1 := by unfold whoOf; rw [if_neg (by omega)]
theorem who_split (l : List Int) (i : Int) : (∃ k : Nat, k < l.length ∧ i = k ∧ whoOf l i = l[k]! ∧ Ctx.at0 l i = l[k]!) ∨ (whoOf l i = -1 ∧ Ctx.at0 l i = 0) := by
  by_cases h : 0 ≤ i ∧ i < l.length
  · obtain ⟨k, rfl⟩ : ∃ k : Nat, i = k := ⟨i.toNat, by omega⟩
    exact .inl ⟨k, by omega, rfl, whoOf_in (by omega), Ctx.at0_in (by omega)⟩
  · exact .inr ⟨whoOf_out (by omega), Ctx.at0_out (by omega)⟩
theorem nobody_facts : clsOf (-1) ≠ 9 ∧ scriptOf (-1) ≠ 2 ∧ scriptOf (-1) ≠ 4 := by decide +kernel
theorem who_l (l : List Int) (i : Int) : (whoOf l i == 108) = (Ctx.at0 l i == 108) := by
  rcases who_split l i with ⟨k, -, -, h1, h2⟩ | ⟨h1, h2⟩ <;> rw [h1, h2] <;> rfl
theorem who_greek (l : List Int) (i : Int) : (scriptOf (whoOf l i) == 2) = (scriptOf (Ctx.at0 l i) == 2) := by
  rcases who_split l i with ⟨k, -, -, h1, h2⟩ | ⟨h1, h2⟩ <;> rw [h1, h2]
  rw [beq_eq_false_iff_ne.2 nobody_facts.2.1, beq_eq_false_iff_ne.2 Ctx.script_zero.1]
theorem who_hebrew (l : List Int) (i : Int) : (scriptOf (whoOf l i) == 4) = (scriptOf (Ctx.at0 l i) == 4) := by
  rcases who_split l i with ⟨k, -, -, h1, h2⟩ | ⟨h1, h2⟩ <;> rw [h1, h2]
  rw [beq_eq_false_iff_ne.2 nobody_facts.2.2, beq_eq_false_iff_ne.2 Ctx.script_zero.2]
theorem who_virama (l : List Int) (k : Nat) (hk : k < l.length) : (clsOf (whoOf l ((k : Int) - 1)) == 9) = Ctx.virama l k := by
  unfold Ctx.virama
  by_cases h0 : k = 0
  · subst h0
    rw [whoOf_out (.inl (by omega)), beq_eq_false_iff_ne.2 nobody_facts.1]
    rfl
  · rw [decide_eq_true (by omega), Bool.true_and, show ((k : Int) - 1) = ((k - 1 : Nat) : Int) by omega, whoOf_in (by omega), Ctx.at0_in (by omega)]
set_option maxHeartbeats 1000000 in
set_option maxRecDepth 100000 in
theorem who_any (g : Nat) (t v : Value) (l : List Int) (i : Int) (w : World) (hR : RowIs g t v l w) :
    Calls Try.prog 47 #[.pointer (some ⟨g, 0, none⟩), .int .i64 i] w fun e w' => e = .returned (.int .i32 (whoOf l i)) ∧ w = w' := by
  obtain ⟨b0, b1, b2, b3, A, c, rfl, rfl, hc, hg, ⟨c0, c1, c2, c3, c4⟩, hx⟩ := hR.form
  clear hR
  by_cases h0 : i < 0
  · rw [whoOf_out (.inl h0)]
    clear hx
    go_enter Try.func47, Try.ntmps47
    go_wp2
    go_ret
    exact ⟨rfl, rfl⟩
  · obtain ⟨k, rfl⟩ : ∃ k : Nat, i = k := ⟨i.toNat, by omega⟩
    by_cases hk : k < l.length
    · rw [whoOf_in hk]
      obtain ⟨ad, rfl, hb, hcell⟩ := hx k hk
      obtain ⟨x, hxe⟩ : ∃ x, x = l[k]! := ⟨_, rfl⟩
      rw [← hxe] at hcell ⊢
      clear hx hxe
      have hkz : (k : Int) < (l.length : Int) := by omega
      go_enter Try.func47, Try.ntmps47
      go_wp2
      go_ret
      exact ⟨rfl, rfl⟩
    · rw [whoOf_out (.inr (by omega))]
      clear hx
      have hkz : (l.length : Int) ≤ (k : Int) := by omega
      go_enter Try.func47, Try.ntmps47
      go_wp2
      go_ret
      exact ⟨rfl, rfl⟩
/-- The kinds that share a rule, each under its first one. -/
def kindOf (r : Int) : Int := if r = 1524 then 1523 else if 1632 ≤ r ∧ r ≤ 1641 then 1632 else if 1776 ≤ r ∧ r ≤ 1785 then 1776 else r
set_option maxHeartbeats 1000000 in
set_option maxRecDepth 100000 in
theorem isArabic_any (r : Int) (w : World) : Calls Try.prog 35 #[.int .i32 r] w fun e w' => e = .returned (.bool (decide (1632 ≤ r) && decide (r ≤ 1641))) ∧ w = w' := by
  by_cases h1 : 1632 ≤ r <;> by_cases h2 : r ≤ 1641
  all_goals first | rw [decide_eq_true h1] | rw [decide_eq_false h1]
  all_goals first | rw [decide_eq_true h2] | rw [decide_eq_false h2]
  all_goals
    go_enter Try.func35, Try.ntmps35
    go_wp2
    go_ret
    exact ⟨rfl, rfl⟩
set_option maxHeartbeats 1000000 in
set_option maxRecDepth 100000 in
theorem isEastern_any (r : Int) (w : World) : Calls Try.prog 36 #[.int .i32 r] w fun e w' => e = .returned (.bool (decide (1776 ≤ r) && decide (r ≤ 1785))) ∧ w = w' := by
  by_cases h1 : 1776 ≤ r <;> by_cases h2 : r ≤ 1785
  all_goals first | rw [decide_eq_true h1] | rw [decide_eq_false h1]
  all_goals first | rw [decide_eq_true h2] | rw [decide_eq_false h2]
  all_goals
    go_enter Try.func36, Try.ntmps36
    go_wp2
    go_ret
    exact ⟨rfl, rfl⟩
set_option maxHeartbeats 1000000 in
set_option maxRecDepth 100000 in
theorem kind_any (r : Int) (w : World) : Calls Try.prog 22 #[.int .i32 r] w fun e w' => e = .returned (.int .i32 (kindOf r)) ∧ w = w' := by
  have KA := Lib.hid (isArabic_any r w)
  have KE := Lib.hid (isEastern_any r w)
  unfold kindOf
  by_cases h : r = 1524
  · subst h
    rw [if_pos rfl]
    go_enter Try.func22, Try.ntmps22
    go_wp2
    go_ret
    exact ⟨rfl, rfl⟩
  · rw [if_neg h]
    have e1 : (r == 1524) = false := by simpa using h
    by_cases h2 : 1632 ≤ r ∧ r ≤ 1641
    · rw [if_pos h2]
      have k := KA.out
      rw [decide_eq_true h2.1, decide_eq_true h2.2] at k
      have KA := Lib.hid k
      clear k h h2
      go_enter Try.func22, Try.ntmps22
      go_wp2_with fail
      refine KA.out.mono ?_
      rintro e w2 ⟨rfl, rfl⟩
      go_wp2
      go_ret
      exact ⟨rfl, rfl⟩
    · rw [if_neg h2]
      have ha : (decide (1632 ≤ r) && decide (r ≤ 1641)) = false := by simp; omega
      have k := KA.out
      rw [ha] at k
      have KA := Lib.hid k
      clear k ha h h2
      by_cases h3 : 1776 ≤ r ∧ r ≤ 1785
      · rw [if_pos h3]
        have k := KE.out
        rw [decide_eq_true h3.1, decide_eq_true h3.2] at k
        have KE := Lib.hid k
        clear k h3
        go_enter Try.func22, Try.ntmps22
        go_wp2_with fail
        refine KA.out.mono ?_
        rintro e w2 ⟨rfl, rfl⟩
        go_wp2_with fail
        refine KE.out.mono ?_
        rintro e w2 ⟨rfl, rfl⟩
        go_wp2
        go_ret
        exact ⟨rfl, rfl⟩
      · rw [if_neg h3]
        have ha : (decide (1776 ≤ r) && decide (r ≤ 1785)) = false := by simp; omega
        have k := KE.out
        rw [ha] at k
        have KE := Lib.hid k
        clear k ha h3
        go_enter Try.func22, Try.ntmps22
        go_wp2_with fail
        refine KA.out.mono ?_
        rintro e w2 ⟨rfl, rfl⟩
        go_wp2_with fail
        refine KE.out.mono ?_
        rintro e w2 ⟨rfl, rfl⟩
        go_wp2
        go_ret
        exact ⟨rfl, rfl⟩
set_option maxHeartbeats 1000000 in
set_option maxRecDepth 100000 in
theorem isBetween_any (g : Nat) (t v : Value) (l : List Int) (k : Nat) (w : World) (hR : RowIs g t v l w) (hn : l.length ≤ 1000) (hk : k < l.length) :
    Calls Try.prog 28 #[.pointer (some ⟨g, 0, none⟩), .int .i64 k] w fun e w' => e = .returned (.bool (Ctx.at0 l ((k : Int) - 1) == 108 && Ctx.at0 l ((k : Int) + 1) == 108)) ∧ Below w.heap.size w w' := by
  rw [← who_l, ← who_l]
  have KX := who_any g t v l ((k : Int) - 1) w hR
  have KY := who_any g t v l ((k : Int) + 1) w hR
  generalize whoOf l ((k : Int) - 1) = x at KX ⊢
  generalize whoOf l ((k : Int) + 1) = y at KY ⊢
  have KX := Lib.hid KX
  have KY := Lib.hid KY
  have hk' : k ≤ 1000 := by omega
  clear hR hn hk
  cases h1 : (x == 108)
  · go_enter Try.func28, Try.ntmps28
    go_wp2_with fail
    refine KX.out.mono ?_
    rintro e w2 ⟨rfl, rfl⟩
    go_wp2
    go_ret
    exact ⟨rfl, Below.refl _ _⟩
  · cases h2 : (y == 108)
    all_goals
      go_enter Try.func28, Try.ntmps28
      go_wp2_with fail
      refine KX.out.mono ?_
      rintro e w2 ⟨rfl, rfl⟩
      go_wp2_with fail
      refine KY.out.mono ?_
      rintro e w2 ⟨rfl, rfl⟩
      go_wp2
      go_ret
      exact ⟨rfl, Below.refl _ _⟩
set_option maxHeartbeats 4000000 in
set_option maxRecDepth 100000 in
theorem joins_any (g : Nat) (t v : Value) (l : List Int) (k : Nat) (w : World) (hR : RowIs g t v l w) (hn : l.length ≤ 1000) (hk : k < l.length) :
    Calls Try.prog 27 #[.pointer (some ⟨g, 0, none⟩), .int .i64 k] w fun e w' => e = .returned (.bool (Ctx.virama l k)) ∧ Below w.heap.size w w' := by
  rw [← who_virama l k hk]
  have KX := fun W (h : Below w.heap.size w W) => who_any g t v l ((k : Int) - 1) W (hR.keep h)
  generalize whoOf l ((k : Int) - 1) = x at KX ⊢
  have KC := fun W (h : Below w.heap.size w W) => class_any t x W (hR.1.below h)
  generalize clsOf x = y at KC ⊢
  obtain ⟨b0, b1, b2, b3, A, c, rfl, rfl, hc, hg, ⟨c0, c1, c2, c3, c4⟩, -⟩ := hR.form
  have hk' : k ≤ 1000 := by omega
  have KX := Lib.hid KX
  have KC := Lib.hid KC
  clear hR hn hk hc
  cases h1 : (y == 9)
  all_goals
    go_enter Try.func27, Try.ntmps27
    go_wp2
    have hwr : IntKind.i64.wrap ((k : Int) - 1) = (k : Int) - 1 := IntWalk.i64_in _ (by omega)
    go_region_held3 (fun w' => w'.cell? ⟨g, 0, none⟩ = some (.slice (some ⟨b0, 0, none⟩) 74 74) ∧ w'.cell? ⟨g, 1, none⟩ = some (.slice (some ⟨b1, 0, none⟩) 10 10) ∧ w'.cell? ⟨g, 2, none⟩ = some (.slice (some ⟨b2, 0, none⟩) 11 11) ∧ w'.cell? ⟨g, 3, none⟩ = some (.slice (some ⟨b3, 0, none⟩) 42 42)) (go_keep) (first
      | (go_at_call 47; (with_reducible refine (KX.out _ (Below.refl _ w).drew).mono ?_); rintro e w5 ⟨rfl, rfl⟩)
      | (go_at_call 16; (with_reducible refine (KC.out _ (Below.refl _ w).drew).mono ?_); rintro e w5 ⟨rfl, hb5⟩; have B5 := Lib.hid (below_of_drew hb5); obtain ⟨d0, d1, d2, d3⟩ : w5.cell? ⟨g, 0, none⟩ = some (.slice (some ⟨b0, 0, none⟩) 74 74) ∧ w5.cell? ⟨g, 1, none⟩ = some (.slice (some ⟨b1, 0, none⟩) 10 10) ∧ w5.cell? ⟨g, 2, none⟩ = some (.slice (some ⟨b2, 0, none⟩) 11 11) ∧ w5.cell? ⟨g, 3, none⟩ = some (.slice (some ⟨b3, 0, none⟩) 42 42) := ⟨(B5.out.cell (p := ⟨g, 0, none⟩) hg).trans c0, (B5.out.cell (p := ⟨g, 1, none⟩) hg).trans c1, (B5.out.cell (p := ⟨g, 2, none⟩) hg).trans c2, (B5.out.cell (p := ⟨g, 3, none⟩) hg).trans c3⟩; clear hb5))
    clear hwr
    go_wp2
    go_ret
    exact ⟨rfl, B5.out⟩
set_option maxHeartbeats 4000000 in
set_option maxRecDepth 100000 in
theorem isAheadOfGreek_any (g : Nat) (t v : Value) (l : List Int) (k : Nat) (w : World) (hR : RowIs g t v l w) (hn : l.length ≤ 1000) (hk : k < l.length) :
    Calls Try.prog 29 #[.pointer (some ⟨g, 0, none⟩), .int .i64 k] w fun e w' => e = .returned (.bool (scriptOf (Ctx.at0 l ((k : Int) + 1)) == 2)) ∧ Below w.heap.size w w' := by
  rw [← who_greek]
  have KX := fun W (h : Below w.heap.size w W) => who_any g t v l ((k : Int) + 1) W (hR.keep h)
  generalize whoOf l ((k : Int) + 1) = x at KX ⊢
  have KC := fun W (h : Below w.heap.size w W) => script_any t x W (hR.1.below h)
  generalize scriptOf x = y at KC ⊢
  obtain ⟨b0, b1, b2, b3, A, c, rfl, rfl, hc, hg, ⟨c0, c1, c2, c3, c4⟩, -⟩ := hR.form
  have hk' : k ≤ 1000 := by omega
  have KX := Lib.hid KX
  have KC := Lib.hid KC
  clear hR hn hk hc
  cases h1 : (y == 2)
  all_goals
    go_enter Try.func29, Try.ntmps29
    go_wp2
    have hwr : IntKind.i64.wrap ((k : Int) + 1) = (k : Int) + 1 := IntWalk.i64_in _ (by omega)
    go_region_held3 (fun w' => w'.cell? ⟨g, 0, none⟩ = some (.slice (some ⟨b0, 0, none⟩) 74 74) ∧ w'.cell? ⟨g, 1, none⟩ = some (.slice (some ⟨b1, 0, none⟩) 10 10) ∧ w'.cell? ⟨g, 2, none⟩ = some (.slice (some ⟨b2, 0, none⟩) 11 11) ∧ w'.cell? ⟨g, 3, none⟩ = some (.slice (some ⟨b3, 0, none⟩) 42 42)) (go_keep) (first
      | (go_at_call 47; (with_reducible refine (KX.out _ (Below.refl _ w).drew).mono ?_); rintro e w5 ⟨rfl, rfl⟩)
      | (go_at_call 48; (with_reducible refine (KC.out _ (Below.refl _ w).drew).mono ?_); rintro e w5 ⟨rfl, hb5⟩; have B5 := Lib.hid (below_of_drew hb5); obtain ⟨d0, d1, d2, d3⟩ : w5.cell? ⟨g, 0, none⟩ = some (.slice (some ⟨b0, 0, none⟩) 74 74) ∧ w5.cell? ⟨g, 1, none⟩ = some (.slice (some ⟨b1, 0, none⟩) 10 10) ∧ w5.cell? ⟨g, 2, none⟩ = some (.slice (some ⟨b2, 0, none⟩) 11 11) ∧ w5.cell? ⟨g, 3, none⟩ = some (.slice (some ⟨b3, 0, none⟩) 42 42) := ⟨(B5.out.cell (p := ⟨g, 0, none⟩) hg).trans c0, (B5.out.cell (p := ⟨g, 1, none⟩) hg).trans c1, (B5.out.cell (p := ⟨g, 2, none⟩) hg).trans c2, (B5.out.cell (p := ⟨g, 3, none⟩) hg).trans c3⟩; clear hb5))
    clear hwr
    go_wp2
    go_ret
    exact ⟨rfl, B5.out⟩
set_option maxHeartbeats 4000000 in
set_option maxRecDepth 100000 in
theorem isBehindHebrew_any (g : Nat) (t v : Value) (l : List Int) (k : Nat) (w : World) (hR : RowIs g t v l w) (hn : l.length ≤ 1000) (hk : k < l.length) :
    Calls Try.prog 30 #[.pointer (some ⟨g, 0, none⟩), .int .i64 k] w fun e w' => e = .returned (.bool (scriptOf (Ctx.at0 l ((k : Int) - 1)) == 4)) ∧ Below w.heap.size w w' := by
  rw [← who_hebrew]
  have KX := fun W (h : Below w.heap.size w W) => who_any g t v l ((k : Int) - 1) W (hR.keep h)
  generalize whoOf l ((k : Int) - 1) = x at KX ⊢
  have KC := fun W (h : Below w.heap.size w W) => script_any t x W (hR.1.below h)
  generalize scriptOf x = y at KC ⊢
  obtain ⟨b0, b1, b2, b3, A, c, rfl, rfl, hc, hg, ⟨c0, c1, c2, c3, c4⟩, -⟩ := hR.form
  have hk' : k ≤ 1000 := by omega
  have KX := Lib.hid KX
  have KC := Lib.hid KC
  clear hR hn hk hc
  cases h1 : (y == 4)
  all_goals
    go_enter Try.func30, Try.ntmps30
    go_wp2
    have hwr : IntKind.i64.wrap ((k : Int) - 1) = (k : Int) - 1 := IntWalk.i64_in _ (by omega)
    go_region_held3 (fun w' => w'.cell? ⟨g, 0, none⟩ = some (.slice (some ⟨b0, 0, none⟩) 74 74) ∧ w'.cell? ⟨g, 1, none⟩ = some (.slice (some ⟨b1, 0, none⟩) 10 10) ∧ w'.cell? ⟨g, 2, none⟩ = some (.slice (some ⟨b2, 0, none⟩) 11 11) ∧ w'.cell? ⟨g, 3, none⟩ = some (.slice (some ⟨b3, 0, none⟩) 42 42)) (go_keep) (first
      | (go_at_call 47; (with_reducible refine (KX.out _ (Below.refl _ w).drew).mono ?_); rintro e w5 ⟨rfl, rfl⟩)
      | (go_at_call 48; (with_reducible refine (KC.out _ (Below.refl _ w).drew).mono ?_); rintro e w5 ⟨rfl, hb5⟩; have B5 := Lib.hid (below_of_drew hb5); obtain ⟨d0, d1, d2, d3⟩ : w5.cell? ⟨g, 0, none⟩ = some (.slice (some ⟨b0, 0, none⟩) 74 74) ∧ w5.cell? ⟨g, 1, none⟩ = some (.slice (some ⟨b1, 0, none⟩) 10 10) ∧ w5.cell? ⟨g, 2, none⟩ = some (.slice (some ⟨b2, 0, none⟩) 11 11) ∧ w5.cell? ⟨g, 3, none⟩ = some (.slice (some ⟨b3, 0, none⟩) 42 42) := ⟨(B5.out.cell (p := ⟨g, 0, none⟩) hg).trans c0, (B5.out.cell (p := ⟨g, 1, none⟩) hg).trans c1, (B5.out.cell (p := ⟨g, 2, none⟩) hg).trans c2, (B5.out.cell (p := ⟨g, 3, none⟩) hg).trans c3⟩; clear hb5))
    clear hwr
    go_wp2
    go_ret
    exact ⟨rfl, B5.out⟩
end Go.Proofs.Ytoekkiodhbejpaa
