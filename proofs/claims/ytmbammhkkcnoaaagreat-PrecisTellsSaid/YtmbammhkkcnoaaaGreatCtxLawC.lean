/-
  Proved here: the law ContextDigits, given what the program's Need, All and Needs tell. Conditions: the slice can be read, and holds bytes with a sign.
-/
import Derived.Test.YtmbammhkkcnoaaaGreatCtxEnd
import Derived.BigRegion
namespace Go.Proofs.YtmbammhkkcnoaaaGreat
open Go.RowKit
/-- A slice of bytes with a sign that can be read. -/
def Tinies (v : Value) (l : List Int) (w : World) : Prop := Row v (l.map fun x => .int .i8 x) w
theorem Tinies.form {v : Value} {l : List Int} {w : World} (h : Tinies v l w) : ∃ (A : Option Addr) (c : Nat), v = .slice A l.length c ∧ l.length ≤ c ∧
    (∀ k, k < l.length → ∃ ad, A = some ad ∧ ad.block < w.heap.size ∧ w.cell? (ad.add k) = some (.int .i8 l[k]!)) := by
  obtain ⟨A, c, rfl, hc, -, ha⟩ := h
  simp only [List.length_map] at ha hc ⊢
  refine ⟨A, c, rfl, hc, fun k hk => ?_⟩
  obtain ⟨ad, rfl, hlt, hcell⟩ := ha (by omega)
  refine ⟨ad, rfl, hlt, hcell k _ ?_⟩
  rw [List.getElem?_map, List.getElem?_eq_getElem hk, getElem!_pos l k hk]
  rfl
namespace Ctx
/-- The digit of one of the two kinds of Arabic. -/
def digitOf (x : Int) : Int := if x < 0 then 1632 + x % 8 else 1776 + x % 8
def low (l : List Int) : Bool := l.any fun x => decide (x < 0)
def high (l : List Int) : Bool := l.any fun x => decide (0 ≤ x)
theorem digitOf_in (x : Int) : (1632 ≤ digitOf x ∧ digitOf x ≤ 1641) ∨ (1776 ≤ digitOf x ∧ digitOf x ≤ 1785) := by unfold digitOf; split <;> omega
theorem take_snoc7 (l : List Int) (k : Nat) (h : k < l.length) : l.take (k + 1) = l.take k ++ [l[k]!] := by
  rw [getElem!_pos l k h]
  exact List.take_succ_eq_append_getElem h
theorem low_next (l : List Int) (k : Nat) (h : k < l.length) : low (l.take (k + 1)) = (low (l.take k) || decide (l[k]! < 0)) := by
  unfold low
  rw [take_snoc7 l k h, List.any_append]
  simp
theorem high_next (l : List Int) (k : Nat) (h : k < l.length) : high (l.take (k + 1)) = (high (l.take k) || decide (0 ≤ l[k]!)) := by
  unfold high
  rw [take_snoc7 l k h, List.any_append]
  simp
theorem made_next (l : List Int) (k : Nat) (h : k < l.length) : (l.take (k + 1)).map digitOf = (l.take k).map digitOf ++ [digitOf l[k]!] := by rw [take_snoc7 l k h, List.map_append]; rfl
theorem made_all (l : List Int) : all (l.map digitOf) = !(low l && high l) := by
  rw [digits fun x hx => by obtain ⟨y, -, rfl⟩ := List.mem_map.1 hx; exact digitOf_in y]
  have h1 : among (l.map digitOf) 1632 1641 = low l := by
    unfold among low
    rw [List.any_map]
    congr 1
    funext x
    show (decide (1632 ≤ digitOf x) && decide (digitOf x ≤ 1641)) = decide (x < 0)
    unfold digitOf
    by_cases hx : x < 0
    · rw [if_pos hx, decide_eq_true (by omega), decide_eq_true (by omega), decide_eq_true hx]; rfl
    · rw [if_neg hx, decide_eq_true (by omega), decide_eq_false (by omega), decide_eq_false hx]; rfl
  have h2 : among (l.map digitOf) 1776 1785 = high l := by
    unfold among high
    rw [List.any_map]
    congr 1
    funext x
    show (decide (1776 ≤ digitOf x) && decide (digitOf x ≤ 1785)) = decide (0 ≤ x)
    unfold digitOf
    by_cases hx : x < 0
    · rw [if_pos hx, decide_eq_false (p := 1776 ≤ 1632 + x % 8) (by omega), decide_eq_false (p := 0 ≤ x) (by omega)]; rfl
    · rw [if_neg hx, decide_eq_true (by omega), decide_eq_true (by omega), decide_eq_true (by omega)]; rfl
  rw [h1, h2]
theorem bits_rows : ∀ i ∈ List.range 256, bits .and .i32 ((i : Nat) - 128 : Int) 7 = ((i : Nat) - 128 : Int) % 8 := by decide +kernel
theorem bits_at {x : Int} (h0 : -128 ≤ x) (h1 : x ≤ 127) : bits .and .i32 x 7 = x % 8 := by
  have := bits_rows (x + 128).toNat (by rw [List.mem_range]; omega)
  rwa [show (((x + 128).toNat : Nat) : Int) - 128 = x by omega] at this
end Ctx
end Go.Proofs.YtmbammhkkcnoaaaGreat
