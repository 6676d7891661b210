/-
  Proved here: the statement UcdTells, as a call: it answers true at every number. Conditions: none.
-/
import Derived.Test.YtljjddcfaaaaaaaSmall
namespace Go.Proofs.Ytljjddcfaaaaaaa
open Go.RowKit
theorem refCat_at {w0 : World} {S b0 b1 b2 b3 : Nat} {w : World} (h : Kept w0 S b0 b1 b2 b3 w) {x : Int} {v : Int} (hv : catOf x = v) :
    Calls Try.prog 12 #[.int .i32 x] w fun e w' => e = .returned (.int .i64 v) ∧ Hid (Kept w0 S b0 b1 b2 b3 w') ∧ Hid (Below w.heap.size w w') := by
  subst hv
  exact (refCat_any x w).mono fun _ _ ⟨he, hb⟩ => ⟨he, h.next hb, hb⟩
theorem refBidi_at {w0 : World} {S b0 b1 b2 b3 : Nat} {w : World} (h : Kept w0 S b0 b1 b2 b3 w) {x : Int} {v : Int} (hv : bidiOf x = v) :
    Calls Try.prog 14 #[.int .i32 x] w fun e w' => e = .returned (.int .i64 v) ∧ Hid (Kept w0 S b0 b1 b2 b3 w') ∧ Hid (Below w.heap.size w w') := by
  subst hv
  exact (refBidi_any x w).mono fun _ _ ⟨he, hb⟩ => ⟨he, h.next hb, hb⟩
theorem refJoin_at {w0 : World} {S b0 b1 b2 b3 : Nat} {w : World} (h : Kept w0 S b0 b1 b2 b3 w) {x : Int} {v : Int} (hv : joinOf x = v) :
    Calls Try.prog 16 #[.int .i32 x] w fun e w' => e = .returned (.int .i64 v) ∧ Hid (Kept w0 S b0 b1 b2 b3 w') ∧ Hid (Below w.heap.size w w') := by
  subst hv
  exact (refJoin_any x w).mono fun _ _ ⟨he, hb⟩ => ⟨he, h.next hb, hb⟩
theorem refScript_at {w0 : World} {S b0 b1 b2 b3 : Nat} {w : World} (h : Kept w0 S b0 b1 b2 b3 w) {x : Int} {v : Int} (hv : scriptOf x = v) :
    Calls Try.prog 18 #[.int .i32 x] w fun e w' => e = .returned (.int .i64 v) ∧ Hid (Kept w0 S b0 b1 b2 b3 w') ∧ Hid (Below w.heap.size w w') := by
  subst hv
  exact (refScript_any x w).mono fun _ _ ⟨he, hb⟩ => ⟨he, h.next hb, hb⟩
theorem refClass_at {w0 : World} {S b0 b1 b2 b3 : Nat} {w : World} (h : Kept w0 S b0 b1 b2 b3 w) {x : Int} {v : Int} (hv : clsOf x = v) :
    Calls Try.prog 20 #[.int .i32 x] w fun e w' => e = .returned (.int .i64 v) ∧ Hid (Kept w0 S b0 b1 b2 b3 w') ∧ Hid (Below w.heap.size w w') := by
  subst hv
  exact (refClass_any x w).mono fun _ _ ⟨he, hb⟩ => ⟨he, h.next hb, hb⟩
theorem refLower_at {w0 : World} {S b0 b1 b2 b3 : Nat} {w : World} (h : Kept w0 S b0 b1 b2 b3 w) {x : Int} {v : Int} (hv : lowOf x = v) :
    Calls Try.prog 22 #[.int .i32 x] w fun e w' => e = .returned (.int .i32 v) ∧ Hid (Kept w0 S b0 b1 b2 b3 w') ∧ Hid (Below w.heap.size w w') := by
  subst hv
  exact (refLower_any x w).mono fun _ _ ⟨he, hb⟩ => ⟨he, h.next hb, hb⟩
theorem refLetter_at {w0 : World} {S b0 b1 b2 b3 : Nat} {w : World} (h : Kept w0 S b0 b1 b2 b3 w) {x : Int} {v : Bool} (hv : letterOf x = v) :
    Calls Try.prog 24 #[.int .i32 x] w fun e w' => e = .returned (.bool v) ∧ Hid (Kept w0 S b0 b1 b2 b3 w') ∧ Hid (Below w.heap.size w w') := by
  subst hv
  exact (refLetter_any x w).mono fun _ _ ⟨he, hb⟩ => ⟨he, h.next hb, hb⟩
theorem refSplit_at {w0 : World} {S b0 b1 b2 b3 : Nat} {w : World} (h : Kept w0 S b0 b1 b2 b3 w) {x v0 v1 v2 : Int} {v3 v4 is : Bool} {o : Option Sp} (ho : splitOf x = o) (hv : o.getD default = ⟨v0, v1, v2, v3, v4⟩) (hi : o.isSome = is) :
    Calls Try.prog 26 #[.int .i32 x] w fun e w' => e = .returned (.tuple #[.agg #[.int .i32 v0, .int .i32 v1, .int .i32 v2, .bool v3, .bool v4], .bool is]) ∧ Hid (Kept w0 S b0 b1 b2 b3 w') ∧ Hid (Below w.heap.size w w') := by
  subst ho
  exact (refSplit_any x w).mono fun _ _ ⟨he, hb⟩ => ⟨by rw [he, hv, hi]; rfl, h.next hb, hb⟩
theorem refPair_at {w0 : World} {S b0 b1 b2 b3 : Nat} {w : World} (h : Kept w0 S b0 b1 b2 b3 w) {a b v : Int} {is : Bool} {o : Option Int} (ho : pairOf a b = o) (hv : o.getD 0 = v) (hi : o.isSome = is) :
    Calls Try.prog 28 #[.int .i32 a, .int .i32 b] w fun e w' => e = .returned (.tuple #[.int .i32 v, .bool is]) ∧ Hid (Kept w0 S b0 b1 b2 b3 w') ∧ Hid (Below w.heap.size w w') := by
  subst ho
  exact (refPair_any a b w).mono fun _ _ ⟨he, hb⟩ => ⟨by rw [he, hv, hi], h.next hb, hb⟩
/-- Block S holds a Split's five cells. -/
def Row5 (S : Nat) (v0 v1 v2 : Int) (v3 v4 : Bool) (w : World) : Prop :=
  S < w.heap.size ∧ w.cell? ⟨S, 0, none⟩ = some (.int .i32 v0) ∧ w.cell? ⟨S, 1, none⟩ = some (.int .i32 v1) ∧ w.cell? ⟨S, 2, none⟩ = some (.int .i32 v2) ∧ w.cell? ⟨S, 3, none⟩ = some (.bool v3) ∧ w.cell? ⟨S, 4, none⟩ = some (.bool v4)
theorem Row5.below {S : Nat} {v0 v1 v2 : Int} {v3 v4 : Bool} {w w' : World} (h : Row5 S v0 v1 v2 v3 v4 w) (hb : Below w.heap.size w w') : Row5 S v0 v1 v2 v3 v4 w' :=
  ⟨Nat.lt_of_lt_of_le h.1 hb.size, cell_kept h.2.1 hb, cell_kept h.2.2.1 hb, cell_kept h.2.2.2.1 hb, cell_kept h.2.2.2.2.1 hb, cell_kept h.2.2.2.2.2 hb⟩
theorem row5_new (w : World) (v0 v1 v2 : Int) (v3 v4 : Bool) (T : TypeId) : Row5 w.heap.size v0 v1 v2 v3 v4 (w.alloc (.cells #[.int .i32 v0, .int .i32 v1, .int .i32 v2, .bool v3, .bool v4] T)) :=
  ⟨by simp, by simp, by simp, by simp, by simp, by simp⟩
theorem below_one (w : World) (o : Obj) : Below w.heap.size w (w.alloc o) := (Below.refl _ w).alloc (Nat.le_refl _) o
set_option maxRecDepth 100000 in
set_option maxHeartbeats 8000000 in
theorem tells_walk (x : Int) (w : World) : Calls Try.prog 3 #[.int .i32 x] w fun e w' => e = .returned (.bool true) ∧ Below w.heap.size w w' := by
  go_enter Try.func3, Try.ntmps3
  go_wp2_with fail
  refine (small_any _).mono ?_
  rintro e ws ⟨rfl, hbs⟩
  have HBS := Lib.hid hbs
  clear hbs
  go_wp2_with fail
  refine (new_any _).mono ?_
  rintro e w1 ⟨tt, rfl, hT, hb1⟩
  have hT' := hT
  obtain ⟨b0, b1, b2, b3, rfl, -, -, -, -⟩ := hT'
  have K1 := Lib.hid (kept_new (w0 := w) (b0 := b0) (b1 := b1) (b2 := b2) (b3 := b3) (HBS.out.trans (hb1.mono HBS.out.size)) hT 28)
  clear hT hb1 HBS
  go_wp2_with fail
  refine (cat_at K1.out rfl).mono ?_
  rintro e w2 ⟨rfl, K2, L2⟩
  obtain ⟨hS, c0, c1, c2, c3⟩ := K2.out.held
  clear K1 L2
  go_wp2_with fail
  refine (refCat_at K2.out rfl).mono ?_
  rintro e w3 ⟨rfl, K3, L3⟩
  obtain ⟨hS, c0, c1, c2, c3⟩ := K3.out.held
  clear K2 L3
  go_wp2_with fail
  refine (bidi_at K3.out rfl).mono ?_
  rintro e w4 ⟨rfl, K4, L4⟩
  obtain ⟨hS, c0, c1, c2, c3⟩ := K4.out.held
  clear K3 L4
  go_wp2_with fail
  refine (refBidi_at K4.out rfl).mono ?_
  rintro e w5 ⟨rfl, K5, L5⟩
  obtain ⟨hS, c0, c1, c2, c3⟩ := K5.out.held
  clear K4 L5
  go_wp2_with fail
  refine (join_at K5.out rfl).mono ?_
  rintro e w6 ⟨rfl, K6, L6⟩
  obtain ⟨hS, c0, c1, c2, c3⟩ := K6.out.held
  clear K5 L6
  go_wp2_with fail
  refine (refJoin_at K6.out rfl).mono ?_
  rintro e w7 ⟨rfl, K7, L7⟩
  obtain ⟨hS, c0, c1, c2, c3⟩ := K7.out.held
  clear K6 L7
  go_wp2_with fail
  refine (script_at K7.out rfl).mono ?_
  rintro e w8 ⟨rfl, K8, L8⟩
  obtain ⟨hS, c0, c1, c2, c3⟩ := K8.out.held
  clear K7 L8
  go_wp2_with fail
  refine (refScript_at K8.out rfl).mono ?_
  rintro e w9 ⟨rfl, K9, L9⟩
  obtain ⟨hS, c0, c1, c2, c3⟩ := K9.out.held
  clear K8 L9
  go_wp2_with fail
  refine (class_at K9.out rfl).mono ?_
  rintro e w10 ⟨rfl, K10, L10⟩
  obtain ⟨hS, c0, c1, c2, c3⟩ := K10.out.held
  clear K9 L10
  go_wp2_with fail
  refine (refClass_at K10.out rfl).mono ?_
  rintro e w11 ⟨rfl, K11, L11⟩
  obtain ⟨hS, c0, c1, c2, c3⟩ := K11.out.held
  clear K10 L11
  go_wp2_with fail
  refine (lower_at K11.out rfl).mono ?_
  rintro e w12 ⟨rfl, K12, L12⟩
  obtain ⟨hS, c0, c1, c2, c3⟩ := K12.out.held
  clear K11 L12
  go_wp2_with fail
  refine (refLower_at K12.out rfl).mono ?_
  rintro e w13 ⟨rfl, K13, L13⟩
  obtain ⟨hS, c0, c1, c2, c3⟩ := K13.out.held
  clear K12 L13
  go_wp2_with fail
  refine (letter_at K13.out rfl).mono ?_
  rintro e w14 ⟨rfl, K14, L14⟩
  obtain ⟨hS, c0, c1, c2, c3⟩ := K14.out.held
  clear K13 L14
  go_wp2_with fail
  refine (refLetter_at K14.out rfl).mono ?_
  rintro e w15 ⟨rfl, K15, L15⟩
  obtain ⟨hS, c0, c1, c2, c3⟩ := K15.out.held
  clear K14 L15
  go_wp2
  go_ret
  exact ⟨rfl, K15.out.below⟩
end Go.Proofs.Ytljjddcfaaaaaaa
