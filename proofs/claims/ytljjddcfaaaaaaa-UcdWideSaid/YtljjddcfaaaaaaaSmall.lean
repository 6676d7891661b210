/-
  Proved here: the small case at the head of each law of layer 1 comes out true. Conditions: none.
-/
import Derived.Test.YtljjddcfaaaaaaaRefB
namespace Go.Proofs.Ytljjddcfaaaaaaa
open Go.RowKit
/-- A table's value, by the blocks of its four slices. -/
def tbl (b0 b1 b2 b3 : Nat) : Value := .agg #[.slice (some ⟨b0, 0, none⟩) 74 74, .slice (some ⟨b1, 0, none⟩) 10 10, .slice (some ⟨b2, 0, none⟩) 11 11, .slice (some ⟨b3, 0, none⟩) 42 42]
/-- Block S holds the table's four slices. -/
def Held (S b0 b1 b2 b3 : Nat) (w : World) : Prop :=
  S < w.heap.size ∧ w.cell? ⟨S, 0, none⟩ = some (.slice (some ⟨b0, 0, none⟩) 74 74) ∧ w.cell? ⟨S, 1, none⟩ = some (.slice (some ⟨b1, 0, none⟩) 10 10) ∧ w.cell? ⟨S, 2, none⟩ = some (.slice (some ⟨b2, 0, none⟩) 11 11) ∧ w.cell? ⟨S, 3, none⟩ = some (.slice (some ⟨b3, 0, none⟩) 42 42)
theorem Held.below {S b0 b1 b2 b3 : Nat} {w w' : World} (h : Held S b0 b1 b2 b3 w) (hb : Below w.heap.size w w') : Held S b0 b1 b2 b3 w' :=
  ⟨Nat.lt_of_lt_of_le h.1 hb.size, (hb.cell (p := ⟨S, 0, none⟩) h.1).trans h.2.1, (hb.cell (p := ⟨S, 1, none⟩) h.1).trans h.2.2.1, (hb.cell (p := ⟨S, 2, none⟩) h.1).trans h.2.2.2.1, (hb.cell (p := ⟨S, 3, none⟩) h.1).trans h.2.2.2.2⟩
theorem held_new (w : World) (b0 b1 b2 b3 : Nat) (T : TypeId) : Held w.heap.size b0 b1 b2 b3 (w.alloc (.cells #[.slice (some ⟨b0, 0, none⟩) 74 74, .slice (some ⟨b1, 0, none⟩) 10 10, .slice (some ⟨b2, 0, none⟩) 11 11, .slice (some ⟨b3, 0, none⟩) 42 42] T)) :=
  ⟨by simp, by simp, by simp, by simp, by simp⟩
/-- What is kept from call to call: nothing that lay has turned, and the table stands in its block. -/
structure Kept (w0 : World) (S b0 b1 b2 b3 : Nat) (w : World) : Prop where
  below : Below w0.heap.size w0 w
  held : Held S b0 b1 b2 b3 w
  table : Table w (tbl b0 b1 b2 b3)
theorem Kept.next {w0 : World} {S b0 b1 b2 b3 : Nat} {w w' : World} (h : Kept w0 S b0 b1 b2 b3 w) (hb : Below w.heap.size w w') : Kept w0 S b0 b1 b2 b3 w' :=
  ⟨h.below.trans (hb.mono h.below.size), h.held.below hb, h.table.below hb⟩
theorem Kept.alloc {w0 : World} {S b0 b1 b2 b3 : Nat} {w : World} (h : Kept w0 S b0 b1 b2 b3 w) (o : Obj) : Kept w0 S b0 b1 b2 b3 (w.alloc o) := h.next ((Below.refl _ w).alloc (Nat.le_refl _) o)
theorem Kept.drew {w0 : World} {S b0 b1 b2 b3 : Nat} {w : World} (h : Kept w0 S b0 b1 b2 b3 w) : Kept w0 S b0 b1 b2 b3 w.drew := h.next ((Below.refl _ w).drew)
/-- A cell of what lay at some time. -/
theorem cell_kept {w w' : World} {b o : Nat} {v : Value} (hc : w.cell? ⟨b, o, none⟩ = some v) (hb : Below w.heap.size w w') : w'.cell? ⟨b, o, none⟩ = some v :=
  (hb.cell (p := ⟨b, o, none⟩) (World.block_lt_of_cell? _ _ hc)).trans hc
theorem kept_new {w0 w1 : World} {b0 b1 b2 b3 : Nat} (hb : Below w0.heap.size w0 w1) (hT : Table w1 (tbl b0 b1 b2 b3)) (T : TypeId) :
    Kept w0 w1.heap.size b0 b1 b2 b3 (w1.alloc (.cells #[.slice (some ⟨b0, 0, none⟩) 74 74, .slice (some ⟨b1, 0, none⟩) 10 10, .slice (some ⟨b2, 0, none⟩) 11 11, .slice (some ⟨b3, 0, none⟩) 42 42] T)) :=
  ⟨hb.alloc hb.size _, held_new _ _ _ _ _ _, hT.below ((Below.refl _ _).alloc (Nat.le_refl _) _)⟩
theorem cat_at {w0 : World} {S b0 b1 b2 b3 : Nat} {w : World} (h : Kept w0 S b0 b1 b2 b3 w) {x : Int} {v : Int} (hv : catOf x = v) :
    Calls Try.prog 11 #[.agg #[.slice (some ⟨b0, 0, none⟩) 74 74, .slice (some ⟨b1, 0, none⟩) 10 10, .slice (some ⟨b2, 0, none⟩) 11 11, .slice (some ⟨b3, 0, none⟩) 42 42], .int .i32 x] w fun e w' => e = .returned (.int .i64 v) ∧ Hid (Kept w0 S b0 b1 b2 b3 w') ∧ Hid (Below w.heap.size w w') := by
  subst hv
  exact (cat_any _ x w h.table).mono fun _ _ ⟨he, hb⟩ => ⟨he, h.next hb, hb⟩
theorem bidi_at {w0 : World} {S b0 b1 b2 b3 : Nat} {w : World} (h : Kept w0 S b0 b1 b2 b3 w) {x : Int} {v : Int} (hv : bidiOf x = v) :
    Calls Try.prog 13 #[.agg #[.slice (some ⟨b0, 0, none⟩) 74 74, .slice (some ⟨b1, 0, none⟩) 10 10, .slice (some ⟨b2, 0, none⟩) 11 11, .slice (some ⟨b3, 0, none⟩) 42 42], .int .i32 x] w fun e w' => e = .returned (.int .i64 v) ∧ Hid (Kept w0 S b0 b1 b2 b3 w') ∧ Hid (Below w.heap.size w w') := by
  subst hv
  exact (bidi_any _ x w h.table).mono fun _ _ ⟨he, hb⟩ => ⟨he, h.next hb, hb⟩
theorem join_at {w0 : World} {S b0 b1 b2 b3 : Nat} {w : World} (h : Kept w0 S b0 b1 b2 b3 w) {x : Int} {v : Int} (hv : joinOf x = v) :
    Calls Try.prog 15 #[.agg #[.slice (some ⟨b0, 0, none⟩) 74 74, .slice (some ⟨b1, 0, none⟩) 10 10, .slice (some ⟨b2, 0, none⟩) 11 11, .slice (some ⟨b3, 0, none⟩) 42 42], .int .i32 x] w fun e w' => e = .returned (.int .i64 v) ∧ Hid (Kept w0 S b0 b1 b2 b3 w') ∧ Hid (Below w.heap.size w w') := by
  subst hv
  exact (join_any _ x w h.table).mono fun _ _ ⟨he, hb⟩ => ⟨he, h.next hb, hb⟩
theorem script_at {w0 : World} {S b0 b1 b2 b3 : Nat} {w : World} (h : Kept w0 S b0 b1 b2 b3 w) {x : Int} {v : Int} (hv : scriptOf x = v) :
    Calls Try.prog 17 #[.agg #[.slice (some ⟨b0, 0, none⟩) 74 74, .slice (some ⟨b1, 0, none⟩) 10 10, .slice (some ⟨b2, 0, none⟩) 11 11, .slice (some ⟨b3, 0, none⟩) 42 42], .int .i32 x] w fun e w' => e = .returned (.int .i64 v) ∧ Hid (Kept w0 S b0 b1 b2 b3 w') ∧ Hid (Below w.heap.size w w') := by
  subst hv
  exact (script_any _ x w h.table).mono fun _ _ ⟨he, hb⟩ => ⟨he, h.next hb, hb⟩
theorem class_at {w0 : World} {S b0 b1 b2 b3 : Nat} {w : World} (h : Kept w0 S b0 b1 b2 b3 w) {x : Int} {v : Int} (hv : clsOf x = v) :
    Calls Try.prog 19 #[.agg #[.slice (some ⟨b0, 0, none⟩) 74 74, .slice (some ⟨b1, 0, none⟩) 10 10, .slice (some ⟨b2, 0, none⟩) 11 11, .slice (some ⟨b3, 0, none⟩) 42 42], .int .i32 x] w fun e w' => e = .returned (.int .i64 v) ∧ Hid (Kept w0 S b0 b1 b2 b3 w') ∧ Hid (Below w.heap.size w w') := by
  subst hv
  exact (class_any _ x w h.table).mono fun _ _ ⟨he, hb⟩ => ⟨he, h.next hb, hb⟩
theorem lower_at {w0 : World} {S b0 b1 b2 b3 : Nat} {w : World} (h : Kept w0 S b0 b1 b2 b3 w) {x : Int} {v : Int} (hv : lowOf x = v) :
    Calls Try.prog 21 #[.agg #[.slice (some ⟨b0, 0, none⟩) 74 74, .slice (some ⟨b1, 0, none⟩) 10 10, .slice (some ⟨b2, 0, none⟩) 11 11, .slice (some ⟨b3, 0, none⟩) 42 42], .int .i32 x] w fun e w' => e = .returned (.int .i32 v) ∧ Hid (Kept w0 S b0 b1 b2 b3 w') ∧ Hid (Below w.heap.size w w') := by
  subst hv
  exact (lower_any _ x w h.table).mono fun _ _ ⟨he, hb⟩ => ⟨he, h.next hb, hb⟩
theorem letter_at {w0 : World} {S b0 b1 b2 b3 : Nat} {w : World} (h : Kept w0 S b0 b1 b2 b3 w) {x : Int} {v : Bool} (hv : letterOf x = v) :
    Calls Try.prog 23 #[.agg #[.slice (some ⟨b0, 0, none⟩) 74 74, .slice (some ⟨b1, 0, none⟩) 10 10, .slice (some ⟨b2, 0, none⟩) 11 11, .slice (some ⟨b3, 0, none⟩) 42 42], .int .i32 x] w fun e w' => e = .returned (.bool v) ∧ Hid (Kept w0 S b0 b1 b2 b3 w') ∧ Hid (Below w.heap.size w w') := by
  subst hv
  exact (letter_any _ x w h.table).mono fun _ _ ⟨he, hb⟩ => ⟨he, h.next hb, hb⟩
theorem split_at' {w0 : World} {S b0 b1 b2 b3 : Nat} {w : World} (h : Kept w0 S b0 b1 b2 b3 w) {x v0 v1 v2 : Int} {v3 v4 is : Bool} {o : Option Sp} (ho : splitOf x = o) (hv : o.getD default = ⟨v0, v1, v2, v3, v4⟩) (hi : o.isSome = is) :
    Calls Try.prog 25 #[.agg #[.slice (some ⟨b0, 0, none⟩) 74 74, .slice (some ⟨b1, 0, none⟩) 10 10, .slice (some ⟨b2, 0, none⟩) 11 11, .slice (some ⟨b3, 0, none⟩) 42 42], .int .i32 x] w fun e w' => e = .returned (.tuple #[.agg #[.int .i32 v0, .int .i32 v1, .int .i32 v2, .bool v3, .bool v4], .bool is]) ∧ Hid (Kept w0 S b0 b1 b2 b3 w') ∧ Hid (Below w.heap.size w w') := by
  subst ho
  exact (split_any _ x w h.table).mono fun _ _ ⟨he, hb⟩ => ⟨by rw [he, hv, hi]; rfl, h.next hb, hb⟩
theorem pair_at {w0 : World} {S b0 b1 b2 b3 : Nat} {w : World} (h : Kept w0 S b0 b1 b2 b3 w) {a b v : Int} {is : Bool} {o : Option Int} (ho : pairOf a b = o) (hv : o.getD 0 = v) (hi : o.isSome = is) :
    Calls Try.prog 27 #[.agg #[.slice (some ⟨b0, 0, none⟩) 74 74, .slice (some ⟨b1, 0, none⟩) 10 10, .slice (some ⟨b2, 0, none⟩) 11 11, .slice (some ⟨b3, 0, none⟩) 42 42], .int .i32 a, .int .i32 b] w fun e w' => e = .returned (.tuple #[.int .i32 v, .bool is]) ∧ Hid (Kept w0 S b0 b1 b2 b3 w') ∧ Hid (Below w.heap.size w w') := by
  subst ho
  exact (pair_any _ a b w h.table).mono fun _ _ ⟨he, hb⟩ => ⟨by rw [he, hv, hi], h.next hb, hb⟩
theorem split_0xff21 : splitOf 65313 = some ⟨65313, 65, 0, true, true⟩ := by kernel_rfl
theorem pair_A_308 : pairOf 65 776 = some 196 := by decide +kernel
theorem pair_c5_0 : pairOf 197 0 = none := by decide +kernel
set_option maxRecDepth 100000 in
set_option maxHeartbeats 8000000 in
theorem small_any (w : World) : Calls Try.prog 9 #[] w fun e w' => e = .returned (.bool true) ∧ Below w.heap.size w w' := by
  go_enter Try.func9, Try.ntmps9
  go_wp2_with fail
  refine (new_any _).mono ?_
  rintro e w1 ⟨tt, rfl, hT, hb1⟩
  have hT' := hT
  obtain ⟨b0, b1, b2, b3, rfl, -, -, -, -⟩ := hT'
  have K0 := Lib.hid (kept_new (b0 := b0) (b1 := b1) (b2 := b2) (b3 := b3) hb1 hT 28)
  clear hT hb1
  go_wp2_with fail
  refine (split_at' K0.out split_0xff21 rfl rfl).mono ?_
  rintro e w2 ⟨rfl, K2, L2⟩
  obtain ⟨hS, c0, c1, c2, c3⟩ := K2.out.held
  clear K0 L2
  have hs : (w2.alloc (.cells #[.int .i32 65313, .int .i32 65, .int .i32 0, .bool true, .bool true] 34)).cell? ⟨w2.heap.size, 1, none⟩ = some (.int .i32 65) := by simp
  have HS := Lib.hid hs
  have KS := Lib.hid (K2.out.alloc (.cells #[.int .i32 65313, .int .i32 65, .int .i32 0, .bool true, .bool true] 34))
  clear hs K2
  go_wp2_with fail
  refine (pair_at KS.out pair_A_308 rfl rfl).mono ?_
  rintro e w3 ⟨rfl, K3, L3⟩
  obtain ⟨hS, c0, c1, c2, c3⟩ := K3.out.held
  have S3 := Lib.hid (cell_kept HS.out L3.out)
  clear KS HS L3
  go_wp2_with fail
  refine (pair_at K3.out pair_c5_0 rfl rfl).mono ?_
  rintro e w4 ⟨rfl, K4, L4⟩
  obtain ⟨hS, c0, c1, c2, c3⟩ := K4.out.held
  have S4 := Lib.hid (cell_kept S3.out L4.out)
  have s1 := S4.out
  clear K3 S3 L4
  go_wp2_with fail
  refine (cat_at K4.out (show catOf 65 = 1 by decide +kernel)).mono ?_
  rintro e w5 ⟨rfl, K5, L5⟩
  obtain ⟨hS, c0, c1, c2, c3⟩ := K5.out.held
  have S5 := Lib.hid (cell_kept S4.out L5.out)
  have s1 := S5.out
  clear K4 S4 L5
  go_wp2_with fail
  refine (cat_at K5.out (show catOf 888 = 0 by decide +kernel)).mono ?_
  rintro e w6 ⟨rfl, K6, L6⟩
  obtain ⟨hS, c0, c1, c2, c3⟩ := K6.out.held
  have S6 := Lib.hid (cell_kept S5.out L6.out)
  have s1 := S6.out
  clear K5 S5 L6
  go_wp2_with fail
  refine (bidi_at K6.out (show bidiOf 1488 = 2 by decide +kernel)).mono ?_
  rintro e w7 ⟨rfl, K7, L7⟩
  obtain ⟨hS, c0, c1, c2, c3⟩ := K7.out.held
  have S7 := Lib.hid (cell_kept S6.out L7.out)
  have s1 := S7.out
  clear K6 S6 L7
  go_wp2_with fail
  refine (join_at K7.out (show joinOf 1576 = 1 by decide +kernel)).mono ?_
  rintro e w8 ⟨rfl, K8, L8⟩
  obtain ⟨hS, c0, c1, c2, c3⟩ := K8.out.held
  have S8 := Lib.hid (cell_kept S7.out L8.out)
  have s1 := S8.out
  clear K7 S7 L8
  go_wp2_with fail
  refine (script_at K8.out (show scriptOf 19968 = 8 by decide +kernel)).mono ?_
  rintro e w9 ⟨rfl, K9, L9⟩
  obtain ⟨hS, c0, c1, c2, c3⟩ := K9.out.held
  have S9 := Lib.hid (cell_kept S8.out L9.out)
  have s1 := S9.out
  clear K8 S8 L9
  go_wp2_with fail
  refine (class_at K9.out (show clsOf 1459 = 13 by decide +kernel)).mono ?_
  rintro e w10 ⟨rfl, K10, L10⟩
  obtain ⟨hS, c0, c1, c2, c3⟩ := K10.out.held
  have S10 := Lib.hid (cell_kept S9.out L10.out)
  have s1 := S10.out
  clear K9 S9 L10
  go_wp2_with fail
  refine (class_at K10.out (show clsOf 97 = 0 by decide +kernel)).mono ?_
  rintro e w11 ⟨rfl, K11, L11⟩
  obtain ⟨hS, c0, c1, c2, c3⟩ := K11.out.held
  have S11 := Lib.hid (cell_kept S10.out L11.out)
  have s1 := S11.out
  clear K10 S10 L11
  go_wp2_with fail
  refine (lower_at K11.out (show lowOf 65 = 97 by decide +kernel)).mono ?_
  rintro e w12 ⟨rfl, K12, L12⟩
  obtain ⟨hS, c0, c1, c2, c3⟩ := K12.out.held
  have S12 := Lib.hid (cell_kept S11.out L12.out)
  have s1 := S12.out
  clear K11 S11 L12
  go_wp2_with fail
  refine (lower_at K12.out (show lowOf 8491 = 229 by decide +kernel)).mono ?_
  rintro e w13 ⟨rfl, K13, L13⟩
  obtain ⟨hS, c0, c1, c2, c3⟩ := K13.out.held
  have S13 := Lib.hid (cell_kept S12.out L13.out)
  have s1 := S13.out
  clear K12 S12 L13
  go_wp2_with fail
  refine (lower_at K13.out (show lowOf 97 = 97 by decide +kernel)).mono ?_
  rintro e w14 ⟨rfl, K14, L14⟩
  obtain ⟨hS, c0, c1, c2, c3⟩ := K14.out.held
  have S14 := Lib.hid (cell_kept S13.out L14.out)
  have s1 := S14.out
  clear K13 S13 L14
  go_wp2_with fail
  refine (letter_at K14.out (show letterOf 2325 = true by decide +kernel)).mono ?_
  rintro e w15 ⟨rfl, K15, L15⟩
  obtain ⟨hS, c0, c1, c2, c3⟩ := K15.out.held
  have S15 := Lib.hid (cell_kept S14.out L15.out)
  have s1 := S15.out
  clear K14 S14 L15
  go_wp2_with fail
  refine (letter_at K15.out (show letterOf 49 = false by decide +kernel)).mono ?_
  rintro e w16 ⟨rfl, K16, L16⟩
  obtain ⟨hS, c0, c1, c2, c3⟩ := K16.out.held
  have S16 := Lib.hid (cell_kept S15.out L16.out)
  have s1 := S16.out
  clear K15 S15 L16
  go_wp2
  go_ret
  exact ⟨rfl, K16.out.below⟩
end Go.Proofs.Ytljjddcfaaaaaaa
