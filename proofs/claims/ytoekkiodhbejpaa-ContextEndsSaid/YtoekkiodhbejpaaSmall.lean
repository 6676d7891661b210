/-
  Proved here: the small case at the head of each law of layer 1 comes out true. Conditions: none.
-/
import Derived.Test.YtoekkiodhbejpaaRefB
namespace Go.Proofs.Ytoekkiodhbejpaa
open Go.RowKit
/-- A table's value, by the blocks of its four slices. -/
def tbl (b0 b1 b2 b3 : Nat) : Value := .agg #[.slice (some ⟨b0, 0, none⟩) 74 74, .slice (some ⟨b1, 0, none⟩) 10 10, .slice (some ⟨b2, 0, none⟩) 11 11, .slice (some ⟨b3, 0, none⟩) 42 42]
/-- Block S holds the table's four slices. -/
def Held (S b0 b1 b2 b3 : Nat) (w : World) : Prop :=
  S < w.heap.size ∧ w.cell? ⟨S, 0, none⟩ = some (.slice (some ⟨b0, 0, none⟩) 74 74) ∧ w.cell? ⟨S, 1, none⟩ = some (.slice (some ⟨b1, 0, none⟩) 10 10) ∧ w.cell? ⟨S, 2, none⟩ = some (.slice (some ⟨b2, 0, none⟩) 11 11) ∧ w.cell? ⟨S, 3, none⟩ = some (.slice (some ⟨b3, 0, none⟩) 42 42)
theorem Held.below {S b0 b1 b2 b3 : Nat} {w w' : World} (h : Held S b0 b1 b2 b3 w) (hb : Below w.heap.size w w') : Held S b0 b1 b2 b3 w' :=
  ⟨Nat.lt_of_lt_of_le h.1 hb.size, (hb.cell (p := ⟨S, 0, none⟩) h.1).trans h.2.1, (hb.cell (p := ⟨S, 1, none⟩) h.1).trans h.2.2.1, (hb.cell (p := ⟨S, 2, none⟩) h.1).trans h.2.2.2.1, (hb.cell (p := ⟨S, 3, none⟩) h.1).trans h.2.2.2.2⟩
theorem held_new (w : World) (b0 b1 b2 b3 : Nat) (T : TypeId) : Held w.heap.size b0 b1 b2 b3 (w.alloc (.cells #[.slice (some ⟨b0, 0, none⟩) 74 74, .slice (some ⟨b1, 0, none⟩) 10 10, .slice (some ⟨b2, 0, none⟩) 11 11, .slice (some ⟨b3, 0, none⟩) 42 42] T)) :=
  ⟨by simp, by simp, by simp, by simp, by simp⟩
/-- What is kept from call to call: nothing that lay has turned, and the table stands in its block. -/
structure Kept (w0 : World) (S b0 b1 b2 b3 : Nat) (w : World) : Prop where
  below : Below w0.heap.size w0 w
  held : Held S b0 b1 b2 b3 w
  table : Table w (tbl b0 b1 b2 b3)
theorem Kept.next {w0 : World} {S b0 b1 b2 b3 : Nat} {w w' : World} (h : Kept w0 S b0 b1 b2 b3 w) (hb : Below w.heap.size w w') : Kept w0 S b0 b1 b2 b3 w' :=
  ⟨h.below.trans (hb.mono h.below.size), h.held.below hb, h.table.below hb⟩
theorem Kept.alloc {w0 : World} {S b0 b1 b2 b3 : Nat} {w : World} (h : Kept w0 S b0 b1 b2 b3 w) (o : Obj) : Kept w0 S b0 b1 b2 b3 (w.alloc o) := h.next ((Below.refl _ w).alloc (Nat.le_refl _) o)
theorem Kept.drew {w0 : World} {S b0 b1 b2 b3 : Nat} {w : World} (h : Kept w0 S b0 b1 b2 b3 w) : Kept w0 S b0 b1 b2 b3 w.drew := h.next ((Below.refl _ w).drew)
/-- A cell of what lay at some time. -/
theorem cell_kept {w w' : World} {b o : Nat} {v : Value} (hc : w.cell? ⟨b, o, none⟩ = some v) (hb : Below w.heap.size w w') : w'.cell? ⟨b, o, none⟩ = some v :=
  (hb.cell (p := ⟨b, o, none⟩) (World.block_lt_of_cell? _ _ hc)).trans hc
theorem kept_new {w0 w1 : World} {b0 b1 b2 b3 : Nat} (hb : Below w0.heap.size w0 w1) (hT : Table w1 (tbl b0 b1 b2 b3)) (T : TypeId) :
    Kept w0 w1.heap.size b0 b1 b2 b3 (w1.alloc (.cells #[.slice (some ⟨b0, 0, none⟩) 74 74, .slice (some ⟨b1, 0, none⟩) 10 10, .slice (some ⟨b2, 0, none⟩) 11 11, .slice (some ⟨b3, 0, none⟩) 42 42] T)) :=
  ⟨hb.alloc hb.size _, held_new _ _ _ _ _ _, hT.below ((Below.refl _ _).alloc (Nat.le_refl _) _)⟩
theorem join_at {w0 : World} {S b0 b1 b2 b3 : Nat} {w : World} (h : Kept w0 S b0 b1 b2 b3 w) {x : Int} {v : Int} (hv : joinOf x = v) :
    Calls Try.prog 54 #[.agg #[.slice (some ⟨b0, 0, none⟩) 74 74, .slice (some ⟨b1, 0, none⟩) 10 10, .slice (some ⟨b2, 0, none⟩) 11 11, .slice (some ⟨b3, 0, none⟩) 42 42], .int .i32 x] w fun e w' => e = .returned (.int .i64 v) ∧ Hid (Kept w0 S b0 b1 b2 b3 w') ∧ Hid (Below w.heap.size w w') := by
  subst hv
  exact (join_any _ x w h.table).mono fun _ _ ⟨he, hb⟩ => ⟨he, h.next hb, hb⟩
theorem script_at {w0 : World} {S b0 b1 b2 b3 : Nat} {w : World} (h : Kept w0 S b0 b1 b2 b3 w) {x : Int} {v : Int} (hv : scriptOf x = v) :
    Calls Try.prog 48 #[.agg #[.slice (some ⟨b0, 0, none⟩) 74 74, .slice (some ⟨b1, 0, none⟩) 10 10, .slice (some ⟨b2, 0, none⟩) 11 11, .slice (some ⟨b3, 0, none⟩) 42 42], .int .i32 x] w fun e w' => e = .returned (.int .i64 v) ∧ Hid (Kept w0 S b0 b1 b2 b3 w') ∧ Hid (Below w.heap.size w w') := by
  subst hv
  exact (script_any _ x w h.table).mono fun _ _ ⟨he, hb⟩ => ⟨he, h.next hb, hb⟩
theorem class_at {w0 : World} {S b0 b1 b2 b3 : Nat} {w : World} (h : Kept w0 S b0 b1 b2 b3 w) {x : Int} {v : Int} (hv : clsOf x = v) :
    Calls Try.prog 16 #[.agg #[.slice (some ⟨b0, 0, none⟩) 74 74, .slice (some ⟨b1, 0, none⟩) 10 10, .slice (some ⟨b2, 0, none⟩) 11 11, .slice (some ⟨b3, 0, none⟩) 42 42], .int .i32 x] w fun e w' => e = .returned (.int .i64 v) ∧ Hid (Kept w0 S b0 b1 b2 b3 w') ∧ Hid (Below w.heap.size w w') := by
  subst hv
  exact (class_any _ x w h.table).mono fun _ _ ⟨he, hb⟩ => ⟨he, h.next hb, hb⟩
theorem split_0xff21 : splitOf 65313 = some ⟨65313, 65, 0, true, true⟩ := by kernel_rfl
theorem pair_A_308 : pairOf 65 776 = some 196 := by decide +kernel
theorem pair_c5_0 : pairOf 197 0 = none := by decide +kernel
end Go.Proofs.Ytoekkiodhbejpaa
