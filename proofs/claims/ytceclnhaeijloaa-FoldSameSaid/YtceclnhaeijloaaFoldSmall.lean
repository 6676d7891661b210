/-
  Proved here: the small case at the head of each law of layer 4 comes out true. Conditions: none.
-/
import Derived.Test.YtceclnhaeijloaaFold
import Derived.Test.YtceclnhaeijloaaNormLaw
namespace Go.Proofs.Ytceclnhaeijloaa
open Go.RowKit Utf
theorem fold_at {w0 : World} {S b0 b1 b2 b3 : Nat} {w : World} (h : Kept w0 S b0 b1 b2 b3 w) {s : ByteArray} {x : List UInt8} {ok : Bool} (hf : FoldIs s x ok) :
    Calls Try.prog 10 #[.agg #[.slice (some ⟨b0, 0, none⟩) 74 74, .slice (some ⟨b1, 0, none⟩) 10 10, .slice (some ⟨b2, 0, none⟩) 11 11, .slice (some ⟨b3, 0, none⟩) 42 42], .string s] w fun e w' => e = .returned (.tuple #[.string ⟨x.toArray⟩, .bool ok]) ∧ Hid (Kept w0 S b0 b1 b2 b3 w') ∧ Hid (Below w.heap.size w w') :=
  (hf _ w h.table).mono fun _ _ ⟨he, hb⟩ => ⟨he, h.next hb, hb⟩
theorem alike_at {w0 : World} {S b0 b1 b2 b3 : Nat} {w : World} (h : Kept w0 S b0 b1 b2 b3 w) {a b : ByteArray} {x y : List UInt8} {e f : Bool} (ha : FoldIs a x e) (hb : FoldIs b y f) {r : Bool} (hr : (e && f && (x == y)) = r) :
    Calls Try.prog 17 #[.agg #[.slice (some ⟨b0, 0, none⟩) 74 74, .slice (some ⟨b1, 0, none⟩) 10 10, .slice (some ⟨b2, 0, none⟩) 11 11, .slice (some ⟨b3, 0, none⟩) 42 42], .string a, .string b] w fun e w' => e = .returned (.bool r) ∧ Hid (Kept w0 S b0 b1 b2 b3 w') ∧ Hid (Below w.heap.size w w') :=
  (alike_any ha hb hr _ w h.table).mono fun _ _ ⟨he, hb⟩ => ⟨he, h.next hb, hb⟩
theorem folds1 : Folds (⟨#[239, 188, 161, 204, 136, 226, 132, 171, 66, 206, 145]⟩ : ByteArray) [65313, 776, 8491, 66, 913] := ⟨by decide +kernel, by decide +kernel, by decide +kernel, by decide +kernel⟩
theorem folded1 : encZ (Fold.fold (ints [65313, 776, 8491, 66, 913])) = [195, 164, 195, 165, 98, 206, 177] := by decide +kernel
theorem isF1 : FoldIs (⟨#[239, 188, 161, 204, 136, 226, 132, 171, 66, 206, 145]⟩ : ByteArray) [195, 164, 195, 165, 98, 206, 177] true := folded1 ▸ folds1.is
theorem isF2 : FoldIs (⟨#[195]⟩ : ByteArray) [] false := foldIs_no (by decide) (m := []) (k := 0) (by decide +kernel)
theorem folds3 : Folds (⟨#[226, 132, 170]⟩ : ByteArray) [8490] := ⟨by decide +kernel, by decide +kernel, by decide +kernel, by decide +kernel⟩
theorem folded3 : encZ (Fold.fold (ints [8490])) = [107] := by decide +kernel
theorem isF3 : FoldIs (⟨#[226, 132, 170]⟩ : ByteArray) [107] true := folded3 ▸ folds3.is
theorem folds4 : Folds (⟨#[107]⟩ : ByteArray) [107] := ⟨by decide +kernel, by decide +kernel, by decide +kernel, by decide +kernel⟩
theorem folded4 : encZ (Fold.fold (ints [107])) = [107] := by decide +kernel
theorem isF4 : FoldIs (⟨#[107]⟩ : ByteArray) [107] true := folded4 ▸ folds4.is
theorem folds5 : Folds (⟨#[97]⟩ : ByteArray) [97] := ⟨by decide +kernel, by decide +kernel, by decide +kernel, by decide +kernel⟩
theorem folded5 : encZ (Fold.fold (ints [97])) = [97] := by decide +kernel
theorem isF5 : FoldIs (⟨#[97]⟩ : ByteArray) [97] true := folded5 ▸ folds5.is
theorem folds6 : Folds (⟨#[98]⟩ : ByteArray) [98] := ⟨by decide +kernel, by decide +kernel, by decide +kernel, by decide +kernel⟩
theorem folded6 : encZ (Fold.fold (ints [98])) = [98] := by decide +kernel
theorem isF6 : FoldIs (⟨#[98]⟩ : ByteArray) [98] true := folded6 ▸ folds6.is
theorem isF7 : FoldIs (⟨#[255]⟩ : ByteArray) [] false := foldIs_no (by decide) (m := []) (k := 0) (by decide +kernel)
theorem narrow3 : [65374, 65375, 65].map Fold.narrow = [126, 65375, 65] := by decide +kernel
theorem lower3 : [65, 122, 66560].map lowOf = [97, 122, 66600] := by decide +kernel
theorem plain_lit : (⟨#[65, 195, 90, 91]⟩ : ByteArray).data.toList.map smallB = [97, 195, 122, 91] := by decide +kernel
/-- A row of three that a call made. -/
theorem three {base : Nat} {v : Value} {a b c : Int} {w : World} (h : OwnR base v [a, b, c] w) : ∃ g cap, v = .slice (some ⟨g, 0, none⟩) 3 cap ∧ g < w.heap.size ∧ w.cell? ⟨g, 0, none⟩ = some (.int .i32 a) ∧ w.cell? ⟨g, 1, none⟩ = some (.int .i32 b) ∧ w.cell? ⟨g, 2, none⟩ = some (.int .i32 c) := by
  obtain ⟨A, cap, rfl, hA⟩ := h.shape
  obtain ⟨g, rfl, -, hg⟩ := hA (by simp)
  exact ⟨g, cap, rfl, hg, h.cell 0 (by simp), h.cell 1 (by simp), h.cell 2 (by simp)⟩
set_option maxRecDepth 100000 in
set_option maxHeartbeats 8000000 in
theorem small4_any (w : World) : Calls Try.prog 8 #[] w fun e w' => e = .returned (.bool true) ∧ Below w.heap.size w w' := by
  have X1 := Lib.hid (fun t x W (hT : Table W t) (h : Runes x [65374, 65375, 65] W) => narrow3 ▸ width_any t x _ W hT h (by decide))
  have X2 := Lib.hid (fun t x W (hT : Table W t) (h : Runes x [65, 122, 66560] W) => lower3 ▸ lowers_any t x _ W hT h (by decide))
  have X3 := Lib.hid (fun W => plain_lit ▸ plain_any (⟨#[65, 195, 90, 91]⟩ : ByteArray) W (by decide))
  go_enter Try.func8, Try.ntmps8
  go_wp2_with fail
  refine (new_any _).mono ?_
  rintro e w1 ⟨tt, rfl, hT, hb1⟩
  have hT' := hT
  obtain ⟨b0, b1, b2, b3, rfl, -, -, -, -⟩ := hT'
  have K0 := Lib.hid (kept_new (b0 := b0) (b1 := b1) (b2 := b2) (b3 := b3) hb1 hT 29)
  clear hT hb1
  go_wp2_with fail
  refine (fold_at K0.out isF1).mono ?_
  rintro e w2 ⟨rfl, K1, L1⟩
  obtain ⟨hS, c0, c1, c2, c3⟩ := K1.out.held
  clear K0 L1
  go_wp2_with fail
  refine (fold_at K1.out isF2).mono ?_
  rintro e w3 ⟨rfl, K2, L2⟩
  obtain ⟨hS, c0, c1, c2, c3⟩ := K2.out.held
  clear K1 L2
  have R3 := Lib.hid (runes_lit_at w3 w3.heap.size rfl [65374, 65375, 65])
  have K3 := Lib.hid (K2.out.alloc (.cells ([65374, 65375, 65].map runeV).toArray 21))
  clear K2
  go_wp2_with fail
  refine (X1.out _ _ _ K3.out.table R3.out).mono ?_
  rintro e w4 ⟨v4, rfl, ho4, hb4⟩
  obtain ⟨g4, p4, rfl, hg4, x0, x1, -⟩ := three ho4
  have K4 := Lib.hid (K3.out.next hb4)
  obtain ⟨hS, c0, c1, c2, c3⟩ := K4.out.held
  clear ho4 hb4 K3 R3
  have R5 := Lib.hid (runes_lit_at w4 w4.heap.size rfl [65, 122, 66560])
  have B5 := Lib.hid (below_one w4 (.cells ([65, 122, 66560].map runeV).toArray 21))
  have K5 := Lib.hid (K4.out.alloc (.cells ([65, 122, 66560].map runeV).toArray 21))
  clear K4
  go_wp2_with fail
  refine (X2.out _ _ _ K5.out.table R5.out).mono ?_
  rintro e w5 ⟨v5, rfl, ho5, hb5⟩
  obtain ⟨g5, p5, rfl, hg5, y0, -, y2⟩ := three ho5
  have hb45 := below_then B5.out hb5
  have z0 := (hb45.cell (p := ⟨g4, 0, none⟩) hg4).trans x0
  have z1 := (hb45.cell (p := ⟨g4, 1, none⟩) hg4).trans x1
  have K6 := Lib.hid (K5.out.next hb5)
  obtain ⟨hS, c0, c1, c2, c3⟩ := K6.out.held
  clear ho5 hb5 K5 R5 hb45 B5 x0 x1
  go_wp2_with fail
  refine (X3.out _).mono ?_
  rintro e w6 ⟨rfl, hb6⟩
  have K7 := Lib.hid (K6.out.next hb6)
  obtain ⟨hS, c0, c1, c2, c3⟩ := K7.out.held
  clear K6 hb6
  go_wp2_with fail
  refine (alike_at K7.out isF3 isF4 rfl).mono ?_
  rintro e w7 ⟨rfl, K8, L8⟩
  obtain ⟨hS, c0, c1, c2, c3⟩ := K8.out.held
  clear K7 L8
  go_wp2_with fail
  refine (alike_at K8.out isF5 isF6 rfl).mono ?_
  rintro e w8 ⟨rfl, K9, L9⟩
  obtain ⟨hS, c0, c1, c2, c3⟩ := K9.out.held
  clear K8 L9
  go_wp2_with fail
  refine (alike_at K9.out isF7 isF7 rfl).mono ?_
  rintro e w9 ⟨rfl, K10, L10⟩
  clear K9 L10
  go_wp2
  go_ret
  exact ⟨rfl, K10.out.below⟩
end Go.Proofs.Ytceclnhaeijloaa
