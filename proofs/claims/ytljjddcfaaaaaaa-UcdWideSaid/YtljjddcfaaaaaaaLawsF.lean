/-
  Proved here: the statement UcdWide, as a call: it answers true at every number. Conditions: none.
-/
import Derived.Test.YtljjddcfaaaaaaaLawsD
import Derived.Deep.DeepCutAuto
namespace Go.Proofs.Ytljjddcfaaaaaaa
open Go.RowKit
def WideCut (w0 : World) (S1 S2 b0 b1 b2 b3 : Nat) (x u0 u1 u2 : Int) (u3 u4 : Bool) (s7 s8 : Value) (wx : World) : Prop :=
  ∃ g : Nat, s7 = .pointer (some ⟨g, 0, none⟩) ∧ s8 = .bool true ∧ Hid (Kept w0 S1 b0 b1 b2 b3 wx) ∧ Hid (Row5 S2 x (x - 65248) 0 true true wx) ∧ Hid (Row5 g u0 u1 u2 u3 u4 wx)
theorem wide_last {w0 : World} {S1 S2 b0 b1 b2 b3 : Nat} {x u0 u1 u2 : Int} {u3 u4 : Bool} {W w2 : World} {T : TypeId} (hK : Kept w0 S1 b0 b1 b2 b3 W) (hR : Row5 S2 x (x - 65248) 0 true true W) (hb : Below W.heap.size W w2) :
    WideCut w0 S1 S2 b0 b1 b2 b3 x u0 u1 u2 u3 u4 (.pointer (some ⟨w2.heap.size, 0, none⟩)) (.bool true) (w2.alloc (.cells #[.int .i32 u0, .int .i32 u1, .int .i32 u2, .bool u3, .bool u4] T)) :=
  ⟨_, rfl, rfl, hK.next (hb.alloc hb.size _), hR.below (hb.alloc hb.size _), row5_new _ _ _ _ _ _ _⟩
theorem row5_set {S : Nat} {w : World} (h : Row5 S 0 0 0 false false w) (u0 u1 u2 : Int) (u3 u4 : Bool) :
    Row5 S u0 u1 u2 u3 u4 (((((w.setCell ⟨S, 0, none⟩ (.int .i32 u0)).setCell ⟨S, 1, none⟩ (.int .i32 u1)).setCell ⟨S, 2, none⟩ (.int .i32 u2)).setCell ⟨S, 3, none⟩ (.bool u3)).setCell ⟨S, 4, none⟩ (.bool u4)) := by
  obtain ⟨h0, c0, c1, c2, c3, c4⟩ := h
  exact ⟨by simpa [World.setCell] using h0, by go_simp, by go_simp, by go_simp, by go_simp, by go_simp⟩
theorem wide_set {w0 : World} {S1 S2 S b0 b1 b2 b3 : Nat} {x u0 u1 u2 : Int} {u3 u4 : Bool} {W w2 : World} (hK : Kept w0 S1 b0 b1 b2 b3 W) (hR : Row5 S2 x (x - 65248) 0 true true W) (hb : Below W.heap.size W w2) (hS : W.heap.size ≤ S) (h0 : Row5 S 0 0 0 false false w2) :
    WideCut w0 S1 S2 b0 b1 b2 b3 x u0 u1 u2 u3 u4 (.pointer (some ⟨S, 0, none⟩)) (.bool true) (((((w2.setCell ⟨S, 0, none⟩ (.int .i32 u0)).setCell ⟨S, 1, none⟩ (.int .i32 u1)).setCell ⟨S, 2, none⟩ (.int .i32 u2)).setCell ⟨S, 3, none⟩ (.bool u3)).setCell ⟨S, 4, none⟩ (.bool u4)) :=
  ⟨_, rfl, rfl, hK.next (belowSp hb hS _ _ _ _ _), hR.below (belowSp hb hS _ _ _ _ _), row5_set h0 _ _ _ _ _⟩
theorem row5_second (w : World) (a : Obj) {w' : World} {T : TypeId} (h : Below ((w.alloc a).alloc (.cells #[.int .i32 0, .int .i32 0, .int .i32 0, .bool false, .bool false] T)).heap.size ((w.alloc a).alloc (.cells #[.int .i32 0, .int .i32 0, .int .i32 0, .bool false, .bool false] T)) w') : Row5 (w.heap.size + 1) 0 0 0 false false w' := by
  have := (row5_new (w.alloc a) 0 0 0 false false T).below h
  rwa [World.size_alloc] at this
theorem below_alloc {w w' : World} {o : Obj} (h : Below (w.alloc o).heap.size (w.alloc o) w') : Below w.heap.size w w' := (below_one w o).trans (h.mono (by simp))
theorem below_alloc_drew {w w' : World} {o : Obj} (h : Below (w.alloc o).drew.heap.size (w.alloc o).drew w') : Below w.heap.size w w' := below_alloc (below_of_drew h)
theorem bcell {W w1 : World} (hb : Below W.heap.size W w1) : (∀ b o, b < W.heap.size → w1.cell? ⟨b, o, none⟩ = W.cell? ⟨b, o, none⟩) ∧ (∀ b o, b < W.heap.size → w1.frozen? ⟨b, o, none⟩ = W.frozen? ⟨b, o, none⟩) :=
  ⟨fun b o h => hb.cell (p := ⟨b, o, none⟩) h, fun b o h => hb.frozen (p := ⟨b, o, none⟩) h⟩
theorem wide_cells {w0 : World} {S1 S2 g b0 b1 b2 b3 : Nat} {x u0 u1 u2 : Int} {u3 u4 : Bool} {w : World} (hK : Kept w0 S1 b0 b1 b2 b3 w) (hR : Row5 S2 x (x - 65248) 0 true true w) (hQ : Row5 g u0 u1 u2 u3 u4 w) :
    w.cell? ⟨S1, 0, none⟩ = some (.slice (some ⟨b0, 0, none⟩) 74 74) ∧ w.cell? ⟨S1, 1, none⟩ = some (.slice (some ⟨b1, 0, none⟩) 10 10) ∧ w.cell? ⟨S1, 2, none⟩ = some (.slice (some ⟨b2, 0, none⟩) 11 11) ∧ w.cell? ⟨S1, 3, none⟩ = some (.slice (some ⟨b3, 0, none⟩) 42 42) ∧ w.cell? ⟨S2, 1, none⟩ = some (.int .i32 (x - 65248)) ∧ w.cell? ⟨S2, 2, none⟩ = some (.int .i32 0) ∧ w.cell? ⟨S2, 3, none⟩ = some (.bool true) ∧ w.cell? ⟨S2, 4, none⟩ = some (.bool true) ∧ w.cell? ⟨g, 1, none⟩ = some (.int .i32 u1) ∧ Hid (Kept w0 S1 b0 b1 b2 b3 w ∧ Row5 S2 x (x - 65248) 0 true true w ∧ Row5 g u0 u1 u2 u3 u4 w) :=
  ⟨hK.held.2.1, hK.held.2.2.1, hK.held.2.2.2.1, hK.held.2.2.2.2, hR.2.2.1, hR.2.2.2.1, hR.2.2.2.2.1, hR.2.2.2.2.2, hQ.2.2.1, Lib.hid ⟨hK, hR, hQ⟩⟩
theorem lower_wide {w0 : World} {S1 S2 g b0 b1 b2 b3 : Nat} {x u0 u1 u2 y : Int} {u3 u4 : Bool} {w : World} (h : w.cell? ⟨S1, 0, none⟩ = some (.slice (some ⟨b0, 0, none⟩) 74 74) ∧ w.cell? ⟨S1, 1, none⟩ = some (.slice (some ⟨b1, 0, none⟩) 10 10) ∧ w.cell? ⟨S1, 2, none⟩ = some (.slice (some ⟨b2, 0, none⟩) 11 11) ∧ w.cell? ⟨S1, 3, none⟩ = some (.slice (some ⟨b3, 0, none⟩) 42 42) ∧ w.cell? ⟨S2, 1, none⟩ = some (.int .i32 (x - 65248)) ∧ w.cell? ⟨S2, 2, none⟩ = some (.int .i32 0) ∧ w.cell? ⟨S2, 3, none⟩ = some (.bool true) ∧ w.cell? ⟨S2, 4, none⟩ = some (.bool true) ∧ w.cell? ⟨g, 1, none⟩ = some (.int .i32 u1) ∧ Hid (Kept w0 S1 b0 b1 b2 b3 w ∧ Row5 S2 x (x - 65248) 0 true true w ∧ Row5 g u0 u1 u2 u3 u4 w)) :
    Calls Try.prog 21 #[.agg #[.slice (some ⟨b0, 0, none⟩) 74 74, .slice (some ⟨b1, 0, none⟩) 10 10, .slice (some ⟨b2, 0, none⟩) 11 11, .slice (some ⟨b3, 0, none⟩) 42 42], .int .i32 y] w fun e w' => e = .returned (.int .i32 (lowOf y)) ∧ w'.cell? ⟨S1, 0, none⟩ = some (.slice (some ⟨b0, 0, none⟩) 74 74) ∧ w'.cell? ⟨S1, 1, none⟩ = some (.slice (some ⟨b1, 0, none⟩) 10 10) ∧ w'.cell? ⟨S1, 2, none⟩ = some (.slice (some ⟨b2, 0, none⟩) 11 11) ∧ w'.cell? ⟨S1, 3, none⟩ = some (.slice (some ⟨b3, 0, none⟩) 42 42) ∧ w'.cell? ⟨S2, 1, none⟩ = some (.int .i32 (x - 65248)) ∧ w'.cell? ⟨S2, 2, none⟩ = some (.int .i32 0) ∧ w'.cell? ⟨S2, 3, none⟩ = some (.bool true) ∧ w'.cell? ⟨S2, 4, none⟩ = some (.bool true) ∧ w'.cell? ⟨g, 1, none⟩ = some (.int .i32 u1) ∧ Hid (Kept w0 S1 b0 b1 b2 b3 w' ∧ Row5 S2 x (x - 65248) 0 true true w' ∧ Row5 g u0 u1 u2 u3 u4 w') := by
  obtain ⟨-, -, -, -, -, -, -, -, -, hh⟩ := h
  obtain ⟨hK, hR, hQ⟩ := hh.out
  exact (lower_at hK rfl).mono fun _ _ ⟨he, k2, l2⟩ => ⟨he, wide_cells k2.out (hR.below l2.out) (hQ.below l2.out)⟩
set_option maxRecDepth 100000 in
set_option maxHeartbeats 8000000 in
theorem wide_low_none (x : Int) (h : x < 65281) (hs : splitOf x = none) (w : World) : Calls Try.prog 8 #[.int .i32 x] w fun e w' => e = .returned (.bool true) ∧ Below w.heap.size w w' := by
  have h1 : decide (x < 65281) = true := by simpa using h
  have HS := Lib.hid hs
  clear hs
  go_enter Try.func8, Try.ntmps8
  go_wp2_with fail
  refine (small_any _).mono ?_
  rintro e ws ⟨rfl, hbs⟩
  have HBS := Lib.hid hbs
  clear hbs
  go_wp2_with fail
  refine (new_any _).mono ?_
  rintro e w1 ⟨tt, rfl, hT, hb1⟩
  have hT' := hT
  obtain ⟨b0, b1, b2, b3, rfl, -, -, -, -⟩ := hT'
  have K1 := Lib.hid (kept_new (w0 := w) (b0 := b0) (b1 := b1) (b2 := b2) (b3 := b3) (HBS.out.trans (hb1.mono HBS.out.size)) hT 28)
  clear hT hb1 HBS
  go_wp2_with fail
  refine (split_at' K1.out HS.out rfl rfl).mono ?_
  rintro e w2 ⟨rfl, K2, L2⟩
  obtain ⟨hS, c0, c1, c2, c3⟩ := K2.out.held
  clear K1 L2
  go_wp2
  go_ret
  exact ⟨rfl, K2.out.below.alloc K2.out.below.size _⟩
set_option maxRecDepth 100000 in
set_option maxHeartbeats 8000000 in
theorem wide_low_some (x : Int) (h : x < 65281) (v0 v1 v2 : Int) (v3 v4 : Bool) (hs : splitOf x = some ⟨v0, v1, v2, v3, v4⟩) (hne : v1 ≠ x) (w : World) : Calls Try.prog 8 #[.int .i32 x] w fun e w' => e = .returned (.bool true) ∧ Below w.heap.size w w' := by
  have h1 : decide (x < 65281) = true := by simpa using h
  have HS := Lib.hid hs
  clear hs
  have n1 : (v1 != x) = true := by simpa using hne
  clear hne
  go_enter Try.func8, Try.ntmps8
  go_wp2_with fail
  refine (small_any _).mono ?_
  rintro e ws ⟨rfl, hbs⟩
  have HBS := Lib.hid hbs
  clear hbs
  go_wp2_with fail
  refine (new_any _).mono ?_
  rintro e w1 ⟨tt, rfl, hT, hb1⟩
  have hT' := hT
  obtain ⟨b0, b1, b2, b3, rfl, -, -, -, -⟩ := hT'
  have K1 := Lib.hid (kept_new (w0 := w) (b0 := b0) (b1 := b1) (b2 := b2) (b3 := b3) (HBS.out.trans (hb1.mono HBS.out.size)) hT 28)
  clear hT hb1 HBS
  go_wp2_with fail
  refine (split_at' K1.out HS.out rfl rfl).mono ?_
  rintro e w2 ⟨rfl, K2, L2⟩
  obtain ⟨hS, c0, c1, c2, c3⟩ := K2.out.held
  clear K1 L2
  go_wp2
  go_ret
  exact ⟨rfl, K2.out.below.alloc K2.out.below.size _⟩
set_option maxRecDepth 100000 in
set_option maxHeartbeats 8000000 in
theorem wide_high_none (x : Int) (h : 65374 < x) (hs : splitOf x = none) (w : World) : Calls Try.prog 8 #[.int .i32 x] w fun e w' => e = .returned (.bool true) ∧ Below w.heap.size w w' := by
  have h1 : decide (x < 65281) = false := by simp; omega
  have h2 : decide (65374 < x) = true := by simpa using h
  have HS := Lib.hid hs
  clear hs
  go_enter Try.func8, Try.ntmps8
  go_wp2_with fail
  refine (small_any _).mono ?_
  rintro e ws ⟨rfl, hbs⟩
  have HBS := Lib.hid hbs
  clear hbs
  go_wp2_with fail
  refine (new_any _).mono ?_
  rintro e w1 ⟨tt, rfl, hT, hb1⟩
  have hT' := hT
  obtain ⟨b0, b1, b2, b3, rfl, -, -, -, -⟩ := hT'
  have K1 := Lib.hid (kept_new (w0 := w) (b0 := b0) (b1 := b1) (b2 := b2) (b3 := b3) (HBS.out.trans (hb1.mono HBS.out.size)) hT 28)
  clear hT hb1 HBS
  go_wp2_with fail
  refine (split_at' K1.out HS.out rfl rfl).mono ?_
  rintro e w2 ⟨rfl, K2, L2⟩
  obtain ⟨hS, c0, c1, c2, c3⟩ := K2.out.held
  clear K1 L2
  go_wp2
  go_ret
  exact ⟨rfl, K2.out.below.alloc K2.out.below.size _⟩
set_option maxRecDepth 100000 in
set_option maxHeartbeats 8000000 in
theorem wide_high_some (x : Int) (h : 65374 < x) (v0 v1 v2 : Int) (v3 v4 : Bool) (hs : splitOf x = some ⟨v0, v1, v2, v3, v4⟩) (hne : v1 ≠ x) (w : World) : Calls Try.prog 8 #[.int .i32 x] w fun e w' => e = .returned (.bool true) ∧ Below w.heap.size w w' := by
  have h1 : decide (x < 65281) = false := by simp; omega
  have h2 : decide (65374 < x) = true := by simpa using h
  have HS := Lib.hid hs
  clear hs
  have n1 : (v1 != x) = true := by simpa using hne
  clear hne
  go_enter Try.func8, Try.ntmps8
  go_wp2_with fail
  refine (small_any _).mono ?_
  rintro e ws ⟨rfl, hbs⟩
  have HBS := Lib.hid hbs
  clear hbs
  go_wp2_with fail
  refine (new_any _).mono ?_
  rintro e w1 ⟨tt, rfl, hT, hb1⟩
  have hT' := hT
  obtain ⟨b0, b1, b2, b3, rfl, -, -, -, -⟩ := hT'
  have K1 := Lib.hid (kept_new (w0 := w) (b0 := b0) (b1 := b1) (b2 := b2) (b3 := b3) (HBS.out.trans (hb1.mono HBS.out.size)) hT 28)
  clear hT hb1 HBS
  go_wp2_with fail
  refine (split_at' K1.out HS.out rfl rfl).mono ?_
  rintro e w2 ⟨rfl, K2, L2⟩
  obtain ⟨hS, c0, c1, c2, c3⟩ := K2.out.held
  clear K1 L2
  go_wp2
  go_ret
  exact ⟨rfl, K2.out.below.alloc K2.out.below.size _⟩
set_option maxRecDepth 100000 in
set_option maxHeartbeats 8000000 in
theorem wide_in (x : Int) (h1 : 65281 ≤ x) (h2 : x ≤ 65374) (l u0 u1 u2 : Int) (u3 u4 : Bool) (hs : splitOf x = some ⟨x, x - 65248, 0, true, true⟩) (hl : lowOf x = l) (hu : splitOf l = some ⟨u0, u1, u2, u3, u4⟩) (he : u1 = lowOf (x - 65248)) (w : World) : Calls Try.prog 8 #[.int .i32 x] w fun e w' => e = .returned (.bool true) ∧ Below w.heap.size w w' := by
  have g1 : decide (x < 65281) = false := by simp; omega
  have g2 : decide (65374 < x) = false := by simp; omega
  have g3 : decide (33 ≤ x - 65248) = true := by simp; omega
  have g4 : decide (x - 65248 ≤ 126) = true := by simp; omega
  have g5 : (u1 == lowOf (x - 65248)) = true := by simpa using he
  have HS := Lib.hid hs
  have HL := Lib.hid hl
  have HU := Lib.hid hu
  clear hs hl hu he
  go_enter Try.func8, Try.ntmps8
  go_wp2_with fail
  refine (small_any _).mono ?_
  rintro e ws ⟨rfl, hbs⟩
  have HBS := Lib.hid hbs
  clear hbs
  go_wp2_with fail
  refine (new_any _).mono ?_
  rintro e w1 ⟨tt, rfl, hT, hb1⟩
  have hT' := hT
  obtain ⟨b0, b1, b2, b3, rfl, -, -, -, -⟩ := hT'
  have K1 := Lib.hid (kept_new (w0 := w) (b0 := b0) (b1 := b1) (b2 := b2) (b3 := b3) (HBS.out.trans (hb1.mono HBS.out.size)) hT 28)
  clear hT hb1 HBS
  go_wp2_with fail
  refine (split_at' K1.out HS.out rfl rfl).mono ?_
  rintro e w2 ⟨rfl, K2, L2⟩
  obtain ⟨hS, c0, c1, c2, c3⟩ := K2.out.held
  have M2 := Lib.hid (K2.out.alloc (.cells #[.int .i32 x, .int .i32 (x - 65248), .int .i32 0, .bool true, .bool true] 34))
  have R2 := Lib.hid (row5_new w2 x (x - 65248) 0 true true 34)
  clear K1 L2 K2
  have hM := kept_cells M2.out
  have hlt : w1.heap.size < w2.heap.size := by have := M2.out.held.1; have h2 := hS; simp at this; omega
  go_upto_region 6 with (fail)
  go_cut [7, 8] (fun s7 s8 wx => WideCut w w1.heap.size w2.heap.size b0 b1 b2 b3 x u0 u1 u2 u3 u4 s7 s8 wx)
  case first =>
    first | (go_region_with
      (first
        | (go_at_call 21; refine (lower_at (by first | exact M2.out.drew | exact M2.out.drew.alloc _ | exact (M2.out.alloc _).drew) HL.out).mono ?_; rintro e w' ⟨rfl, K, L⟩; obtain ⟨hS', x0, x1, x2, x3⟩ := K.out.held; obtain ⟨bc, bf⟩ := bcell L.out; have hz := L.out.size; have hz0 : w2.heap.size < w'.heap.size := (by first | omega | (simp at hz; omega)); (try have hz1 : w2.heap.size + 1 < w'.heap.size := (by first | omega | (simp at hz; omega))); clear hz; have B1 := Lib.hid (show Below (w2.alloc (.cells #[.int .i32 x, .int .i32 (x - 65248), .int .i32 0, .bool true, .bool true] 34)).heap.size (w2.alloc (.cells #[.int .i32 x, .int .i32 (x - 65248), .int .i32 0, .bool true, .bool true] 34)) w' from (by first | exact below_of_drew L.out | exact below_alloc_drew L.out)))
        | (go_at_call 25; refine (split_at' (by first | exact K.out | exact K.out.alloc _) HU.out rfl rfl).mono ?_; rintro e w'' ⟨rfl, K', L'⟩; obtain ⟨bc', bf'⟩ := bcell L'.out; have hz := L'.out.size; have hz2 : w2.heap.size < w''.heap.size := (by first | omega | (simp at hz; omega)); (try have hz3 : w2.heap.size + 1 < w''.heap.size := (by first | omega | (simp at hz; omega))); (try have hz4 : w'.heap.size < w''.heap.size := (by first | omega | (simp at hz; omega))); clear hz; have B2 := Lib.hid (show Below w'.heap.size w' w'' from (by first | exact L'.out | exact below_alloc L'.out))))) | fail
    all_goals go_wp2_with fail
    all_goals go_meet
    all_goals
      have base := B1.out.trans (B2.out.mono B1.out.size)
      first
        | (with_reducible exact wide_last (W := w2.alloc (.cells #[.int .i32 x, .int .i32 (x - 65248), .int .i32 0, .bool true, .bool true] 34)) M2.out R2.out base)
        | ((with_reducible refine wide_set (S := w'.heap.size) (W := w2.alloc (.cells #[.int .i32 x, .int .i32 (x - 65248), .int .i32 0, .bool true, .bool true] 34)) M2.out R2.out base ?_ ?_)
           · exact B1.out.size
           · exact (row5_new w' 0 0 0 false false 34).below L'.out)
        | ((with_reducible refine wide_set (S := w2.heap.size + 1) (W := w2.alloc (.cells #[.int .i32 x, .int .i32 (x - 65248), .int .i32 0, .bool true, .bool true] 34)) M2.out R2.out base ?_ ?_)
           · simp
           · exact (row5_second w2 _ (below_of_drew L.out)).below B2.out)
  case rest =>
    obtain ⟨g, rfl, rfl, K, R, Q⟩ := hcut
    have HD := Lib.hid (show _ from wide_cells K.out.drew (R.out.below (Below.refl _ wc).drew) (Q.out.below (Below.refl _ wc).drew))
    obtain ⟨hS, c0, c1, c2, c3⟩ := K.out.held
    clear M2 R2 hM hlt
    go_wp2_with fail
    go_region_held3 (fun w' => w'.cell? ⟨w1.heap.size, 0, none⟩ = some (.slice (some ⟨b0, 0, none⟩) 74 74) ∧ w'.cell? ⟨w1.heap.size, 1, none⟩ = some (.slice (some ⟨b1, 0, none⟩) 10 10) ∧ w'.cell? ⟨w1.heap.size, 2, none⟩ = some (.slice (some ⟨b2, 0, none⟩) 11 11) ∧ w'.cell? ⟨w1.heap.size, 3, none⟩ = some (.slice (some ⟨b3, 0, none⟩) 42 42) ∧ w'.cell? ⟨w2.heap.size, 1, none⟩ = some (.int .i32 (x - 65248)) ∧ w'.cell? ⟨w2.heap.size, 2, none⟩ = some (.int .i32 0) ∧ w'.cell? ⟨w2.heap.size, 3, none⟩ = some (.bool true) ∧ w'.cell? ⟨w2.heap.size, 4, none⟩ = some (.bool true) ∧ w'.cell? ⟨g, 1, none⟩ = some (.int .i32 u1) ∧ Hid (Kept w w1.heap.size b0 b1 b2 b3 w' ∧ Row5 w2.heap.size x (x - 65248) 0 true true w' ∧ Row5 g u0 u1 u2 u3 u4 w'))
      (first | exact HD.out | assumption)
      (first
        | (go_at_call 21; refine (lower_wide (by assumption)).mono ?_; rintro e w3 ⟨rfl, K3⟩))
    all_goals
      go_wp2
      go_ret
      exact ⟨rfl, K3.2.2.2.2.2.2.2.2.2.out.1.below⟩
theorem wide_walk (x : Int) (w : World) : Calls Try.prog 8 #[.int .i32 x] w fun e w' => e = .returned (.bool true) ∧ Below w.heap.size w w' := by
  by_cases h1 : x < 65281
  · cases hs : splitOf x with
    | none => exact wide_low_none x h1 hs w
    | some y =>
      have hn := narrow_apart hs
      obtain ⟨v0, v1, v2, v3, v4⟩ := y
      exact wide_low_some x h1 v0 v1 v2 v3 v4 hs hn w
  · by_cases h2 : 65374 < x
    · cases hs : splitOf x with
      | none => exact wide_high_none x h2 hs w
      | some y =>
        have hn := narrow_apart hs
        obtain ⟨v0, v1, v2, v3, v4⟩ := y
        exact wide_high_some x h2 v0 v1 v2 v3 v4 hs hn w
    · obtain ⟨y, hu, he⟩ := wide_low (x := x) (by omega) (by omega)
      obtain ⟨u0, u1, u2, u3, u4⟩ := y
      exact wide_in x (by omega) (by omega) (lowOf x) u0 u1 u2 u3 u4 (wide_not x (by simp [wideOf]; omega)) rfl hu he w
end Go.Proofs.Ytljjddcfaaaaaaa
