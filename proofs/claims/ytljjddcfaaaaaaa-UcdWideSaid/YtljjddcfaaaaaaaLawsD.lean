/-
  Proved here: the statement UcdLower, as a call: it answers true at every number. Conditions: none.
-/
import Derived.Test.YtljjddcfaaaaaaaLawsC
namespace Go.Proofs.Ytljjddcfaaaaaaa
open Go.RowKit
theorem kept_cells {w0 : World} {S b0 b1 b2 b3 : Nat} {w : World} (h : Kept w0 S b0 b1 b2 b3 w) : w.cell? ⟨S, 0, none⟩ = some (.slice (some ⟨b0, 0, none⟩) 74 74) ∧ w.cell? ⟨S, 1, none⟩ = some (.slice (some ⟨b1, 0, none⟩) 10 10) ∧ w.cell? ⟨S, 2, none⟩ = some (.slice (some ⟨b2, 0, none⟩) 11 11) ∧ w.cell? ⟨S, 3, none⟩ = some (.slice (some ⟨b3, 0, none⟩) 42 42) ∧ Hid (Kept w0 S b0 b1 b2 b3 w) :=
  ⟨h.held.2.1, h.held.2.2.1, h.held.2.2.2.1, h.held.2.2.2.2, h⟩
theorem cat_held {w0 : World} {S b0 b1 b2 b3 : Nat} {w : World} (h : w.cell? ⟨S, 0, none⟩ = some (.slice (some ⟨b0, 0, none⟩) 74 74) ∧ w.cell? ⟨S, 1, none⟩ = some (.slice (some ⟨b1, 0, none⟩) 10 10) ∧ w.cell? ⟨S, 2, none⟩ = some (.slice (some ⟨b2, 0, none⟩) 11 11) ∧ w.cell? ⟨S, 3, none⟩ = some (.slice (some ⟨b3, 0, none⟩) 42 42) ∧ Hid (Kept w0 S b0 b1 b2 b3 w)) {x : Int} :
    Calls Try.prog 11 #[.agg #[.slice (some ⟨b0, 0, none⟩) 74 74, .slice (some ⟨b1, 0, none⟩) 10 10, .slice (some ⟨b2, 0, none⟩) 11 11, .slice (some ⟨b3, 0, none⟩) 42 42], .int .i32 x] w fun e w' => e = .returned (.int .i64 (catOf x)) ∧ w'.cell? ⟨S, 0, none⟩ = some (.slice (some ⟨b0, 0, none⟩) 74 74) ∧ w'.cell? ⟨S, 1, none⟩ = some (.slice (some ⟨b1, 0, none⟩) 10 10) ∧ w'.cell? ⟨S, 2, none⟩ = some (.slice (some ⟨b2, 0, none⟩) 11 11) ∧ w'.cell? ⟨S, 3, none⟩ = some (.slice (some ⟨b3, 0, none⟩) 42 42) ∧ Hid (Kept w0 S b0 b1 b2 b3 w') :=
  (cat_at h.2.2.2.2.out rfl).mono fun _ _ ⟨he, hk, _⟩ => ⟨he, kept_cells hk.out⟩
theorem bidi_held {w0 : World} {S b0 b1 b2 b3 : Nat} {w : World} (h : w.cell? ⟨S, 0, none⟩ = some (.slice (some ⟨b0, 0, none⟩) 74 74) ∧ w.cell? ⟨S, 1, none⟩ = some (.slice (some ⟨b1, 0, none⟩) 10 10) ∧ w.cell? ⟨S, 2, none⟩ = some (.slice (some ⟨b2, 0, none⟩) 11 11) ∧ w.cell? ⟨S, 3, none⟩ = some (.slice (some ⟨b3, 0, none⟩) 42 42) ∧ Hid (Kept w0 S b0 b1 b2 b3 w)) {x : Int} :
    Calls Try.prog 13 #[.agg #[.slice (some ⟨b0, 0, none⟩) 74 74, .slice (some ⟨b1, 0, none⟩) 10 10, .slice (some ⟨b2, 0, none⟩) 11 11, .slice (some ⟨b3, 0, none⟩) 42 42], .int .i32 x] w fun e w' => e = .returned (.int .i64 (bidiOf x)) ∧ w'.cell? ⟨S, 0, none⟩ = some (.slice (some ⟨b0, 0, none⟩) 74 74) ∧ w'.cell? ⟨S, 1, none⟩ = some (.slice (some ⟨b1, 0, none⟩) 10 10) ∧ w'.cell? ⟨S, 2, none⟩ = some (.slice (some ⟨b2, 0, none⟩) 11 11) ∧ w'.cell? ⟨S, 3, none⟩ = some (.slice (some ⟨b3, 0, none⟩) 42 42) ∧ Hid (Kept w0 S b0 b1 b2 b3 w') :=
  (bidi_at h.2.2.2.2.out rfl).mono fun _ _ ⟨he, hk, _⟩ => ⟨he, kept_cells hk.out⟩
theorem join_held {w0 : World} {S b0 b1 b2 b3 : Nat} {w : World} (h : w.cell? ⟨S, 0, none⟩ = some (.slice (some ⟨b0, 0, none⟩) 74 74) ∧ w.cell? ⟨S, 1, none⟩ = some (.slice (some ⟨b1, 0, none⟩) 10 10) ∧ w.cell? ⟨S, 2, none⟩ = some (.slice (some ⟨b2, 0, none⟩) 11 11) ∧ w.cell? ⟨S, 3, none⟩ = some (.slice (some ⟨b3, 0, none⟩) 42 42) ∧ Hid (Kept w0 S b0 b1 b2 b3 w)) {x : Int} :
    Calls Try.prog 15 #[.agg #[.slice (some ⟨b0, 0, none⟩) 74 74, .slice (some ⟨b1, 0, none⟩) 10 10, .slice (some ⟨b2, 0, none⟩) 11 11, .slice (some ⟨b3, 0, none⟩) 42 42], .int .i32 x] w fun e w' => e = .returned (.int .i64 (joinOf x)) ∧ w'.cell? ⟨S, 0, none⟩ = some (.slice (some ⟨b0, 0, none⟩) 74 74) ∧ w'.cell? ⟨S, 1, none⟩ = some (.slice (some ⟨b1, 0, none⟩) 10 10) ∧ w'.cell? ⟨S, 2, none⟩ = some (.slice (some ⟨b2, 0, none⟩) 11 11) ∧ w'.cell? ⟨S, 3, none⟩ = some (.slice (some ⟨b3, 0, none⟩) 42 42) ∧ Hid (Kept w0 S b0 b1 b2 b3 w') :=
  (join_at h.2.2.2.2.out rfl).mono fun _ _ ⟨he, hk, _⟩ => ⟨he, kept_cells hk.out⟩
theorem script_held {w0 : World} {S b0 b1 b2 b3 : Nat} {w : World} (h : w.cell? ⟨S, 0, none⟩ = some (.slice (some ⟨b0, 0, none⟩) 74 74) ∧ w.cell? ⟨S, 1, none⟩ = some (.slice (some ⟨b1, 0, none⟩) 10 10) ∧ w.cell? ⟨S, 2, none⟩ = some (.slice (some ⟨b2, 0, none⟩) 11 11) ∧ w.cell? ⟨S, 3, none⟩ = some (.slice (some ⟨b3, 0, none⟩) 42 42) ∧ Hid (Kept w0 S b0 b1 b2 b3 w)) {x : Int} :
    Calls Try.prog 17 #[.agg #[.slice (some ⟨b0, 0, none⟩) 74 74, .slice (some ⟨b1, 0, none⟩) 10 10, .slice (some ⟨b2, 0, none⟩) 11 11, .slice (some ⟨b3, 0, none⟩) 42 42], .int .i32 x] w fun e w' => e = .returned (.int .i64 (scriptOf x)) ∧ w'.cell? ⟨S, 0, none⟩ = some (.slice (some ⟨b0, 0, none⟩) 74 74) ∧ w'.cell? ⟨S, 1, none⟩ = some (.slice (some ⟨b1, 0, none⟩) 10 10) ∧ w'.cell? ⟨S, 2, none⟩ = some (.slice (some ⟨b2, 0, none⟩) 11 11) ∧ w'.cell? ⟨S, 3, none⟩ = some (.slice (some ⟨b3, 0, none⟩) 42 42) ∧ Hid (Kept w0 S b0 b1 b2 b3 w') :=
  (script_at h.2.2.2.2.out rfl).mono fun _ _ ⟨he, hk, _⟩ => ⟨he, kept_cells hk.out⟩
theorem class_held {w0 : World} {S b0 b1 b2 b3 : Nat} {w : World} (h : w.cell? ⟨S, 0, none⟩ = some (.slice (some ⟨b0, 0, none⟩) 74 74) ∧ w.cell? ⟨S, 1, none⟩ = some (.slice (some ⟨b1, 0, none⟩) 10 10) ∧ w.cell? ⟨S, 2, none⟩ = some (.slice (some ⟨b2, 0, none⟩) 11 11) ∧ w.cell? ⟨S, 3, none⟩ = some (.slice (some ⟨b3, 0, none⟩) 42 42) ∧ Hid (Kept w0 S b0 b1 b2 b3 w)) {x : Int} :
    Calls Try.prog 19 #[.agg #[.slice (some ⟨b0, 0, none⟩) 74 74, .slice (some ⟨b1, 0, none⟩) 10 10, .slice (some ⟨b2, 0, none⟩) 11 11, .slice (some ⟨b3, 0, none⟩) 42 42], .int .i32 x] w fun e w' => e = .returned (.int .i64 (clsOf x)) ∧ w'.cell? ⟨S, 0, none⟩ = some (.slice (some ⟨b0, 0, none⟩) 74 74) ∧ w'.cell? ⟨S, 1, none⟩ = some (.slice (some ⟨b1, 0, none⟩) 10 10) ∧ w'.cell? ⟨S, 2, none⟩ = some (.slice (some ⟨b2, 0, none⟩) 11 11) ∧ w'.cell? ⟨S, 3, none⟩ = some (.slice (some ⟨b3, 0, none⟩) 42 42) ∧ Hid (Kept w0 S b0 b1 b2 b3 w') :=
  (class_at h.2.2.2.2.out rfl).mono fun _ _ ⟨he, hk, _⟩ => ⟨he, kept_cells hk.out⟩
theorem lower_held {w0 : World} {S b0 b1 b2 b3 : Nat} {w : World} (h : w.cell? ⟨S, 0, none⟩ = some (.slice (some ⟨b0, 0, none⟩) 74 74) ∧ w.cell? ⟨S, 1, none⟩ = some (.slice (some ⟨b1, 0, none⟩) 10 10) ∧ w.cell? ⟨S, 2, none⟩ = some (.slice (some ⟨b2, 0, none⟩) 11 11) ∧ w.cell? ⟨S, 3, none⟩ = some (.slice (some ⟨b3, 0, none⟩) 42 42) ∧ Hid (Kept w0 S b0 b1 b2 b3 w)) {x : Int} :
    Calls Try.prog 21 #[.agg #[.slice (some ⟨b0, 0, none⟩) 74 74, .slice (some ⟨b1, 0, none⟩) 10 10, .slice (some ⟨b2, 0, none⟩) 11 11, .slice (some ⟨b3, 0, none⟩) 42 42], .int .i32 x] w fun e w' => e = .returned (.int .i32 (lowOf x)) ∧ w'.cell? ⟨S, 0, none⟩ = some (.slice (some ⟨b0, 0, none⟩) 74 74) ∧ w'.cell? ⟨S, 1, none⟩ = some (.slice (some ⟨b1, 0, none⟩) 10 10) ∧ w'.cell? ⟨S, 2, none⟩ = some (.slice (some ⟨b2, 0, none⟩) 11 11) ∧ w'.cell? ⟨S, 3, none⟩ = some (.slice (some ⟨b3, 0, none⟩) 42 42) ∧ Hid (Kept w0 S b0 b1 b2 b3 w') :=
  (lower_at h.2.2.2.2.out rfl).mono fun _ _ ⟨he, hk, _⟩ => ⟨he, kept_cells hk.out⟩
set_option maxRecDepth 100000 in
set_option maxHeartbeats 8000000 in
theorem lower_same (x : Int) (w : World) (hl : lowOf x = x) : Calls Try.prog 6 #[.int .i32 x] w fun e w' => e = .returned (.bool true) ∧ Below w.heap.size w w' := by
  have HL := Lib.hid hl
  clear hl
  go_enter Try.func6, Try.ntmps6
  go_wp2_with fail
  refine (small_any _).mono ?_
  rintro e ws ⟨rfl, hbs⟩
  have HBS := Lib.hid hbs
  clear hbs
  go_wp2_with fail
  refine (new_any _).mono ?_
  rintro e w1 ⟨tt, rfl, hT, hb1⟩
  have hT' := hT
  obtain ⟨b0, b1, b2, b3, rfl, -, -, -, -⟩ := hT'
  have K1 := Lib.hid (kept_new (w0 := w) (b0 := b0) (b1 := b1) (b2 := b2) (b3 := b3) (HBS.out.trans (hb1.mono HBS.out.size)) hT 28)
  clear hT hb1 HBS
  go_wp2_with fail
  refine (lower_at K1.out HL.out).mono ?_
  rintro e w2 ⟨rfl, K2, L2⟩
  obtain ⟨hS, c0, c1, c2, c3⟩ := K2.out.held
  clear K1 L2
  go_wp2_with fail
  refine (lower_at K2.out HL.out).mono ?_
  rintro e w3 ⟨rfl, K3, L3⟩
  obtain ⟨hS, c0, c1, c2, c3⟩ := K3.out.held
  clear K2 L3
  go_wp2
  go_quiet (fail)
  go_wp2
  go_ret
  exact ⟨rfl, below_drewN K3.out.below _⟩
set_option maxRecDepth 100000 in
set_option maxHeartbeats 8000000 in
theorem lower_other (x l bd sc : Int) (w : World) (hl : lowOf x = l) (hll : lowOf l = l) (hne : l ≠ x) (c1 : catOf x = 1) (c2 : catOf l = 2) (b1 : bidiOf l = bd) (b2 : bidiOf x = bd) (cl : clsOf l = 0) (s1 : scriptOf l = sc) (s2 : scriptOf x = sc) :
    Calls Try.prog 6 #[.int .i32 x] w fun e w' => e = .returned (.bool true) ∧ Below w.heap.size w w' := by
  have HL := Lib.hid hl
  have HLL := Lib.hid hll
  have C1 := Lib.hid c1
  have C2 := Lib.hid c2
  have n1 : (l != x) = true := by simpa using hne
  have n2 : (l == x) = false := by simpa using hne
  have BD := Lib.hid (And.intro b1 b2)
  have CL := Lib.hid cl
  have SC := Lib.hid (And.intro s1 s2)
  have e1 : (bidiOf l == bidiOf x) = true := by rw [b1, b2]; simp
  have e2 : (clsOf l == 0) = true := by rw [cl]; rfl
  have e3 : (scriptOf l == scriptOf x) = true := by rw [s1, s2]; simp
  clear hl hll c1 c2 b1 b2 cl s1 s2 hne
  go_enter Try.func6, Try.ntmps6
  go_wp2_with fail
  refine (small_any _).mono ?_
  rintro e ws ⟨rfl, hbs⟩
  have HBS := Lib.hid hbs
  clear hbs
  go_wp2_with fail
  refine (new_any _).mono ?_
  rintro e w1 ⟨tt, rfl, hT, hb1⟩
  have hT' := hT
  obtain ⟨b0, b1, b2, b3, rfl, -, -, -, -⟩ := hT'
  have K1 := Lib.hid (kept_new (w0 := w) (b0 := b0) (b1 := b1) (b2 := b2) (b3 := b3) (HBS.out.trans (hb1.mono HBS.out.size)) hT 28)
  clear hT hb1 HBS
  go_wp2_with fail
  refine (lower_at K1.out HL.out).mono ?_
  rintro e w2 ⟨rfl, K2, L2⟩
  obtain ⟨hS, c0, c1, c2, c3⟩ := K2.out.held
  clear K1 L2
  go_wp2_with fail
  refine (lower_at K2.out HLL.out).mono ?_
  rintro e w3 ⟨rfl, K3, L3⟩
  obtain ⟨hS, c0, c1, c2, c3⟩ := K3.out.held
  clear K2 L3
  go_wp2_with fail
  refine (cat_at K3.out C1.out).mono ?_
  rintro e w4 ⟨rfl, K4, L4⟩
  obtain ⟨hS, c0, c1, c2, c3⟩ := K4.out.held
  clear K3 L4
  go_wp2_with fail
  refine (cat_at K4.out C2.out).mono ?_
  rintro e w5 ⟨rfl, K5, L5⟩
  obtain ⟨hS, c0, c1, c2, c3⟩ := K5.out.held
  clear K4 L5
  go_wp2_with fail
  go_region_held3 (fun w' => w'.cell? ⟨w1.heap.size, 0, none⟩ = some (.slice (some ⟨b0, 0, none⟩) 74 74) ∧ w'.cell? ⟨w1.heap.size, 1, none⟩ = some (.slice (some ⟨b1, 0, none⟩) 10 10) ∧ w'.cell? ⟨w1.heap.size, 2, none⟩ = some (.slice (some ⟨b2, 0, none⟩) 11 11) ∧ w'.cell? ⟨w1.heap.size, 3, none⟩ = some (.slice (some ⟨b3, 0, none⟩) 42 42) ∧ Hid (Kept w w1.heap.size b0 b1 b2 b3 w'))
    (first | exact kept_cells K5.out.drew | assumption)
    (first
      | (go_at_call 13; refine (bidi_held (by assumption)).mono ?_; rintro e w' ⟨rfl, K⟩)
      | (go_at_call 19; refine (class_held (by assumption)).mono ?_; rintro e w' ⟨rfl, K⟩)
      | (go_at_call 17; refine (script_held (by assumption)).mono ?_; rintro e w' ⟨rfl, K⟩))
  all_goals
    go_wp2
    go_ret
    exact ⟨rfl, K.2.2.2.2.out.below⟩
theorem lower_walk (x : Int) (w : World) : Calls Try.prog 6 #[.int .i32 x] w fun e w' => e = .returned (.bool true) ∧ Below w.heap.size w w' := by
  by_cases h : lowOf x = x
  · exact lower_same x w h
  · have hk := (low_cases x).resolve_left h
    unfold lowOk at hk
    obtain ⟨h1, h2, h3, h4, h5, h6⟩ := of_decide_eq_true hk
    exact lower_other x (lowOf x) (bidiOf x) (scriptOf x) w rfl h1 h h2 h3 h4 rfl h5 h6 rfl
end Go.Proofs.Ytljjddcfaaaaaaa
