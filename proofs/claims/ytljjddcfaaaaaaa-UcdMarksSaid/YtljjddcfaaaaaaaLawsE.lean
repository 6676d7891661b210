/-
  Proved here: the statement UcdMarks, as a call: it answers true at every number. Conditions: none.
-/
import Derived.Test.YtljjddcfaaaaaaaLawsD
import Derived.Deep.DeepCutAuto
namespace Go.Proofs.Ytljjddcfaaaaaaa
open Go.RowKit
theorem match_undef {α : Type} (h1 : Bool → α) (h2 : Option Value → α) : Go.yielded.match_1 (fun _ => α) (some undef) h1 h2 = h2 (some undef) := rfl
attribute [local go_sem] match_undef
set_option maxRecDepth 100000 in
set_option maxHeartbeats 8000000 in
theorem marks_a (x : Int) (h1 : 0 < clsOf x) (h2 : catOf x = 4) (h3 : bidiOf x = 6) (h4 : joinOf x = 3) (hs : splitOf x = none) (w : World) : Calls Try.prog 7 #[.int .i32 x] w fun e w' => e = .returned (.bool true) ∧ Below w.heap.size w w' := by
  have f1 : decide (0 < clsOf x) = true := by simpa using h1
  have f2 : (catOf x == 4) = true := by simpa using h2
  have f3 : (bidiOf x != 6) = false := by simpa using h3
  have f4 : (joinOf x != 3) = false := by simpa using h4
  clear h1 h2 h3 h4
  have HS := Lib.hid hs
  clear hs
  go_enter Try.func7, Try.ntmps7
  go_wp2_with fail
  refine (small_any _).mono ?_
  rintro e ws ⟨rfl, hbs⟩
  have HBS := Lib.hid hbs
  clear hbs
  go_wp2_with fail
  refine (new_any _).mono ?_
  rintro e w1 ⟨tt, rfl, hT, hb1⟩
  have hT' := hT
  obtain ⟨b0, b1, b2, b3, rfl, -, -, -, -⟩ := hT'
  have K1 := Lib.hid (kept_new (w0 := w) (b0 := b0) (b1 := b1) (b2 := b2) (b3 := b3) (HBS.out.trans (hb1.mono HBS.out.size)) hT 28)
  clear hT hb1 HBS
  have c0 := K1.out.held.2.1
  have c1 := K1.out.held.2.2.1
  have c2 := K1.out.held.2.2.2.1
  have c3 := K1.out.held.2.2.2.2
  have HC := Lib.hid (kept_cells K1.out.drew)
  clear c0 c1 c2 c3
  go_wp2_with fail
  go_region_held3 (fun w' => w'.cell? ⟨w1.heap.size, 0, none⟩ = some (.slice (some ⟨b0, 0, none⟩) 74 74) ∧ w'.cell? ⟨w1.heap.size, 1, none⟩ = some (.slice (some ⟨b1, 0, none⟩) 10 10) ∧ w'.cell? ⟨w1.heap.size, 2, none⟩ = some (.slice (some ⟨b2, 0, none⟩) 11 11) ∧ w'.cell? ⟨w1.heap.size, 3, none⟩ = some (.slice (some ⟨b3, 0, none⟩) 42 42) ∧ Hid (Kept w w1.heap.size b0 b1 b2 b3 w'))
    (first | exact HC.out | assumption)
    (first
      | (go_at_call 19; refine (class_held (by assumption)).mono ?_; rintro e w' ⟨rfl, K⟩)
      | (go_at_call 11; refine (cat_held (by assumption)).mono ?_; rintro e w' ⟨rfl, K⟩)
      | (go_at_call 13; refine (bidi_held (by assumption)).mono ?_; rintro e w' ⟨rfl, K⟩)
      | (go_at_call 15; refine (join_held (by assumption)).mono ?_; rintro e w' ⟨rfl, K⟩))
  go_wp2_with fail
  refine (split_at' K.2.2.2.2.out HS.out rfl rfl).mono ?_
  rintro e w3 ⟨rfl, K3, L3⟩
  obtain ⟨hS, c0, c1, c2, c3⟩ := K3.out.held
  clear K L3
  go_wp2
  go_ret
  exact ⟨rfl, K3.out.below.alloc K3.out.below.size _⟩
set_option maxRecDepth 100000 in
set_option maxHeartbeats 16000000 in
theorem marks_b (x : Int) (h1 : clsOf x = 0) (h2 : catOf x ≠ 4) (hsh : (splitOf x = none ∨ (∃ v0 v1 v3 v4, splitOf x = some ⟨v0, v1, 0, v3, v4⟩ ∧ clsOf v1 = 0 ∧ catOf v1 ≠ 0) ∨ (∃ v0 v1 v2 v4, splitOf x = some ⟨v0, v1, v2, true, v4⟩ ∧ clsOf v1 = 0 ∧ catOf v1 ≠ 0 ∧ v2 ≠ 0) ∨ (∃ v0 v1 v2 v4, splitOf x = some ⟨v0, v1, v2, false, v4⟩ ∧ clsOf v1 = 0 ∧ catOf v1 ≠ 0 ∧ v2 ≠ 0 ∧ 0 < clsOf v2))) (w : World) : Calls Try.prog 7 #[.int .i32 x] w fun e w' => e = .returned (.bool true) ∧ Below w.heap.size w w' := by
  have SH := Lib.hid hsh
  clear hsh
  have f1 : decide (0 < clsOf x) = false := by rw [h1]; rfl
  have f2 : (catOf x == 4) = false := by simpa using h2
  have X1 := Lib.hid h1
  clear h1 h2
  go_enter Try.func7, Try.ntmps7
  go_wp2_with fail
  refine (small_any _).mono ?_
  rintro e ws ⟨rfl, hbs⟩
  have HBS := Lib.hid hbs
  clear hbs
  go_wp2_with fail
  refine (new_any _).mono ?_
  rintro e w1 ⟨tt, rfl, hT, hb1⟩
  have hT' := hT
  obtain ⟨b0, b1, b2, b3, rfl, -, -, -, -⟩ := hT'
  have K1 := Lib.hid (kept_new (w0 := w) (b0 := b0) (b1 := b1) (b2 := b2) (b3 := b3) (HBS.out.trans (hb1.mono HBS.out.size)) hT 28)
  clear hT hb1 HBS
  have HC := Lib.hid (kept_cells K1.out.drew)
  go_upto_region 3 with (fail)
  go_cut [35] (fun s35 wx => s35 = .bool false ∧ Hid (Kept w w1.heap.size b0 b1 b2 b3 wx))
  case first =>
    have hc1 := HC.out
    first | (go_region_with
      (first
        | (go_at_call 19; refine (class_held (by assumption)).mono ?_; rintro e w' ⟨rfl, K⟩)
        | (go_at_call 11; refine (cat_held (by assumption)).mono ?_; rintro e w' ⟨rfl, K⟩))) | fail
    all_goals (go_wp2_with fail; go_meet; exact ⟨rfl, K.2.2.2.2⟩)
  case rest =>
    obtain ⟨rfl, K⟩ := hcut
    obtain ⟨hS, c0, c1, c2, c3⟩ := K.out.held
    clear HC K1
    rcases SH.out with hs | ⟨v0, v1, v3, v4, hs, p1, p4⟩ | ⟨v0, v1, v2, v4, hs, p1, p4, p2⟩ | ⟨v0, v1, v2, v4, hs, p1, p4, p2, p3⟩
    · clear SH
      have HS := Lib.hid hs
      clear hs
      go_wp2_with fail
      refine (split_at' K.out HS.out rfl rfl).mono ?_
      rintro e w3 ⟨rfl, K3, L3⟩
      obtain ⟨hS, c0, c1, c2, c3⟩ := K3.out.held
      clear K L3
      go_wp2
      go_ret
      exact ⟨rfl, K3.out.below.alloc K3.out.below.size _⟩
    · clear SH
      have HS := Lib.hid hs
      clear hs
      have P1 := Lib.hid p1
      have f4 : (catOf v1 != 0) = true := by simpa using p4
      clear p1 p4
      go_wp2_with fail
      refine (split_at' K.out HS.out rfl rfl).mono ?_
      rintro e w3 ⟨rfl, K3, L3⟩
      have M3 := Lib.hid (K3.out.alloc (.cells #[.int .i32 v0, .int .i32 v1, .int .i32 0, .bool v3, .bool v4] 34))
      have R3 := Lib.hid (row5_new w3 v0 v1 0 v3 v4 34)
      obtain ⟨hS, c0, c1, c2, c3⟩ := K3.out.held
      clear K L3 K3
      go_wp2_with fail
      refine (class_at M3.out P1.out).mono ?_
      rintro e w4 ⟨rfl, K4, L4⟩
      obtain ⟨hS, c0, c1, c2, c3⟩ := K4.out.held
      have R4 := Lib.hid (R3.out.below L4.out)
      obtain ⟨hr, r0, r1, r2, r3, r4⟩ := R4.out
      clear M3 L4 R3
      go_wp2_with fail
      refine (class_at K4.out X1.out).mono ?_
      rintro e w5 ⟨rfl, K5, L5⟩
      obtain ⟨hS, c0, c1, c2, c3⟩ := K5.out.held
      have R5 := Lib.hid (R4.out.below L5.out)
      obtain ⟨hr, r0, r1, r2, r3, r4⟩ := R5.out
      clear K4 L5 R4
      go_wp2_with fail
      refine (cat_at K5.out rfl).mono ?_
      rintro e w6 ⟨rfl, K6, L6⟩
      obtain ⟨hS, c0, c1, c2, c3⟩ := K6.out.held
      have R6 := Lib.hid (R5.out.below L6.out)
      obtain ⟨hr, r0, r1, r2, r3, r4⟩ := R6.out
      clear K5 L6 R5
      go_wp2
      go_ret
      exact ⟨rfl, K6.out.below⟩
    · clear SH
      have HS := Lib.hid hs
      clear hs
      have P1 := Lib.hid p1
      have f4 : (catOf v1 != 0) = true := by simpa using p4
      clear p1 p4
      have f5 : (v2 == 0) = false := by simpa using p2
      clear p2
      go_wp2_with fail
      refine (split_at' K.out HS.out rfl rfl).mono ?_
      rintro e w3 ⟨rfl, K3, L3⟩
      have M3 := Lib.hid (K3.out.alloc (.cells #[.int .i32 v0, .int .i32 v1, .int .i32 v2, .bool true, .bool v4] 34))
      have R3 := Lib.hid (row5_new w3 v0 v1 v2 true v4 34)
      obtain ⟨hS, c0, c1, c2, c3⟩ := K3.out.held
      clear K L3 K3
      go_wp2_with fail
      refine (class_at M3.out P1.out).mono ?_
      rintro e w4 ⟨rfl, K4, L4⟩
      obtain ⟨hS, c0, c1, c2, c3⟩ := K4.out.held
      have R4 := Lib.hid (R3.out.below L4.out)
      obtain ⟨hr, r0, r1, r2, r3, r4⟩ := R4.out
      clear M3 L4 R3
      go_wp2_with fail
      refine (class_at K4.out X1.out).mono ?_
      rintro e w5 ⟨rfl, K5, L5⟩
      obtain ⟨hS, c0, c1, c2, c3⟩ := K5.out.held
      have R5 := Lib.hid (R4.out.below L5.out)
      obtain ⟨hr, r0, r1, r2, r3, r4⟩ := R5.out
      clear K4 L5 R4
      go_wp2_with fail
      refine (cat_at K5.out rfl).mono ?_
      rintro e w6 ⟨rfl, K6, L6⟩
      obtain ⟨hS, c0, c1, c2, c3⟩ := K6.out.held
      have R6 := Lib.hid (R5.out.below L6.out)
      obtain ⟨hr, r0, r1, r2, r3, r4⟩ := R6.out
      clear K5 L6 R5
      go_wp2
      go_ret
      exact ⟨rfl, K6.out.below⟩
    · clear SH
      have HS := Lib.hid hs
      clear hs
      have P1 := Lib.hid p1
      have f4 : (catOf v1 != 0) = true := by simpa using p4
      clear p1 p4
      have f5 : (v2 == 0) = false := by simpa using p2
      clear p2
      have f6 : decide (0 < clsOf v2) = true := by simpa using p3
      clear p3
      go_wp2_with fail
      refine (split_at' K.out HS.out rfl rfl).mono ?_
      rintro e w3 ⟨rfl, K3, L3⟩
      have M3 := Lib.hid (K3.out.alloc (.cells #[.int .i32 v0, .int .i32 v1, .int .i32 v2, .bool false, .bool v4] 34))
      have R3 := Lib.hid (row5_new w3 v0 v1 v2 false v4 34)
      obtain ⟨hS, c0, c1, c2, c3⟩ := K3.out.held
      clear K L3 K3
      go_wp2_with fail
      refine (class_at M3.out P1.out).mono ?_
      rintro e w4 ⟨rfl, K4, L4⟩
      obtain ⟨hS, c0, c1, c2, c3⟩ := K4.out.held
      have R4 := Lib.hid (R3.out.below L4.out)
      obtain ⟨hr, r0, r1, r2, r3, r4⟩ := R4.out
      clear M3 L4 R3
      go_wp2_with fail
      refine (class_at K4.out X1.out).mono ?_
      rintro e w5 ⟨rfl, K5, L5⟩
      obtain ⟨hS, c0, c1, c2, c3⟩ := K5.out.held
      have R5 := Lib.hid (R4.out.below L5.out)
      obtain ⟨hr, r0, r1, r2, r3, r4⟩ := R5.out
      clear K4 L5 R4
      go_wp2_with fail
      refine (class_at K5.out rfl).mono ?_
      rintro e w6 ⟨rfl, K6, L6⟩
      obtain ⟨hS, c0, c1, c2, c3⟩ := K6.out.held
      have R6 := Lib.hid (R5.out.below L6.out)
      obtain ⟨hr, r0, r1, r2, r3, r4⟩ := R6.out
      clear K5 L6 R5
      go_wp2_with fail
      refine (cat_at K6.out rfl).mono ?_
      rintro e w7 ⟨rfl, K7, L7⟩
      obtain ⟨hS, c0, c1, c2, c3⟩ := K7.out.held
      have R7 := Lib.hid (R6.out.below L7.out)
      obtain ⟨hr, r0, r1, r2, r3, r4⟩ := R7.out
      clear K6 L7 R6
      go_wp2
      go_ret
      exact ⟨rfl, K7.out.below⟩
theorem marks_walk (x : Int) (w : World) : Calls Try.prog 7 #[.int .i32 x] w fun e w' => e = .returned (.bool true) ∧ Below w.heap.size w w' := by
  cases hs : splitOf x with
  | none =>
    rcases mark_cases x with h | ⟨h1, h2⟩
    · unfold markOk at h
      obtain ⟨h1, h2, h3, h4⟩ := of_decide_eq_true h
      exact marks_a x h1 h2 h3 h4 hs w
    · exact marks_b x h1 h2 (.inl hs) w
  | some y =>
    have hp := split_parts hs
    unfold partsOk at hp
    obtain ⟨p1, p2, p3, p4⟩ := of_decide_eq_true hp
    rcases mark_cases x with h | ⟨h1, h2⟩
    · unfold markOk at h
      obtain ⟨h1, -⟩ := of_decide_eq_true h
      omega
    · obtain ⟨v0, v1, v2, v3, v4⟩ := y
      simp only at p1 p3 p4
      by_cases hz : v2 = 0
      · subst hz
        exact marks_b x h1 h2 (.inr (.inl ⟨v0, v1, v3, v4, hs, p1, p4⟩)) w
      · cases v3 with
        | true => exact marks_b x h1 h2 (.inr (.inr (.inl ⟨v0, v1, v2, v4, hs, p1, p4, hz⟩))) w
        | false =>
          have p5 : 0 < clsOf v2 := by
            rcases p3 with h | h | h
            · exact absurd h hz
            · cases h
            · exact h
          exact marks_b x h1 h2 (.inr (.inr (.inr ⟨v0, v1, v2, v4, hs, p1, p4, hz, p5⟩))) w
end Go.Proofs.Ytljjddcfaaaaaaa
