/-
  Proved here: the head of the laws of layer 8 comes out true, given what the program's six functions tell.
-/
import Derived.Test.YtocaiabbihampaaGreatLabFine
namespace Go.Proofs.YtocaiabbihampaaGreat
open Go.RowKit Utf
theorem lab_e0 : Lab.bothE [66, 195, 156, 99, 104, 101, 114] = (0, [120, 110, 45, 45, 98, 99, 104, 101, 114, 45, 107, 118, 97], [98, 195, 188, 99, 104, 101, 114]) := by decide +kernel
theorem lab_e1 : Lab.bothE [88, 78, 45, 45, 98, 99, 104, 101, 114, 45, 75, 86, 65] = (0, [120, 110, 45, 45, 98, 99, 104, 101, 114, 45, 107, 118, 97], [98, 195, 188, 99, 104, 101, 114]) := by decide +kernel
theorem lab_e2 : Lab.bothE [65, 98, 99] = (0, [97, 98, 99], [97, 98, 99]) := by decide +kernel
theorem lab_e3 : Lab.bothE [45, 97] = (11, [], []) := by decide +kernel
theorem lab_e4 : Lab.bothE [120, 110, 45, 45, 97, 98, 99, 45] = (4, [], []) := by decide +kernel
theorem lab_e5 : Lab.bothE [204, 129, 97] = (10, [], []) := by decide +kernel
theorem lab_e6 : Lab.bothE [229, 180, 138] = (0, [120, 110, 45, 45, 52, 108, 116], [229, 180, 138]) := by decide +kernel
theorem lab_e7 : Lab.plainE [] = 13 := by decide +kernel
theorem lab_e8 : Lab.plainE [97, 95, 98] = 8 := by decide +kernel
theorem lab_e9 : Lab.wideE [215, 144, 97] = 9 := by decide +kernel
theorem lab_e10 : Lab.wideE [97, 194, 183] = 8 := by decide +kernel
theorem lab_e11 : Lab.kindE [195, 188] = 3 := by decide +kernel
theorem lab_e12 : Lab.kindE [97] = 1 := by decide +kernel
theorem lab_e13 : Lab.kindE [88, 110, 45, 45, 98, 99, 104, 101, 114, 45, 107, 118, 97] = 2 := by decide +kernel
theorem lab_e14 : Lab.kindE [] = 0 := by decide +kernel
theorem lab_e15 : Lab.charOk 228 = true := by decide +kernel
theorem lab_e16 : Lab.charOk 65 = false := by decide +kernel
set_option maxHeartbeats 8000000 in
set_option maxRecDepth 100000 in
theorem small8_any (B : LabOk) (w : World) : Calls Tryz.prog 8 #[] w fun e w' => e = .returned (.bool true) ∧ Below w.heap.size w w' := by
  go_enter Tryz.func8, Tryz.ntmps8
  go_wp2_with fail
  refine (new_any _).mono ?_
  rintro e w1 ⟨tt, rfl, hT, hb1⟩
  have hT' := hT
  obtain ⟨b0, b1, b2, b3, rfl, -, -, -, -⟩ := hT'
  have K0 := Lib.hid (kept_new (b0 := b0) (b1 := b1) (b2 := b2) (b3 := b3) hb1 hT 28)
  obtain ⟨hS, c0, c1, c2, c3⟩ := K0.out.held
  clear hT hb1
  go_wp2_with fail
  refine (B.ascii_at (.agg #[.slice (some ⟨b0, 0, none⟩) 74 74, .slice (some ⟨b1, 0, none⟩) 10 10, .slice (some ⟨b2, 0, none⟩) 11 11, .slice (some ⟨b3, 0, none⟩) 42 42]) ⟨#[66, 195, 156, 99, 104, 101, 114]⟩ _ K0.out.table (lab_of (by decide)) (x := 0) (a := [120, 110, 45, 45, 98, 99, 104, 101, 114, 45, 107, 118, 97]) (u := [98, 195, 188, 99, 104, 101, 114]) lab_e0).mono ?_
  rintro e w2 ⟨rfl, hb⟩
  have K1 := Lib.hid (K0.out.next hb)
  clear hb K0 hS c0 c1 c2 c3
  obtain ⟨hS, c0, c1, c2, c3⟩ := K1.out.held
  go_wp2_with fail
  refine (B.uni_at (.agg #[.slice (some ⟨b0, 0, none⟩) 74 74, .slice (some ⟨b1, 0, none⟩) 10 10, .slice (some ⟨b2, 0, none⟩) 11 11, .slice (some ⟨b3, 0, none⟩) 42 42]) ⟨#[88, 78, 45, 45, 98, 99, 104, 101, 114, 45, 75, 86, 65]⟩ _ K1.out.table (lab_of (by decide)) (x := 0) (a := [120, 110, 45, 45, 98, 99, 104, 101, 114, 45, 107, 118, 97]) (u := [98, 195, 188, 99, 104, 101, 114]) lab_e1).mono ?_
  rintro e w3 ⟨rfl, hb⟩
  have K2 := Lib.hid (K1.out.next hb)
  clear hb K1 hS c0 c1 c2 c3
  obtain ⟨hS, c0, c1, c2, c3⟩ := K2.out.held
  go_wp2_with fail
  refine (B.ascii_at (.agg #[.slice (some ⟨b0, 0, none⟩) 74 74, .slice (some ⟨b1, 0, none⟩) 10 10, .slice (some ⟨b2, 0, none⟩) 11 11, .slice (some ⟨b3, 0, none⟩) 42 42]) ⟨#[65, 98, 99]⟩ _ K2.out.table (lab_of (by decide)) (x := 0) (a := [97, 98, 99]) (u := [97, 98, 99]) lab_e2).mono ?_
  rintro e w4 ⟨rfl, hb⟩
  have K3 := Lib.hid (K2.out.next hb)
  clear hb K2 hS c0 c1 c2 c3
  obtain ⟨hS, c0, c1, c2, c3⟩ := K3.out.held
  go_wp2_with fail
  refine (B.ascii_at (.agg #[.slice (some ⟨b0, 0, none⟩) 74 74, .slice (some ⟨b1, 0, none⟩) 10 10, .slice (some ⟨b2, 0, none⟩) 11 11, .slice (some ⟨b3, 0, none⟩) 42 42]) ⟨#[45, 97]⟩ _ K3.out.table (lab_of (by decide)) (x := 11) (a := []) (u := []) lab_e3).mono ?_
  rintro e w5 ⟨rfl, hb⟩
  have K4 := Lib.hid (K3.out.next hb)
  clear hb K3 hS c0 c1 c2 c3
  obtain ⟨hS, c0, c1, c2, c3⟩ := K4.out.held
  go_wp2_with fail
  refine (B.ascii_at (.agg #[.slice (some ⟨b0, 0, none⟩) 74 74, .slice (some ⟨b1, 0, none⟩) 10 10, .slice (some ⟨b2, 0, none⟩) 11 11, .slice (some ⟨b3, 0, none⟩) 42 42]) ⟨#[120, 110, 45, 45, 97, 98, 99, 45]⟩ _ K4.out.table (lab_of (by decide)) (x := 4) (a := []) (u := []) lab_e4).mono ?_
  rintro e w6 ⟨rfl, hb⟩
  have K5 := Lib.hid (K4.out.next hb)
  clear hb K4 hS c0 c1 c2 c3
  obtain ⟨hS, c0, c1, c2, c3⟩ := K5.out.held
  go_wp2_with fail
  refine (B.ascii_at (.agg #[.slice (some ⟨b0, 0, none⟩) 74 74, .slice (some ⟨b1, 0, none⟩) 10 10, .slice (some ⟨b2, 0, none⟩) 11 11, .slice (some ⟨b3, 0, none⟩) 42 42]) ⟨#[204, 129, 97]⟩ _ K5.out.table (lab_of (by decide)) (x := 10) (a := []) (u := []) lab_e5).mono ?_
  rintro e w7 ⟨rfl, hb⟩
  have K6 := Lib.hid (K5.out.next hb)
  clear hb K5 hS c0 c1 c2 c3
  obtain ⟨hS, c0, c1, c2, c3⟩ := K6.out.held
  go_wp2_with fail
  refine (B.ascii_at (.agg #[.slice (some ⟨b0, 0, none⟩) 74 74, .slice (some ⟨b1, 0, none⟩) 10 10, .slice (some ⟨b2, 0, none⟩) 11 11, .slice (some ⟨b3, 0, none⟩) 42 42]) ⟨#[229, 180, 138]⟩ _ K6.out.table (lab_of (by decide)) (x := 0) (a := [120, 110, 45, 45, 52, 108, 116]) (u := [229, 180, 138]) lab_e6).mono ?_
  rintro e w8 ⟨rfl, hb⟩
  have K7 := Lib.hid (K6.out.next hb)
  clear hb K6 hS c0 c1 c2 c3
  obtain ⟨hS, c0, c1, c2, c3⟩ := K7.out.held
  go_wp2_with fail
  refine (B.plain_at ⟨#[]⟩ _ (by decide) (x := 13) lab_e7).mono ?_
  rintro e w9 ⟨rfl, hb⟩
  have K8 := Lib.hid (K7.out.next hb)
  clear hb K7 hS c0 c1 c2 c3
  obtain ⟨hS, c0, c1, c2, c3⟩ := K8.out.held
  go_wp2_with fail
  refine (B.plain_at ⟨#[97, 95, 98]⟩ _ (by decide) (x := 8) lab_e8).mono ?_
  rintro e w10 ⟨rfl, hb⟩
  have K9 := Lib.hid (K8.out.next hb)
  clear hb K8 hS c0 c1 c2 c3
  obtain ⟨hS, c0, c1, c2, c3⟩ := K9.out.held
  go_wp2_with fail
  refine (B.wide_at (.agg #[.slice (some ⟨b0, 0, none⟩) 74 74, .slice (some ⟨b1, 0, none⟩) 10 10, .slice (some ⟨b2, 0, none⟩) 11 11, .slice (some ⟨b3, 0, none⟩) 42 42]) ⟨#[215, 144, 97]⟩ _ K9.out.table (wide_of (by decide)) (x := 9) lab_e9).mono ?_
  rintro e w11 ⟨rfl, hb⟩
  have K10 := Lib.hid (K9.out.next hb)
  clear hb K9 hS c0 c1 c2 c3
  obtain ⟨hS, c0, c1, c2, c3⟩ := K10.out.held
  go_wp2_with fail
  refine (B.wide_at (.agg #[.slice (some ⟨b0, 0, none⟩) 74 74, .slice (some ⟨b1, 0, none⟩) 10 10, .slice (some ⟨b2, 0, none⟩) 11 11, .slice (some ⟨b3, 0, none⟩) 42 42]) ⟨#[97, 194, 183]⟩ _ K10.out.table (wide_of (by decide)) (x := 8) lab_e10).mono ?_
  rintro e w12 ⟨rfl, hb⟩
  have K11 := Lib.hid (K10.out.next hb)
  clear hb K10 hS c0 c1 c2 c3
  obtain ⟨hS, c0, c1, c2, c3⟩ := K11.out.held
  go_wp2_with fail
  refine (B.kind_at (.agg #[.slice (some ⟨b0, 0, none⟩) 74 74, .slice (some ⟨b1, 0, none⟩) 10 10, .slice (some ⟨b2, 0, none⟩) 11 11, .slice (some ⟨b3, 0, none⟩) 42 42]) ⟨#[195, 188]⟩ _ K11.out.table (lab_of (by decide)) (x := 3) lab_e11).mono ?_
  rintro e w13 ⟨rfl, hb⟩
  have K12 := Lib.hid (K11.out.next hb)
  clear hb K11 hS c0 c1 c2 c3
  obtain ⟨hS, c0, c1, c2, c3⟩ := K12.out.held
  go_wp2_with fail
  refine (B.kind_at (.agg #[.slice (some ⟨b0, 0, none⟩) 74 74, .slice (some ⟨b1, 0, none⟩) 10 10, .slice (some ⟨b2, 0, none⟩) 11 11, .slice (some ⟨b3, 0, none⟩) 42 42]) ⟨#[97]⟩ _ K12.out.table (lab_of (by decide)) (x := 1) lab_e12).mono ?_
  rintro e w14 ⟨rfl, hb⟩
  have K13 := Lib.hid (K12.out.next hb)
  clear hb K12 hS c0 c1 c2 c3
  obtain ⟨hS, c0, c1, c2, c3⟩ := K13.out.held
  go_wp2_with fail
  refine (B.kind_at (.agg #[.slice (some ⟨b0, 0, none⟩) 74 74, .slice (some ⟨b1, 0, none⟩) 10 10, .slice (some ⟨b2, 0, none⟩) 11 11, .slice (some ⟨b3, 0, none⟩) 42 42]) ⟨#[88, 110, 45, 45, 98, 99, 104, 101, 114, 45, 107, 118, 97]⟩ _ K13.out.table (lab_of (by decide)) (x := 2) lab_e13).mono ?_
  rintro e w15 ⟨rfl, hb⟩
  have K14 := Lib.hid (K13.out.next hb)
  clear hb K13 hS c0 c1 c2 c3
  obtain ⟨hS, c0, c1, c2, c3⟩ := K14.out.held
  go_wp2_with fail
  refine (B.kind_at (.agg #[.slice (some ⟨b0, 0, none⟩) 74 74, .slice (some ⟨b1, 0, none⟩) 10 10, .slice (some ⟨b2, 0, none⟩) 11 11, .slice (some ⟨b3, 0, none⟩) 42 42]) ⟨#[]⟩ _ K14.out.table (lab_of (by decide)) (x := 0) lab_e14).mono ?_
  rintro e w16 ⟨rfl, hb⟩
  have K15 := Lib.hid (K14.out.next hb)
  clear hb K14 hS c0 c1 c2 c3
  obtain ⟨hS, c0, c1, c2, c3⟩ := K15.out.held
  go_wp2_with fail
  refine (B.char_at (.agg #[.slice (some ⟨b0, 0, none⟩) 74 74, .slice (some ⟨b1, 0, none⟩) 10 10, .slice (some ⟨b2, 0, none⟩) 11 11, .slice (some ⟨b3, 0, none⟩) 42 42]) 228 _ K15.out.table (x := true) lab_e15).mono ?_
  rintro e w17 ⟨rfl, hb⟩
  have K16 := Lib.hid (K15.out.next hb)
  clear hb K15 hS c0 c1 c2 c3
  obtain ⟨hS, c0, c1, c2, c3⟩ := K16.out.held
  go_wp2_with fail
  refine (B.char_at (.agg #[.slice (some ⟨b0, 0, none⟩) 74 74, .slice (some ⟨b1, 0, none⟩) 10 10, .slice (some ⟨b2, 0, none⟩) 11 11, .slice (some ⟨b3, 0, none⟩) 42 42]) 65 _ K16.out.table (x := false) lab_e16).mono ?_
  rintro e w18 ⟨rfl, hb⟩
  have K17 := Lib.hid (K16.out.next hb)
  clear hb K16 hS c0 c1 c2 c3
  obtain ⟨hS, c0, c1, c2, c3⟩ := K17.out.held
  go_wp2
  go_ret
  exact ⟨rfl, K17.out.below⟩
end Go.Proofs.YtocaiabbihampaaGreat
