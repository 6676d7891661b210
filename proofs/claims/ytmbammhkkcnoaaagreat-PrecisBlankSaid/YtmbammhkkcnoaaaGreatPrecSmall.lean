/-
  Proved here: the head of the laws of layer 10 comes out true, given what the program's four functions tell.
-/
import Derived.Test.YtmbammhkkcnoaaaGreatPrecFits
namespace Go.Proofs.YtmbammhkkcnoaaaGreat
open Go.RowKit Utf
theorem prec_e0 : Prec.nameE [65, 110, 110, 46, 66, 239, 188, 161] = (0, [97, 110, 110, 46, 98, 97]) := by decide +kernel
theorem prec_e1 : Prec.nameE [97, 32, 98] = (8, []) := by decide +kernel
theorem prec_e2 : Prec.nameE [] = (13, []) := by decide +kernel
theorem prec_e3 : Prec.nameE [215, 144, 97] = (9, []) := by decide +kernel
theorem prec_e4 : Prec.nameE [255] = (7, []) := by decide +kernel
theorem prec_e5 : Prec.classE [65, 195, 132] = 0 := by decide +kernel
theorem prec_e6 : Prec.classE [239, 188, 161] = 8 := by decide +kernel
theorem prec_e7 : Prec.classE [194, 183] = 8 := by decide +kernel
theorem prec_e8 : Prec.alike [65, 78, 78] [97, 110, 110] = true := by decide +kernel
theorem prec_e9 : Prec.alike [97] [98] = false := by decide +kernel
theorem prec_e10 : Prec.charOk 126 = true := by decide +kernel
theorem prec_e11 : Prec.charOk 32 = false := by decide +kernel
theorem prec_e12 : Prec.charOk 913 = true := by decide +kernel
theorem prec_e13 : Prec.charOk 8490 = false := by decide +kernel
set_option maxHeartbeats 8000000 in
set_option maxRecDepth 100000 in
theorem small10_any (B : PrecOk) (w : World) : Calls Tryz.prog 8 #[] w fun e w' => e = .returned (.bool true) ∧ Below w.heap.size w w' := by
  go_enter Tryz.func8, Tryz.ntmps8
  go_wp2_with fail
  refine (new_any _).mono ?_
  rintro e w1 ⟨tt, rfl, hT, hb1⟩
  have hT' := hT
  obtain ⟨b0, b1, b2, b3, rfl, -, -, -, -⟩ := hT'
  have K0 := Lib.hid (kept_new (b0 := b0) (b1 := b1) (b2 := b2) (b3 := b3) hb1 hT 28)
  obtain ⟨hS, c0, c1, c2, c3⟩ := K0.out.held
  clear hT hb1
  go_wp2_with fail
  refine (B.name_at (.agg #[.slice (some ⟨b0, 0, none⟩) 74 74, .slice (some ⟨b1, 0, none⟩) 10 10, .slice (some ⟨b2, 0, none⟩) 11 11, .slice (some ⟨b3, 0, none⟩) 42 42]) ⟨#[65, 110, 110, 46, 66, 239, 188, 161]⟩ _ K0.out.table (lab_of (by decide)) (x := 0) (n := [97, 110, 110, 46, 98, 97]) prec_e0).mono ?_
  rintro e w2 ⟨rfl, hb⟩
  have K1 := Lib.hid (K0.out.next hb)
  clear hb K0 hS c0 c1 c2 c3
  obtain ⟨hS, c0, c1, c2, c3⟩ := K1.out.held
  go_wp2_with fail
  refine (B.name_at (.agg #[.slice (some ⟨b0, 0, none⟩) 74 74, .slice (some ⟨b1, 0, none⟩) 10 10, .slice (some ⟨b2, 0, none⟩) 11 11, .slice (some ⟨b3, 0, none⟩) 42 42]) ⟨#[97, 32, 98]⟩ _ K1.out.table (lab_of (by decide)) (x := 8) (n := []) prec_e1).mono ?_
  rintro e w3 ⟨rfl, hb⟩
  have K2 := Lib.hid (K1.out.next hb)
  clear hb K1 hS c0 c1 c2 c3
  obtain ⟨hS, c0, c1, c2, c3⟩ := K2.out.held
  go_wp2_with fail
  refine (B.name_at (.agg #[.slice (some ⟨b0, 0, none⟩) 74 74, .slice (some ⟨b1, 0, none⟩) 10 10, .slice (some ⟨b2, 0, none⟩) 11 11, .slice (some ⟨b3, 0, none⟩) 42 42]) ⟨#[]⟩ _ K2.out.table (lab_of (by decide)) (x := 13) (n := []) prec_e2).mono ?_
  rintro e w4 ⟨rfl, hb⟩
  have K3 := Lib.hid (K2.out.next hb)
  clear hb K2 hS c0 c1 c2 c3
  obtain ⟨hS, c0, c1, c2, c3⟩ := K3.out.held
  go_wp2_with fail
  refine (B.name_at (.agg #[.slice (some ⟨b0, 0, none⟩) 74 74, .slice (some ⟨b1, 0, none⟩) 10 10, .slice (some ⟨b2, 0, none⟩) 11 11, .slice (some ⟨b3, 0, none⟩) 42 42]) ⟨#[215, 144, 97]⟩ _ K3.out.table (lab_of (by decide)) (x := 9) (n := []) prec_e3).mono ?_
  rintro e w5 ⟨rfl, hb⟩
  have K4 := Lib.hid (K3.out.next hb)
  clear hb K3 hS c0 c1 c2 c3
  obtain ⟨hS, c0, c1, c2, c3⟩ := K4.out.held
  go_wp2_with fail
  refine (B.name_at (.agg #[.slice (some ⟨b0, 0, none⟩) 74 74, .slice (some ⟨b1, 0, none⟩) 10 10, .slice (some ⟨b2, 0, none⟩) 11 11, .slice (some ⟨b3, 0, none⟩) 42 42]) ⟨#[255]⟩ _ K4.out.table (lab_of (by decide)) (x := 7) (n := []) prec_e4).mono ?_
  rintro e w6 ⟨rfl, hb⟩
  have K5 := Lib.hid (K4.out.next hb)
  clear hb K4 hS c0 c1 c2 c3
  obtain ⟨hS, c0, c1, c2, c3⟩ := K5.out.held
  go_wp2_with fail
  refine (B.cls_at (.agg #[.slice (some ⟨b0, 0, none⟩) 74 74, .slice (some ⟨b1, 0, none⟩) 10 10, .slice (some ⟨b2, 0, none⟩) 11 11, .slice (some ⟨b3, 0, none⟩) 42 42]) ⟨#[65, 195, 132]⟩ _ K5.out.table (wide_of (by decide)) (x := 0) prec_e5).mono ?_
  rintro e w7 ⟨rfl, hb⟩
  have K6 := Lib.hid (K5.out.next hb)
  clear hb K5 hS c0 c1 c2 c3
  obtain ⟨hS, c0, c1, c2, c3⟩ := K6.out.held
  go_wp2_with fail
  refine (B.cls_at (.agg #[.slice (some ⟨b0, 0, none⟩) 74 74, .slice (some ⟨b1, 0, none⟩) 10 10, .slice (some ⟨b2, 0, none⟩) 11 11, .slice (some ⟨b3, 0, none⟩) 42 42]) ⟨#[239, 188, 161]⟩ _ K6.out.table (wide_of (by decide)) (x := 8) prec_e6).mono ?_
  rintro e w8 ⟨rfl, hb⟩
  have K7 := Lib.hid (K6.out.next hb)
  clear hb K6 hS c0 c1 c2 c3
  obtain ⟨hS, c0, c1, c2, c3⟩ := K7.out.held
  go_wp2_with fail
  refine (B.cls_at (.agg #[.slice (some ⟨b0, 0, none⟩) 74 74, .slice (some ⟨b1, 0, none⟩) 10 10, .slice (some ⟨b2, 0, none⟩) 11 11, .slice (some ⟨b3, 0, none⟩) 42 42]) ⟨#[194, 183]⟩ _ K7.out.table (wide_of (by decide)) (x := 8) prec_e7).mono ?_
  rintro e w9 ⟨rfl, hb⟩
  have K8 := Lib.hid (K7.out.next hb)
  clear hb K7 hS c0 c1 c2 c3
  obtain ⟨hS, c0, c1, c2, c3⟩ := K8.out.held
  go_wp2_with fail
  refine (B.alk_at (.agg #[.slice (some ⟨b0, 0, none⟩) 74 74, .slice (some ⟨b1, 0, none⟩) 10 10, .slice (some ⟨b2, 0, none⟩) 11 11, .slice (some ⟨b3, 0, none⟩) 42 42]) ⟨#[65, 78, 78]⟩ ⟨#[97, 110, 110]⟩ _ K8.out.table (lab_of (by decide)) (lab_of (by decide)) (x := true) prec_e8).mono ?_
  rintro e w10 ⟨rfl, hb⟩
  have K9 := Lib.hid (K8.out.next hb)
  clear hb K8 hS c0 c1 c2 c3
  obtain ⟨hS, c0, c1, c2, c3⟩ := K9.out.held
  go_wp2_with fail
  refine (B.alk_at (.agg #[.slice (some ⟨b0, 0, none⟩) 74 74, .slice (some ⟨b1, 0, none⟩) 10 10, .slice (some ⟨b2, 0, none⟩) 11 11, .slice (some ⟨b3, 0, none⟩) 42 42]) ⟨#[97]⟩ ⟨#[98]⟩ _ K9.out.table (lab_of (by decide)) (lab_of (by decide)) (x := false) prec_e9).mono ?_
  rintro e w11 ⟨rfl, hb⟩
  have K10 := Lib.hid (K9.out.next hb)
  clear hb K9 hS c0 c1 c2 c3
  obtain ⟨hS, c0, c1, c2, c3⟩ := K10.out.held
  go_wp2_with fail
  refine (B.char_at (.agg #[.slice (some ⟨b0, 0, none⟩) 74 74, .slice (some ⟨b1, 0, none⟩) 10 10, .slice (some ⟨b2, 0, none⟩) 11 11, .slice (some ⟨b3, 0, none⟩) 42 42]) 126 _ K10.out.table (x := true) prec_e10).mono ?_
  rintro e w12 ⟨rfl, hb⟩
  have K11 := Lib.hid (K10.out.next hb)
  clear hb K10 hS c0 c1 c2 c3
  obtain ⟨hS, c0, c1, c2, c3⟩ := K11.out.held
  go_wp2_with fail
  refine (B.char_at (.agg #[.slice (some ⟨b0, 0, none⟩) 74 74, .slice (some ⟨b1, 0, none⟩) 10 10, .slice (some ⟨b2, 0, none⟩) 11 11, .slice (some ⟨b3, 0, none⟩) 42 42]) 32 _ K11.out.table (x := false) prec_e11).mono ?_
  rintro e w13 ⟨rfl, hb⟩
  have K12 := Lib.hid (K11.out.next hb)
  clear hb K11 hS c0 c1 c2 c3
  obtain ⟨hS, c0, c1, c2, c3⟩ := K12.out.held
  go_wp2_with fail
  refine (B.char_at (.agg #[.slice (some ⟨b0, 0, none⟩) 74 74, .slice (some ⟨b1, 0, none⟩) 10 10, .slice (some ⟨b2, 0, none⟩) 11 11, .slice (some ⟨b3, 0, none⟩) 42 42]) 913 _ K12.out.table (x := true) prec_e12).mono ?_
  rintro e w14 ⟨rfl, hb⟩
  have K13 := Lib.hid (K12.out.next hb)
  clear hb K12 hS c0 c1 c2 c3
  obtain ⟨hS, c0, c1, c2, c3⟩ := K13.out.held
  go_wp2_with fail
  refine (B.char_at (.agg #[.slice (some ⟨b0, 0, none⟩) 74 74, .slice (some ⟨b1, 0, none⟩) 10 10, .slice (some ⟨b2, 0, none⟩) 11 11, .slice (some ⟨b3, 0, none⟩) 42 42]) 8490 _ K13.out.table (x := false) prec_e13).mono ?_
  rintro e w15 ⟨rfl, hb⟩
  have K14 := Lib.hid (K13.out.next hb)
  clear hb K13 hS c0 c1 c2 c3
  obtain ⟨hS, c0, c1, c2, c3⟩ := K14.out.held
  go_wp2
  go_ret
  exact ⟨rfl, K14.out.below⟩
end Go.Proofs.YtmbammhkkcnoaaaGreat
