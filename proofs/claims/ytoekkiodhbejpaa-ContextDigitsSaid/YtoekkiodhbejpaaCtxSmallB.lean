/-
  Proved here: the head of the laws of layer 7 comes out true, given what the program's three functions tell.
-/
import Derived.Test.YtoekkiodhbejpaaCtxSmall
namespace Go.Proofs.Ytoekkiodhbejpaa
open Go.RowKit
theorem lit_1 (w : World) (a : Int) : Runes (.slice (some ⟨w.heap.size, 0, none⟩) 1 1) [a] (w.alloc (.cells #[.int .i32 a] 21)) := runes_lit_at w w.heap.size rfl [a]
theorem lit_2 (w : World) (a b : Int) : Runes (.slice (some ⟨w.heap.size, 0, none⟩) 2 2) [a, b] (w.alloc (.cells #[.int .i32 a, .int .i32 b] 21)) := runes_lit_at w w.heap.size rfl [a, b]
theorem lit_3 (w : World) (a b c : Int) : Runes (.slice (some ⟨w.heap.size, 0, none⟩) 3 3) [a, b, c] (w.alloc (.cells #[.int .i32 a, .int .i32 b, .int .i32 c] 21)) := runes_lit_at w w.heap.size rfl [a, b, c]
theorem lit_4 (w : World) (a b c d : Int) : Runes (.slice (some ⟨w.heap.size, 0, none⟩) 4 4) [a, b, c, d] (w.alloc (.cells #[.int .i32 a, .int .i32 b, .int .i32 c, .int .i32 d] 21)) := runes_lit_at w w.heap.size rfl [a, b, c, d]
theorem front_3 {ad : Addr} {k : Nat} {a b c d : Int} {w : World} (h : Runes (.slice (some ad) 4 k) [a, b, c, d] w) : Runes (.slice (some ad) 3 k) [a, b, c] w := runes_front h 3 (by simp) (by simp)
set_option maxHeartbeats 8000000 in
set_option maxRecDepth 100000 in
theorem small7_any (B : CtxOk) : Small7 := fun w => by
  have E0 : Hid (Ctx.need [108, 183, 108, 8204] 1 = 1) := Lib.hid (by decide +kernel)
  have E1 : Hid (Ctx.need [108, 183, 108, 8204] 0 = 0) := Lib.hid (by decide +kernel)
  have E2 : Hid (Ctx.need [108, 183, 108, 8204] 3 = 2) := Lib.hid (by decide +kernel)
  have E3 : Hid (Ctx.need [108, 183, 108, 8204] 9 = 0) := Lib.hid (by decide +kernel)
  have E4 : Hid (Ctx.all [108, 183, 108, 8204] = false) := Lib.hid (by decide +kernel)
  have E5 : Hid (Ctx.all [108, 183, 108] = true) := Lib.hid (by decide +kernel)
  have E6 : Hid (Ctx.all [2325, 2381, 8205] = true) := Lib.hid (by decide +kernel)
  have E7 : Hid (Ctx.all [1576, 1611, 8204, 1575] = true) := Lib.hid (by decide +kernel)
  have E8 : Hid (Ctx.all [1575, 8204, 1576] = false) := Lib.hid (by decide +kernel)
  have E9 : Hid (Ctx.all [885, 945] = true) := Lib.hid (by decide +kernel)
  have E10 : Hid (Ctx.all [1488, 1523] = true) := Lib.hid (by decide +kernel)
  have E11 : Hid (Ctx.all [12539] = false) := Lib.hid (by decide +kernel)
  have E12 : Hid (Ctx.all [12539, 12354] = true) := Lib.hid (by decide +kernel)
  have E13 : Hid (Ctx.all [1633, 1777] = false) := Lib.hid (by decide +kernel)
  have E14 : Hid (Ctx.needs 1641 = true) := Lib.hid (by decide +kernel)
  have E15 : Hid (Ctx.needs 97 = false) := Lib.hid (by decide +kernel)
  go_enter Try.func8, Try.ntmps8
  go_wp2_with fail
  refine (new_any _).mono ?_
  rintro e w0 ⟨tt, rfl, hT, hb0⟩
  have hT' := hT
  obtain ⟨b0, b1, b2, b3, rfl, -, -, -, -⟩ := hT'
  have k1 : Kept w w0.heap.size b0 b1 b2 b3 ((w0.alloc (.cells #[.slice (some ⟨b0, 0, none⟩) 74 74, .slice (some ⟨b1, 0, none⟩) 10 10, .slice (some ⟨b2, 0, none⟩) 11 11, .slice (some ⟨b3, 0, none⟩) 42 42] 29)).alloc (.cells #[.int .i32 108, .int .i32 183, .int .i32 108, .int .i32 8204] 21)) := (kept_new (b0 := b0) (b1 := b1) (b2 := b2) (b3 := b3) hb0 hT 29).alloc _
  have r0 : Runes (.slice (some ⟨w0.heap.size + 1, 0, none⟩) 4 4) [108, 183, 108, 8204] ((w0.alloc (.cells #[.slice (some ⟨b0, 0, none⟩) 74 74, .slice (some ⟨b1, 0, none⟩) 10 10, .slice (some ⟨b2, 0, none⟩) 11 11, .slice (some ⟨b3, 0, none⟩) 42 42] 29)).alloc (.cells #[.int .i32 108, .int .i32 183, .int .i32 108, .int .i32 8204] 21)) := runes_lit_at (w0.alloc (.cells #[.slice (some ⟨b0, 0, none⟩) 74 74, .slice (some ⟨b1, 0, none⟩) 10 10, .slice (some ⟨b2, 0, none⟩) 11 11, .slice (some ⟨b3, 0, none⟩) 42 42] 29)) (w0.heap.size + 1) (by simp) [108, 183, 108, 8204]
  obtain ⟨W1, hW1⟩ : ∃ W1, W1 = (w0.alloc (.cells #[.slice (some ⟨b0, 0, none⟩) 74 74, .slice (some ⟨b1, 0, none⟩) 10 10, .slice (some ⟨b2, 0, none⟩) 11 11, .slice (some ⟨b3, 0, none⟩) 42 42] 29)).alloc (.cells #[.int .i32 108, .int .i32 183, .int .i32 108, .int .i32 8204] 21) := ⟨_, rfl⟩
  rw [← hW1] at k1 r0
  have K1 := Lib.hid k1
  have R0 := Lib.hid r0
  have HW1 := Lib.hid hW1
  obtain ⟨hS, c0, c1, c2, c3⟩ := K1.out.held
  clear hT hb0 k1 r0 hW1
  go_wp2
  rw [← HW1.out]
  clear HW1
  dsimp only [List.append]
  go_region_held3 (fun w' => w'.cell? ⟨w0.heap.size, 0, none⟩ = some (.slice (some ⟨b0, 0, none⟩) 74 74) ∧ w'.cell? ⟨w0.heap.size, 1, none⟩ = some (.slice (some ⟨b1, 0, none⟩) 10 10) ∧ w'.cell? ⟨w0.heap.size, 2, none⟩ = some (.slice (some ⟨b2, 0, none⟩) 11 11) ∧ w'.cell? ⟨w0.heap.size, 3, none⟩ = some (.slice (some ⟨b3, 0, none⟩) 42 42)) (go_keep) (first
    | (go_at_call 10; (with_reducible refine (B.need_at (.agg #[.slice (some ⟨b0, 0, none⟩) 74 74, .slice (some ⟨b1, 0, none⟩) 10 10, .slice (some ⟨b2, 0, none⟩) 11 11, .slice (some ⟨b3, 0, none⟩) 42 42]) _ [108, 183, 108, 8204] 1 _ K1.out.drew.table (R0.out.keep (Below.refl _ W1).drew) (by decide) (x := 1) E0.out).mono ?_); rintro e w10 ⟨rfl, hb10⟩; have hB10 := below_of_drew hb10; have M1 := Lib.hid (K1.out.next hB10); have R1 := Lib.hid (R0.out.keep hB10); obtain ⟨hS1, d10, d11, d12, d13⟩ := M1.out.held; clear hb10)
    | (go_at_call 10; (with_reducible refine (B.need_at (.agg #[.slice (some ⟨b0, 0, none⟩) 74 74, .slice (some ⟨b1, 0, none⟩) 10 10, .slice (some ⟨b2, 0, none⟩) 11 11, .slice (some ⟨b3, 0, none⟩) 42 42]) _ [108, 183, 108, 8204] 0 _ M1.out.table R1.out (by decide) (x := 0) E1.out).mono ?_); rintro e w11 ⟨rfl, hb11⟩; have M2 := Lib.hid (M1.out.next hb11); have R2 := Lib.hid (R1.out.keep hb11); obtain ⟨hS2, d20, d21, d22, d23⟩ := M2.out.held; clear hb11)
    | (go_at_call 10; (with_reducible refine (B.need_at (.agg #[.slice (some ⟨b0, 0, none⟩) 74 74, .slice (some ⟨b1, 0, none⟩) 10 10, .slice (some ⟨b2, 0, none⟩) 11 11, .slice (some ⟨b3, 0, none⟩) 42 42]) _ [108, 183, 108, 8204] 3 _ M2.out.table R2.out (by decide) (x := 2) E2.out).mono ?_); rintro e w12 ⟨rfl, hb12⟩; have M3 := Lib.hid (M2.out.next hb12); have R3 := Lib.hid (R2.out.keep hb12); obtain ⟨hS3, d30, d31, d32, d33⟩ := M3.out.held; clear hb12)
    | (go_at_call 10; (with_reducible refine (B.need_at (.agg #[.slice (some ⟨b0, 0, none⟩) 74 74, .slice (some ⟨b1, 0, none⟩) 10 10, .slice (some ⟨b2, 0, none⟩) 11 11, .slice (some ⟨b3, 0, none⟩) 42 42]) _ [108, 183, 108, 8204] 9 _ M3.out.table R3.out (by decide) (x := 0) E3.out).mono ?_); rintro e w13 ⟨rfl, hb13⟩; have M4 := Lib.hid (M3.out.next hb13); have R4 := Lib.hid (R3.out.keep hb13); obtain ⟨hS4, d40, d41, d42, d43⟩ := M4.out.held; clear hb13)
    | (go_at_call 12; (with_reducible refine (B.all_at (.agg #[.slice (some ⟨b0, 0, none⟩) 74 74, .slice (some ⟨b1, 0, none⟩) 10 10, .slice (some ⟨b2, 0, none⟩) 11 11, .slice (some ⟨b3, 0, none⟩) 42 42]) _ [108, 183, 108, 8204] _ M4.out.table R4.out (by decide) (x := false) E4.out).mono ?_); rintro e w14 ⟨rfl, hb14⟩; have M5 := Lib.hid (M4.out.next hb14); have R5 := Lib.hid (R4.out.keep hb14); obtain ⟨hS5, d50, d51, d52, d53⟩ := M5.out.held; clear hb14)
    | (go_at_call 12; (with_reducible refine (B.all_at (.agg #[.slice (some ⟨b0, 0, none⟩) 74 74, .slice (some ⟨b1, 0, none⟩) 10 10, .slice (some ⟨b2, 0, none⟩) 11 11, .slice (some ⟨b3, 0, none⟩) 42 42]) _ [108, 183, 108] _ M5.out.table (front_3 R5.out) (by decide) (x := true) E5.out).mono ?_); rintro e w15 ⟨rfl, hb15⟩; have M6 := Lib.hid (M5.out.next hb15); obtain ⟨hS6, d60, d61, d62, d63⟩ := M6.out.held; clear hb15)
    | (go_at_call 12; (with_reducible refine (B.all_at (.agg #[.slice (some ⟨b0, 0, none⟩) 74 74, .slice (some ⟨b1, 0, none⟩) 10 10, .slice (some ⟨b2, 0, none⟩) 11 11, .slice (some ⟨b3, 0, none⟩) 42 42]) _ [2325, 2381, 8205] _ (M6.out.alloc _).table (lit_3 w15 2325 2381 8205) (by decide) (x := true) E6.out).mono ?_); rintro e w16 ⟨rfl, hb16⟩; have M7 := Lib.hid ((M6.out.alloc _).next hb16); obtain ⟨hS7, d70, d71, d72, d73⟩ := M7.out.held; clear hb16)
    | (go_at_call 12; (with_reducible refine (B.all_at (.agg #[.slice (some ⟨b0, 0, none⟩) 74 74, .slice (some ⟨b1, 0, none⟩) 10 10, .slice (some ⟨b2, 0, none⟩) 11 11, .slice (some ⟨b3, 0, none⟩) 42 42]) _ [1576, 1611, 8204, 1575] _ (M7.out.alloc _).table (lit_4 w16 1576 1611 8204 1575) (by decide) (x := true) E7.out).mono ?_); rintro e w17 ⟨rfl, hb17⟩; have M8 := Lib.hid ((M7.out.alloc _).next hb17); obtain ⟨hS8, d80, d81, d82, d83⟩ := M8.out.held; clear hb17)
    | (go_at_call 12; (with_reducible refine (B.all_at (.agg #[.slice (some ⟨b0, 0, none⟩) 74 74, .slice (some ⟨b1, 0, none⟩) 10 10, .slice (some ⟨b2, 0, none⟩) 11 11, .slice (some ⟨b3, 0, none⟩) 42 42]) _ [1575, 8204, 1576] _ (M8.out.alloc _).table (lit_3 w17 1575 8204 1576) (by decide) (x := false) E8.out).mono ?_); rintro e w18 ⟨rfl, hb18⟩; have M9 := Lib.hid ((M8.out.alloc _).next hb18); obtain ⟨hS9, d90, d91, d92, d93⟩ := M9.out.held; clear hb18)
    | (go_at_call 12; (with_reducible refine (B.all_at (.agg #[.slice (some ⟨b0, 0, none⟩) 74 74, .slice (some ⟨b1, 0, none⟩) 10 10, .slice (some ⟨b2, 0, none⟩) 11 11, .slice (some ⟨b3, 0, none⟩) 42 42]) _ [885, 945] _ (M9.out.alloc _).table (lit_2 w18 885 945) (by decide) (x := true) E9.out).mono ?_); rintro e w19 ⟨rfl, hb19⟩; have M10 := Lib.hid ((M9.out.alloc _).next hb19); obtain ⟨hS10, d100, d101, d102, d103⟩ := M10.out.held; clear hb19)
    | (go_at_call 12; (with_reducible refine (B.all_at (.agg #[.slice (some ⟨b0, 0, none⟩) 74 74, .slice (some ⟨b1, 0, none⟩) 10 10, .slice (some ⟨b2, 0, none⟩) 11 11, .slice (some ⟨b3, 0, none⟩) 42 42]) _ [1488, 1523] _ (M10.out.alloc _).table (lit_2 w19 1488 1523) (by decide) (x := true) E10.out).mono ?_); rintro e w20 ⟨rfl, hb20⟩; have M11 := Lib.hid ((M10.out.alloc _).next hb20); obtain ⟨hS11, d110, d111, d112, d113⟩ := M11.out.held; clear hb20)
    | (go_at_call 12; (with_reducible refine (B.all_at (.agg #[.slice (some ⟨b0, 0, none⟩) 74 74, .slice (some ⟨b1, 0, none⟩) 10 10, .slice (some ⟨b2, 0, none⟩) 11 11, .slice (some ⟨b3, 0, none⟩) 42 42]) _ [12539] _ (M11.out.alloc _).table (lit_1 w20 12539) (by decide) (x := false) E11.out).mono ?_); rintro e w21 ⟨rfl, hb21⟩; have M12 := Lib.hid ((M11.out.alloc _).next hb21); obtain ⟨hS12, d120, d121, d122, d123⟩ := M12.out.held; clear hb21)
    | (go_at_call 12; (with_reducible refine (B.all_at (.agg #[.slice (some ⟨b0, 0, none⟩) 74 74, .slice (some ⟨b1, 0, none⟩) 10 10, .slice (some ⟨b2, 0, none⟩) 11 11, .slice (some ⟨b3, 0, none⟩) 42 42]) _ [12539, 12354] _ (M12.out.alloc _).table (lit_2 w21 12539 12354) (by decide) (x := true) E12.out).mono ?_); rintro e w22 ⟨rfl, hb22⟩; have M13 := Lib.hid ((M12.out.alloc _).next hb22); obtain ⟨hS13, d130, d131, d132, d133⟩ := M13.out.held; clear hb22)
    | (go_at_call 12; (with_reducible refine (B.all_at (.agg #[.slice (some ⟨b0, 0, none⟩) 74 74, .slice (some ⟨b1, 0, none⟩) 10 10, .slice (some ⟨b2, 0, none⟩) 11 11, .slice (some ⟨b3, 0, none⟩) 42 42]) _ [1633, 1777] _ (M13.out.alloc _).table (lit_2 w22 1633 1777) (by decide) (x := false) E13.out).mono ?_); rintro e w23 ⟨rfl, hb23⟩; have M14 := Lib.hid ((M13.out.alloc _).next hb23); obtain ⟨hS14, d140, d141, d142, d143⟩ := M14.out.held; clear hb23)
    | (go_at_call 14; (with_reducible refine (B.needs_at 1641 _ (x := true) E14.out).mono ?_); rintro e w24 ⟨rfl, hb24⟩; have M15 := Lib.hid (M14.out.next hb24); obtain ⟨hS15, d150, d151, d152, d153⟩ := M15.out.held; clear hb24)
    | (go_at_call 14; (with_reducible refine (B.needs_at 97 _ (x := false) E15.out).mono ?_); rintro e w25 ⟨rfl, hb25⟩; have M16 := Lib.hid (M15.out.next hb25); obtain ⟨hS16, d160, d161, d162, d163⟩ := M16.out.held; clear hb25))
  go_wp2
  go_ret
  exact ⟨rfl, M16.out.below⟩
end Go.Proofs.Ytoekkiodhbejpaa
