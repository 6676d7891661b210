/-
  Proved here: the small case at the head of each law of layer 3 comes out true. Conditions: none.
-/
import Derived.Test.YtpmcmbkilcpleaaNormForms
import Derived.Test.YtpmcmbkilcpleaaSmall
namespace Go.Proofs.Ytpmcmbkilcpleaa
open Go.RowKit Utf
theorem nfd_at {w0 : World} {S b0 b1 b2 b3 : Nat} {w : World} (h : Kept w0 S b0 b1 b2 b3 w) {s : ByteArray} {m : List Nat} (hf : Fits false s m) {bs : List UInt8} (hb : encZ (formOf false false (ints m)) = bs) :
    Calls Try.prog 19 #[.agg #[.slice (some ⟨b0, 0, none⟩) 74 74, .slice (some ⟨b1, 0, none⟩) 10 10, .slice (some ⟨b2, 0, none⟩) 11 11, .slice (some ⟨b3, 0, none⟩) 42 42], .string s] w fun e w' => e = .returned (.tuple #[.string ⟨bs.toArray⟩, .bool true]) ∧ Hid (Kept w0 S b0 b1 b2 b3 w') ∧ Hid (Below w.heap.size w w') := by
  subst hb
  exact (nfd_yes _ s w h.table hf).mono fun _ _ ⟨he, hb⟩ => ⟨he, h.next hb, hb⟩
theorem nfd_not {w0 : World} {S b0 b1 b2 b3 : Nat} {w : World} (h : Kept w0 S b0 b1 b2 b3 w) {s : ByteArray} (hs : s.size ≤ 100000) {m : List Nat} {k : Nat} (hrd : rdOf s.data.toList = (m, (k : Int))) :
    Calls Try.prog 19 #[.agg #[.slice (some ⟨b0, 0, none⟩) 74 74, .slice (some ⟨b1, 0, none⟩) 10 10, .slice (some ⟨b2, 0, none⟩) 11 11, .slice (some ⟨b3, 0, none⟩) 42 42], .string s] w fun e w' => e = .returned (.tuple #[.string ⟨#[]⟩, .bool false]) ∧ Hid (Kept w0 S b0 b1 b2 b3 w') ∧ Hid (Below w.heap.size w w') :=
  (nfd_no _ s w h.table hs hrd).mono fun _ _ ⟨he, hb⟩ => ⟨he, h.next hb, hb⟩
theorem nfc_at {w0 : World} {S b0 b1 b2 b3 : Nat} {w : World} (h : Kept w0 S b0 b1 b2 b3 w) {s : ByteArray} {m : List Nat} (hf : Fits false s m) {bs : List UInt8} (hb : encZ (formOf false true (ints m)) = bs) :
    Calls Try.prog 20 #[.agg #[.slice (some ⟨b0, 0, none⟩) 74 74, .slice (some ⟨b1, 0, none⟩) 10 10, .slice (some ⟨b2, 0, none⟩) 11 11, .slice (some ⟨b3, 0, none⟩) 42 42], .string s] w fun e w' => e = .returned (.tuple #[.string ⟨bs.toArray⟩, .bool true]) ∧ Hid (Kept w0 S b0 b1 b2 b3 w') ∧ Hid (Below w.heap.size w w') := by
  subst hb
  exact (nfc_yes _ s w h.table hf).mono fun _ _ ⟨he, hb⟩ => ⟨he, h.next hb, hb⟩
theorem nfc_not {w0 : World} {S b0 b1 b2 b3 : Nat} {w : World} (h : Kept w0 S b0 b1 b2 b3 w) {s : ByteArray} (hs : s.size ≤ 100000) {m : List Nat} {k : Nat} (hrd : rdOf s.data.toList = (m, (k : Int))) :
    Calls Try.prog 20 #[.agg #[.slice (some ⟨b0, 0, none⟩) 74 74, .slice (some ⟨b1, 0, none⟩) 10 10, .slice (some ⟨b2, 0, none⟩) 11 11, .slice (some ⟨b3, 0, none⟩) 42 42], .string s] w fun e w' => e = .returned (.tuple #[.string ⟨#[]⟩, .bool false]) ∧ Hid (Kept w0 S b0 b1 b2 b3 w') ∧ Hid (Below w.heap.size w w') :=
  (nfc_no _ s w h.table hs hrd).mono fun _ _ ⟨he, hb⟩ => ⟨he, h.next hb, hb⟩
theorem nfkd_at {w0 : World} {S b0 b1 b2 b3 : Nat} {w : World} (h : Kept w0 S b0 b1 b2 b3 w) {s : ByteArray} {m : List Nat} (hf : Fits true s m) {bs : List UInt8} (hb : encZ (formOf true false (ints m)) = bs) :
    Calls Try.prog 21 #[.agg #[.slice (some ⟨b0, 0, none⟩) 74 74, .slice (some ⟨b1, 0, none⟩) 10 10, .slice (some ⟨b2, 0, none⟩) 11 11, .slice (some ⟨b3, 0, none⟩) 42 42], .string s] w fun e w' => e = .returned (.tuple #[.string ⟨bs.toArray⟩, .bool true]) ∧ Hid (Kept w0 S b0 b1 b2 b3 w') ∧ Hid (Below w.heap.size w w') := by
  subst hb
  exact (nfkd_yes _ s w h.table hf).mono fun _ _ ⟨he, hb⟩ => ⟨he, h.next hb, hb⟩
theorem nfkd_not {w0 : World} {S b0 b1 b2 b3 : Nat} {w : World} (h : Kept w0 S b0 b1 b2 b3 w) {s : ByteArray} (hs : s.size ≤ 100000) {m : List Nat} {k : Nat} (hrd : rdOf s.data.toList = (m, (k : Int))) :
    Calls Try.prog 21 #[.agg #[.slice (some ⟨b0, 0, none⟩) 74 74, .slice (some ⟨b1, 0, none⟩) 10 10, .slice (some ⟨b2, 0, none⟩) 11 11, .slice (some ⟨b3, 0, none⟩) 42 42], .string s] w fun e w' => e = .returned (.tuple #[.string ⟨#[]⟩, .bool false]) ∧ Hid (Kept w0 S b0 b1 b2 b3 w') ∧ Hid (Below w.heap.size w w') :=
  (nfkd_no _ s w h.table hs hrd).mono fun _ _ ⟨he, hb⟩ => ⟨he, h.next hb, hb⟩
theorem nfkc_at {w0 : World} {S b0 b1 b2 b3 : Nat} {w : World} (h : Kept w0 S b0 b1 b2 b3 w) {s : ByteArray} {m : List Nat} (hf : Fits true s m) {bs : List UInt8} (hb : encZ (formOf true true (ints m)) = bs) :
    Calls Try.prog 22 #[.agg #[.slice (some ⟨b0, 0, none⟩) 74 74, .slice (some ⟨b1, 0, none⟩) 10 10, .slice (some ⟨b2, 0, none⟩) 11 11, .slice (some ⟨b3, 0, none⟩) 42 42], .string s] w fun e w' => e = .returned (.tuple #[.string ⟨bs.toArray⟩, .bool true]) ∧ Hid (Kept w0 S b0 b1 b2 b3 w') ∧ Hid (Below w.heap.size w w') := by
  subst hb
  exact (nfkc_yes _ s w h.table hf).mono fun _ _ ⟨he, hb⟩ => ⟨he, h.next hb, hb⟩
theorem nfkc_not {w0 : World} {S b0 b1 b2 b3 : Nat} {w : World} (h : Kept w0 S b0 b1 b2 b3 w) {s : ByteArray} (hs : s.size ≤ 100000) {m : List Nat} {k : Nat} (hrd : rdOf s.data.toList = (m, (k : Int))) :
    Calls Try.prog 22 #[.agg #[.slice (some ⟨b0, 0, none⟩) 74 74, .slice (some ⟨b1, 0, none⟩) 10 10, .slice (some ⟨b2, 0, none⟩) 11 11, .slice (some ⟨b3, 0, none⟩) 42 42], .string s] w fun e w' => e = .returned (.tuple #[.string ⟨#[]⟩, .bool false]) ∧ Hid (Kept w0 S b0 b1 b2 b3 w') ∧ Hid (Below w.heap.size w w') :=
  (nfkc_no _ s w h.table hs hrd).mono fun _ _ ⟨he, hb⟩ => ⟨he, h.next hb, hb⟩
theorem is_at {w0 : World} {S b0 b1 b2 b3 : Nat} {w : World} (h : Kept w0 S b0 b1 b2 b3 w) {s : ByteArray} {m : List Nat} (hf : Fits false s m) {b : Bool} (hb : (encZ (formOf false true (ints m)) == s.toList) = b) :
    Calls Try.prog 24 #[.agg #[.slice (some ⟨b0, 0, none⟩) 74 74, .slice (some ⟨b1, 0, none⟩) 10 10, .slice (some ⟨b2, 0, none⟩) 11 11, .slice (some ⟨b3, 0, none⟩) 42 42], .string s] w fun e w' => e = .returned (.bool b) ∧ Hid (Kept w0 S b0 b1 b2 b3 w') ∧ Hid (Below w.heap.size w w') :=
  (is_yes _ s w h.table hf hb).mono fun _ _ ⟨he, hb⟩ => ⟨he, h.next hb, hb⟩
theorem is_not {w0 : World} {S b0 b1 b2 b3 : Nat} {w : World} (h : Kept w0 S b0 b1 b2 b3 w) {s : ByteArray} (hs : s.size ≤ 100000) {m : List Nat} {k : Nat} (hrd : rdOf s.data.toList = (m, (k : Int))) :
    Calls Try.prog 24 #[.agg #[.slice (some ⟨b0, 0, none⟩) 74 74, .slice (some ⟨b1, 0, none⟩) 10 10, .slice (some ⟨b2, 0, none⟩) 11 11, .slice (some ⟨b3, 0, none⟩) 42 42], .string s] w fun e w' => e = .returned (.bool false) ∧ Hid (Kept w0 S b0 b1 b2 b3 w') ∧ Hid (Below w.heap.size w w') :=
  (is_no _ s w h.table hs hrd).mono fun _ _ ⟨he, hb⟩ => ⟨he, h.next hb, hb⟩
theorem fit1 : Fits false (⟨#[97, 204, 163, 204, 136, 226, 132, 171, 225, 132, 128, 225, 133, 161, 225, 134, 168]⟩ : ByteArray) [97, 803, 776, 8491, 4352, 4449, 4520] := ⟨by decide +kernel, by decide +kernel, by decide +kernel, by decide +kernel⟩
theorem lit1 : encZ (formOf false true (ints [97, 803, 776, 8491, 4352, 4449, 4520])) = [195, 164, 204, 163, 195, 133, 234, 176, 129] := by decide +kernel
theorem fit2 : Fits false (⟨#[225, 186, 164, 234, 176, 129, 224, 165, 152]⟩ : ByteArray) [7844, 44033, 2392] := ⟨by decide +kernel, by decide +kernel, by decide +kernel, by decide +kernel⟩
theorem lit2 : encZ (formOf false false (ints [7844, 44033, 2392])) = [65, 204, 130, 204, 129, 225, 132, 128, 225, 133, 161, 225, 134, 168, 224, 164, 149, 224, 164, 188] := by decide +kernel
theorem fit3 : Fits true (⟨#[239, 188, 161, 239, 172, 129, 194, 178]⟩ : ByteArray) [65313, 64257, 178] := ⟨by decide +kernel, by decide +kernel, by decide +kernel, by decide +kernel⟩
theorem lit3 : encZ (formOf true true (ints [65313, 64257, 178])) = [65, 102, 105, 50] := by decide +kernel
theorem lit4 : rdOf (⟨#[255]⟩ : ByteArray).data.toList = ([], ((0 : Nat) : Int)) := by decide +kernel
theorem fit5 : Fits false (⟨#[195, 164]⟩ : ByteArray) [228] := ⟨by decide +kernel, by decide +kernel, by decide +kernel, by decide +kernel⟩
theorem lit5 : (encZ (formOf false true (ints [228])) == (⟨#[195, 164]⟩ : ByteArray).toList) = true := by rw [ByteArray.toList_eq]; decide +kernel
theorem fit6 : Fits false (⟨#[97, 204, 136]⟩ : ByteArray) [97, 776] := ⟨by decide +kernel, by decide +kernel, by decide +kernel, by decide +kernel⟩
theorem lit6 : (encZ (formOf false true (ints [97, 776])) == (⟨#[97, 204, 136]⟩ : ByteArray).toList) = false := by rw [ByteArray.toList_eq]; decide +kernel
theorem fit7 : Fits false (⟨#[]⟩ : ByteArray) [] := ⟨by decide +kernel, by decide +kernel, by decide +kernel, by decide +kernel⟩
theorem lit7 : (encZ (formOf false true (ints [])) == (⟨#[]⟩ : ByteArray).toList) = true := by rw [ByteArray.toList_eq]; decide +kernel
set_option maxRecDepth 100000 in
set_option maxHeartbeats 8000000 in
theorem small3_any (w : World) : Calls Try.prog 9 #[] w fun e w' => e = .returned (.bool true) ∧ Below w.heap.size w w' := by
  go_enter Try.func9, Try.ntmps9
  go_wp2_with fail
  refine (new_any _).mono ?_
  rintro e w1 ⟨tt, rfl, hT, hb1⟩
  have hT' := hT
  obtain ⟨b0, b1, b2, b3, rfl, -, -, -, -⟩ := hT'
  have K0 := Lib.hid (kept_new (b0 := b0) (b1 := b1) (b2 := b2) (b3 := b3) hb1 hT 30)
  clear hT hb1
  go_wp2_with fail
  refine (nfc_at K0.out fit1 lit1).mono ?_
  rintro e w2 ⟨rfl, K1, L1⟩
  obtain ⟨hS, c0, c1, c2, c3⟩ := K1.out.held
  clear K0 L1
  go_wp2_with fail
  refine (nfd_at K1.out fit2 lit2).mono ?_
  rintro e w3 ⟨rfl, K2, L2⟩
  obtain ⟨hS, c0, c1, c2, c3⟩ := K2.out.held
  clear K1 L2
  go_wp2_with fail
  refine (nfkc_at K2.out fit3 lit3).mono ?_
  rintro e w4 ⟨rfl, K3, L3⟩
  obtain ⟨hS, c0, c1, c2, c3⟩ := K3.out.held
  clear K2 L3
  go_wp2_with fail
  refine (nfc_not K3.out (by decide) lit4).mono ?_
  rintro e w5 ⟨rfl, K4, L4⟩
  obtain ⟨hS, c0, c1, c2, c3⟩ := K4.out.held
  clear K3 L4
  go_wp2_with fail
  refine (is_at K4.out fit5 lit5).mono ?_
  rintro e w6 ⟨rfl, K5, L5⟩
  obtain ⟨hS, c0, c1, c2, c3⟩ := K5.out.held
  clear K4 L5
  go_wp2_with fail
  refine (is_at K5.out fit6 lit6).mono ?_
  rintro e w7 ⟨rfl, K6, L6⟩
  obtain ⟨hS, c0, c1, c2, c3⟩ := K6.out.held
  clear K5 L6
  go_wp2_with fail
  refine (is_at K6.out fit7 lit7).mono ?_
  rintro e w8 ⟨rfl, K7, L7⟩
  obtain ⟨hS, c0, c1, c2, c3⟩ := K7.out.held
  clear K6 L7
  go_wp2
  go_ret
  exact ⟨rfl, K7.out.below⟩
end Go.Proofs.Ytpmcmbkilcpleaa
