/-
  Proved here: the head of the laws of layer 2 comes out true. Conditions: none.
-/
import Derived.Test.YtadppccnngfjiaaUtfRunes
namespace Go.Proofs.Ytadppccnngfjiaa
open Go.RowKit Utf
theorem string_yes (v : Value) (l : List Int) (w : World) (hl : Runes v l w) (hn : l.length ≤ 20000) (hr : rightsZ l = true) {bs : List UInt8} (hb : encZ l = bs) :
    Calls Try.prog 14 #[v] w fun e w' => e = .returned (.tuple #[.string ⟨bs.toArray⟩, .bool true]) ∧ Below w.heap.size w w' :=
  (string_any v l w hl hn).mono fun _ _ ⟨he, hw⟩ => ⟨by rw [he, hr, hb]; rfl, hw⟩
theorem string_no (v : Value) (l : List Int) (w : World) (hl : Runes v l w) (hn : l.length ≤ 20000) (hr : rightsZ l = false) :
    Calls Try.prog 14 #[v] w fun e w' => e = .returned (.tuple #[.string ⟨#[]⟩, .bool false]) ∧ Below w.heap.size w w' :=
  (string_any v l w hl hn).mono fun _ _ ⟨he, hw⟩ => ⟨by rw [he, hr]; rfl, hw⟩
/-- What was read, as a walk takes it. -/
def RunesAt (l : List Nat) (z : Int) (w : World) (e : Ending) (w' : World) : Prop :=
  ∃ A c, e = .returned (.tuple #[.slice A l.length c, .int .i64 z]) ∧ Runes (.slice A l.length c) (ints l) w' ∧ Below w.heap.size w w'
theorem runes_at (s : ByteArray) (w : World) (hs : s.size ≤ 100000) {l : List Nat} {z : Int} (h : rdOf s.data.toList = (l, z)) : Calls Try.prog 9 #[.string s] w (RunesAt l z w) :=
  (runes_any s w hs).mono fun _ _ ⟨v, he, hv, hb⟩ => by
    rw [h] at he hv
    obtain ⟨A, c, rfl, -, -⟩ := hv.form
    simp only [ints, List.length_map] at he hv ⊢
    exact ⟨A, c, he, hv, hb⟩
set_option maxHeartbeats 4000000 in
set_option maxRecDepth 100000 in
theorem small_any (w : World) : Calls Try.prog 8 #[] w fun e w' => e = .returned (.bool true) ∧ Below w.heap.size w w' := by
  go_enter Try.func8, Try.ntmps8
  go_wp2_with fail
  refine (runes_at ⟨#[195, 164, 128]⟩ _ (by decide) (l := [228]) (z := 2) (by decide +kernel)).mono ?_
  rintro e w1 ⟨A, c, rfl, hR1, hb1⟩
  have R1 := Lib.hid hR1
  have B1 := Lib.hid hb1
  clear hR1 hb1
  go_wp2_with fail
  refine (string_yes _ [228, 8364, 66560, 97] _ (runes_lit w1 [228, 8364, 66560, 97]) (by decide) (by decide +kernel) (bs := [195, 164, 226, 130, 172, 240, 144, 144, 128, 97]) (by decide +kernel)).mono ?_
  rintro e w2 ⟨rfl, hb2⟩
  have B2 := Lib.hid (below_then (below_one w1 _) hb2)
  have R2 := Lib.hid (R1.out.keep B2.out)
  have C2 := Lib.hid (below_then B1.out B2.out)
  clear hb2 R1 B1 B2
  go_wp2_with fail
  refine (string_no _ [55296] _ (runes_lit w2 [55296]) (by decide) (by decide +kernel)).mono ?_
  rintro e w3 ⟨rfl, hb3⟩
  have B3 := Lib.hid (below_then (below_one w2 _) hb3)
  have R3 := Lib.hid (R2.out.keep B3.out)
  have C3 := Lib.hid (below_then C2.out B3.out)
  clear hb3 R2 C2 B3
  go_wp2_with fail
  refine (runes_at ⟨#[195, 164, 226, 130, 172, 240, 144, 144, 128, 97]⟩ _ (by decide) (l := [228, 8364, 66560, 97]) (z := -1) (by decide +kernel)).mono ?_
  rintro e w4 ⟨A4, c4, rfl, -, hb4⟩
  have R4 := R3.out.keep hb4
  have C4 := Lib.hid (below_then C3.out hb4)
  clear hb4 R3 C3
  obtain ⟨A', c', hv, -, hcell⟩ := R4.form
  obtain ⟨ad, hA, hlt, hx⟩ := hcell 0 (by decide)
  obtain rfl : A = some ad := by
    rw [hA] at hv
    injection hv
  have hx0 : w4.cell? ad = some (.int .i32 228) := by
    have e : ad.add 0 = ad := by unfold Addr.add; simp
    rw [e] at hx
    exact hx
  clear hx hlt hA hv hcell R4
  go_wp2_with fail
  refine (eight_any ⟨#[97, 195]⟩ _ (by decide)).mono ?_
  rw [show eightOf (⟨#[97, 195]⟩ : ByteArray).data.toList = 1 by decide +kernel]
  rintro e w5 ⟨rfl, rfl⟩
  go_wp2_with fail
  refine (eight_any ⟨#[97]⟩ _ (by decide)).mono ?_
  rw [show eightOf (⟨#[97]⟩ : ByteArray).data.toList = -1 by decide +kernel]
  rintro e w5 ⟨rfl, rfl⟩
  go_wp2_with fail
  refine (len_any 2047 _).mono ?_
  rw [show lenZ 2047 = 2 by decide +kernel]
  rintro e w5 ⟨rfl, rfl⟩
  go_wp2_with fail
  refine (len_any (-1) _).mono ?_
  rw [show lenZ (-1) = 0 by decide +kernel]
  rintro e w5 ⟨rfl, rfl⟩
  go_wp2_with fail
  refine (right_any 1114111 _).mono ?_
  rw [show rightZ 1114111 = true by decide +kernel]
  rintro e w5 ⟨rfl, rfl⟩
  go_wp2_with fail
  refine (right_any 1114112 _).mono ?_
  rw [show rightZ 1114112 = false by decide +kernel]
  rintro e w5 ⟨rfl, rfl⟩
  go_wp2
  go_ret
  exact ⟨rfl, C4.out⟩
end Go.Proofs.Ytadppccnngfjiaa
