/-
  Proved here: norm.NFD, NFC, NFKD, NFKC and Is: a string's normal forms, by characters. Conditions: the table is one that New made; the string has at most 100,000 bytes, and it and its forms at most 10,000 characters.
-/
import Derived.Test.YtpmcmbkilcpleaaNormJoin
import Derived.Test.YtpmcmbkilcpleaaNormRefForm
namespace Go.Proofs.Ytpmcmbkilcpleaa
open Go.RowKit Utf
/-- A string that is all characters, none of whose forms is too long. -/
structure Fits (soft : Bool) (s : ByteArray) (m : List Nat) : Prop where
  size : s.size ≤ 100000
  read : rdOf s.data.toList = (m, -1)
  len : m.length ≤ 10000
  down : (Norm.down soft (ints m)).length ≤ 10000
theorem Fits.right {soft : Bool} {s : ByteArray} {m : List Nat} (h : Fits soft s m) : rightsZ (ints m) = true := (ints_right m (rd_cases h.read).1).1
theorem Fits.split {soft : Bool} {s : ByteArray} {m : List Nat} (h : Fits soft s m) : (Norm.split soft (ints m)).length ≤ 10000 := by
  have := sim_len (Norm.sim_order (Norm.split soft (ints m)))
  have := h.down
  unfold Norm.down at this
  omega
def OrderedPost (l : List Int) (w : World) (e : Ending) (w' : World) : Prop := ∃ v, e = .returned (.tuple #[v, .bool true]) ∧ OwnR w.heap.size v l w' ∧ Below w.heap.size w w'
set_option maxHeartbeats 4000000 in
set_option maxRecDepth 100000 in
theorem ordered_yes (t : Value) (s : ByteArray) (soft : Bool) (w : World) (hT : Table w t) {m : List Nat} (hf : Fits soft s m) :
    Calls Try.prog 59 #[t, .string s, .bool soft] w (OrderedPost (Norm.down soft (ints m)) w) := by
  have h1 := fun W => runes_at s W hf.size hf.read
  have hml : (ints m).length ≤ 10000 := by simp only [ints, List.length_map]; exact hf.len
  have h2 := fun v W (hW : Below w.heap.size w W) (h : Runes v (ints m) W) => splitAll_any t v (ints m) soft W (hT.below hW) h hml
  have h3 := fun v W (hW : Below w.heap.size w W) (h : Runes v (Norm.split soft (ints m)) W) => order_any t v _ W (hT.below hW) h hf.split
  obtain ⟨b0, b1, b2, b3, rfl, -, -, -, -⟩ := hT
  have H1 := Lib.hid h1
  have H2 := Lib.hid h2
  have H3 := Lib.hid h3
  clear h1 h2 h3 hml hf
  go_enter Try.func59, Try.ntmps59
  go_wp2_with fail
  refine (H1.out _).mono ?_
  rintro e w1 ⟨A1, c1, rfl, hr1, hb1⟩
  obtain ⟨hz, k0, k1, k2, k3⟩ := boxTable hb1
  have R1 := Lib.hid hr1
  have B1 := Lib.hid (below_then (below_one w _) hb1)
  clear hr1 hb1
  go_wp2
  go_region_held3 (fun w' => w'.cell? ⟨w.heap.size, 0, none⟩ = some (.slice (some ⟨b0, 0, none⟩) 74 74) ∧ w'.cell? ⟨w.heap.size, 1, none⟩ = some (.slice (some ⟨b1, 0, none⟩) 10 10) ∧ w'.cell? ⟨w.heap.size, 2, none⟩ = some (.slice (some ⟨b2, 0, none⟩) 11 11) ∧ w'.cell? ⟨w.heap.size, 3, none⟩ = some (.slice (some ⟨b3, 0, none⟩) 42 42)) (go_keep) (first
    | (go_at_call 12; (with_reducible refine (H2.out _ _ B1.out.drew (R1.out.keep (Below.refl _ w1).drew)).mono ?_); rintro e w2 ⟨v2, rfl, ho2, hb2⟩; have hB2 := below_of_drew hb2; have R2 := Lib.hid ho2.runes; have B2 := Lib.hid (below_then B1.out hB2); have q0 := (hB2.cell (p := ⟨w.heap.size, 0, none⟩) hz).trans k0; have q1 := (hB2.cell (p := ⟨w.heap.size, 1, none⟩) hz).trans k1; have q2 := (hB2.cell (p := ⟨w.heap.size, 2, none⟩) hz).trans k2; have q3 := (hB2.cell (p := ⟨w.heap.size, 3, none⟩) hz).trans k3; have hz2 := Nat.lt_of_lt_of_le hz hB2.size; clear hb2 ho2 hB2 k0 k1 k2 k3)
    | (go_at_call 13; (with_reducible refine (H3.out _ _ B2.out R2.out).mono ?_); rintro e w3 ⟨v3, rfl, ho3, hb3⟩; have O3 := Lib.hid (ho3.lower B2.out.size); have B3 := Lib.hid (below_then B2.out hb3); have p0 := (hb3.cell (p := ⟨w.heap.size, 0, none⟩) hz2).trans q0; have p1 := (hb3.cell (p := ⟨w.heap.size, 1, none⟩) hz2).trans q1; have p2 := (hb3.cell (p := ⟨w.heap.size, 2, none⟩) hz2).trans q2; have p3 := (hb3.cell (p := ⟨w.heap.size, 3, none⟩) hz2).trans q3; clear hb3 ho3))
  all_goals
    go_wp2
    go_ret2
    exact ⟨v3, rfl, O3.out, B3.out⟩
set_option maxHeartbeats 1000000 in
theorem ordered_no (t : Value) (s : ByteArray) (soft : Bool) (w : World) (hT : Table w t) (hs : s.size ≤ 100000) {m : List Nat} {k : Nat} (hrd : rdOf s.data.toList = (m, (k : Int))) :
    Calls Try.prog 59 #[t, .string s, .bool soft] w fun e w' => e = .returned (.tuple #[.slice none 0 0, .bool false]) ∧ Below w.heap.size w w' := by
  have h1 := fun W => runes_at s W (by omega) hrd
  obtain ⟨b0, b1, b2, b3, rfl, -, -, -, -⟩ := hT
  have H1 := Lib.hid h1
  have hk0 : (0 : Int) ≤ (k : Int) := by omega
  clear h1 hrd
  go_enter Try.func59, Try.ntmps59
  go_wp2_with fail
  refine (H1.out _).mono ?_
  rintro e w1 ⟨A1, c1, rfl, -, hb1⟩
  have B1 := Lib.hid (below_then (below_one w _) hb1)
  clear hb1
  go_wp2
  go_ret2
  exact ⟨rfl, B1.out⟩
set_option maxHeartbeats 1000000 in
theorem apart_no (t : Value) (s : ByteArray) (soft : Bool) (w : World) (hT : Table w t) (hs : s.size ≤ 100000) {m : List Nat} {k : Nat} (hrd : rdOf s.data.toList = (m, (k : Int))) :
    Calls Try.prog 41 #[t, .string s, .bool soft] w (StrAt [] false w) := by
  have h1 := fun W (hW : Below w.heap.size w W) => ordered_no t s soft W (hT.below hW) hs hrd
  obtain ⟨b0, b1, b2, b3, rfl, -, -, -, -⟩ := hT
  have H1 := Lib.hid h1
  clear h1 hrd
  go_enter Try.func41, Try.ntmps41
  go_wp2_with fail
  refine (H1.out _ (below_one _ _)).mono ?_
  rintro e w1 ⟨rfl, hb1⟩
  have B1 := Lib.hid (below_then (below_one w _) hb1)
  clear hb1
  go_wp2
  go_ret2
  exact ⟨rfl, B1.out⟩
set_option maxHeartbeats 1000000 in
theorem apart_yes (t : Value) (s : ByteArray) (soft : Bool) (w : World) (hT : Table w t) {m : List Nat} (hf : Fits soft s m) :
    Calls Try.prog 41 #[t, .string s, .bool soft] w (StrAt (encZ (formOf soft false (ints m))) true w) := by
  have h1 := fun W (hW : Below w.heap.size w W) => ordered_yes t s soft W (hT.below hW) hf
  have hfr := form_right soft false hf.right
  have hd := hf.down
  have h4 := fun v W (hW : Below w.heap.size w W) (h : Runes v (Norm.down soft (ints m)) W) => joinAll_any t v _ W (hT.below hW) h hd
  have hfl : (formOf soft false (ints m)).length ≤ 20000 := by
    unfold formOf
    split
    · have := join_len' (Norm.down soft (ints m)); omega
    · omega
  have h5 := fun v W (h : Runes v (formOf soft false (ints m)) W) => string_at v _ W h hfl hfr (strB_right hfr)
  obtain ⟨b0, b1, b2, b3, rfl, -, -, -, -⟩ := hT
  have H1 := Lib.hid h1
  have H4 := Lib.hid h4
  have H5 := Lib.hid h5
  clear h1 h4 h5 hfr hd hfl hf
  go_enter Try.func41, Try.ntmps41
  go_wp2_with fail
  refine (H1.out _ (below_one _ _)).mono ?_
  rintro e w1 ⟨v1, rfl, ho1, hb1⟩
  obtain ⟨hz, k0, k1, k2, k3⟩ := boxTable hb1
  have R1 := Lib.hid ho1.runes
  have B1 := Lib.hid (below_then (below_one w _) hb1)
  clear ho1 hb1
  clear H4
  go_wp2_with fail
  refine (H5.out _ _ R1.out).mono ?_
  rintro e w3 ⟨rfl, hb3⟩
  have B3 := Lib.hid (below_then B1.out hb3)
  clear hb3
  go_wp2
  go_ret2
  exact ⟨rfl, B3.out⟩
set_option maxHeartbeats 1000000 in
theorem together_no (t : Value) (s : ByteArray) (soft : Bool) (w : World) (hT : Table w t) (hs : s.size ≤ 100000) {m : List Nat} {k : Nat} (hrd : rdOf s.data.toList = (m, (k : Int))) :
    Calls Try.prog 42 #[t, .string s, .bool soft] w (StrAt [] false w) := by
  have h1 := fun W (hW : Below w.heap.size w W) => ordered_no t s soft W (hT.below hW) hs hrd
  obtain ⟨b0, b1, b2, b3, rfl, -, -, -, -⟩ := hT
  have H1 := Lib.hid h1
  clear h1 hrd
  go_enter Try.func42, Try.ntmps42
  go_wp2_with fail
  refine (H1.out _ (below_one _ _)).mono ?_
  rintro e w1 ⟨rfl, hb1⟩
  have B1 := Lib.hid (below_then (below_one w _) hb1)
  clear hb1
  go_wp2
  go_ret2
  exact ⟨rfl, B1.out⟩
set_option maxHeartbeats 1000000 in
theorem together_yes (t : Value) (s : ByteArray) (soft : Bool) (w : World) (hT : Table w t) {m : List Nat} (hf : Fits soft s m) :
    Calls Try.prog 42 #[t, .string s, .bool soft] w (StrAt (encZ (formOf soft true (ints m))) true w) := by
  have h1 := fun W (hW : Below w.heap.size w W) => ordered_yes t s soft W (hT.below hW) hf
  have hfr := form_right soft true hf.right
  have hd := hf.down
  have h4 := fun v W (hW : Below w.heap.size w W) (h : Runes v (Norm.down soft (ints m)) W) => joinAll_any t v _ W (hT.below hW) h hd
  have hfl : (formOf soft true (ints m)).length ≤ 20000 := by
    unfold formOf
    split
    · have := join_len' (Norm.down soft (ints m)); omega
    · omega
  have h5 := fun v W (h : Runes v (formOf soft true (ints m)) W) => string_at v _ W h hfl hfr (strB_right hfr)
  obtain ⟨b0, b1, b2, b3, rfl, -, -, -, -⟩ := hT
  have H1 := Lib.hid h1
  have H4 := Lib.hid h4
  have H5 := Lib.hid h5
  clear h1 h4 h5 hfr hd hfl hf
  go_enter Try.func42, Try.ntmps42
  go_wp2_with fail
  refine (H1.out _ (below_one _ _)).mono ?_
  rintro e w1 ⟨v1, rfl, ho1, hb1⟩
  obtain ⟨hz, k0, k1, k2, k3⟩ := boxTable hb1
  have R1 := Lib.hid ho1.runes
  have B1 := Lib.hid (below_then (below_one w _) hb1)
  clear ho1 hb1
  go_wp2_with fail
  refine (H4.out _ _ B1.out R1.out).mono ?_
  rintro e w2 ⟨v2, rfl, ho2, hb2⟩
  have R2 := Lib.hid ho2.runes
  have B2 := Lib.hid (below_then B1.out hb2)
  clear ho2 hb2
  go_wp2_with fail
  refine (H5.out _ _ R2.out).mono ?_
  rintro e w3 ⟨rfl, hb3⟩
  have B3 := Lib.hid (below_then B2.out hb3)
  clear hb3
  go_wp2
  go_ret2
  exact ⟨rfl, B3.out⟩
set_option maxHeartbeats 1000000 in
theorem nfd_yes (t : Value) (s : ByteArray) (w : World) (hT : Table w t) {m : List Nat} (hf : Fits false s m) :
    Calls Try.prog 19 #[t, .string s] w (StrAt (encZ (formOf false false (ints m))) true w) := by
  have h1 := fun W (hW : Below w.heap.size w W) => apart_yes t s false W (hT.below hW) hf
  obtain ⟨b0, b1, b2, b3, rfl, -, -, -, -⟩ := hT
  have H1 := Lib.hid h1
  clear h1 hf
  go_enter Try.func19, Try.ntmps19
  go_wp2_with fail
  refine (H1.out _ (below_one _ _)).mono ?_
  rintro e w1 ⟨rfl, hb1⟩
  have B1 := Lib.hid (below_then (below_one w _) hb1)
  clear hb1
  go_wp2
  go_ret2
  exact ⟨rfl, B1.out⟩
set_option maxHeartbeats 1000000 in
theorem nfd_no (t : Value) (s : ByteArray) (w : World) (hT : Table w t) (hs : s.size ≤ 100000) {m : List Nat} {k : Nat} (hrd : rdOf s.data.toList = (m, (k : Int))) :
    Calls Try.prog 19 #[t, .string s] w (StrAt [] false w) := by
  have h1 := fun W (hW : Below w.heap.size w W) => apart_no t s false W (hT.below hW) hs hrd
  obtain ⟨b0, b1, b2, b3, rfl, -, -, -, -⟩ := hT
  have H1 := Lib.hid h1
  clear h1 hrd
  go_enter Try.func19, Try.ntmps19
  go_wp2_with fail
  refine (H1.out _ (below_one _ _)).mono ?_
  rintro e w1 ⟨rfl, hb1⟩
  have B1 := Lib.hid (below_then (below_one w _) hb1)
  clear hb1
  go_wp2
  go_ret2
  exact ⟨rfl, B1.out⟩
set_option maxHeartbeats 1000000 in
theorem nfc_yes (t : Value) (s : ByteArray) (w : World) (hT : Table w t) {m : List Nat} (hf : Fits false s m) :
    Calls Try.prog 20 #[t, .string s] w (StrAt (encZ (formOf false true (ints m))) true w) := by
  have h1 := fun W (hW : Below w.heap.size w W) => together_yes t s false W (hT.below hW) hf
  obtain ⟨b0, b1, b2, b3, rfl, -, -, -, -⟩ := hT
  have H1 := Lib.hid h1
  clear h1 hf
  go_enter Try.func20, Try.ntmps20
  go_wp2_with fail
  refine (H1.out _ (below_one _ _)).mono ?_
  rintro e w1 ⟨rfl, hb1⟩
  have B1 := Lib.hid (below_then (below_one w _) hb1)
  clear hb1
  go_wp2
  go_ret2
  exact ⟨rfl, B1.out⟩
set_option maxHeartbeats 1000000 in
theorem nfc_no (t : Value) (s : ByteArray) (w : World) (hT : Table w t) (hs : s.size ≤ 100000) {m : List Nat} {k : Nat} (hrd : rdOf s.data.toList = (m, (k : Int))) :
    Calls Try.prog 20 #[t, .string s] w (StrAt [] false w) := by
  have h1 := fun W (hW : Below w.heap.size w W) => together_no t s false W (hT.below hW) hs hrd
  obtain ⟨b0, b1, b2, b3, rfl, -, -, -, -⟩ := hT
  have H1 := Lib.hid h1
  clear h1 hrd
  go_enter Try.func20, Try.ntmps20
  go_wp2_with fail
  refine (H1.out _ (below_one _ _)).mono ?_
  rintro e w1 ⟨rfl, hb1⟩
  have B1 := Lib.hid (below_then (below_one w _) hb1)
  clear hb1
  go_wp2
  go_ret2
  exact ⟨rfl, B1.out⟩
set_option maxHeartbeats 1000000 in
theorem nfkd_yes (t : Value) (s : ByteArray) (w : World) (hT : Table w t) {m : List Nat} (hf : Fits true s m) :
    Calls Try.prog 21 #[t, .string s] w (StrAt (encZ (formOf true false (ints m))) true w) := by
  have h1 := fun W (hW : Below w.heap.size w W) => apart_yes t s true W (hT.below hW) hf
  obtain ⟨b0, b1, b2, b3, rfl, -, -, -, -⟩ := hT
  have H1 := Lib.hid h1
  clear h1 hf
  go_enter Try.func21, Try.ntmps21
  go_wp2_with fail
  refine (H1.out _ (below_one _ _)).mono ?_
  rintro e w1 ⟨rfl, hb1⟩
  have B1 := Lib.hid (below_then (below_one w _) hb1)
  clear hb1
  go_wp2
  go_ret2
  exact ⟨rfl, B1.out⟩
set_option maxHeartbeats 1000000 in
theorem nfkd_no (t : Value) (s : ByteArray) (w : World) (hT : Table w t) (hs : s.size ≤ 100000) {m : List Nat} {k : Nat} (hrd : rdOf s.data.toList = (m, (k : Int))) :
    Calls Try.prog 21 #[t, .string s] w (StrAt [] false w) := by
  have h1 := fun W (hW : Below w.heap.size w W) => apart_no t s true W (hT.below hW) hs hrd
  obtain ⟨b0, b1, b2, b3, rfl, -, -, -, -⟩ := hT
  have H1 := Lib.hid h1
  clear h1 hrd
  go_enter Try.func21, Try.ntmps21
  go_wp2_with fail
  refine (H1.out _ (below_one _ _)).mono ?_
  rintro e w1 ⟨rfl, hb1⟩
  have B1 := Lib.hid (below_then (below_one w _) hb1)
  clear hb1
  go_wp2
  go_ret2
  exact ⟨rfl, B1.out⟩
set_option maxHeartbeats 1000000 in
theorem nfkc_yes (t : Value) (s : ByteArray) (w : World) (hT : Table w t) {m : List Nat} (hf : Fits true s m) :
    Calls Try.prog 22 #[t, .string s] w (StrAt (encZ (formOf true true (ints m))) true w) := by
  have h1 := fun W (hW : Below w.heap.size w W) => together_yes t s true W (hT.below hW) hf
  obtain ⟨b0, b1, b2, b3, rfl, -, -, -, -⟩ := hT
  have H1 := Lib.hid h1
  clear h1 hf
  go_enter Try.func22, Try.ntmps22
  go_wp2_with fail
  refine (H1.out _ (below_one _ _)).mono ?_
  rintro e w1 ⟨rfl, hb1⟩
  have B1 := Lib.hid (below_then (below_one w _) hb1)
  clear hb1
  go_wp2
  go_ret2
  exact ⟨rfl, B1.out⟩
set_option maxHeartbeats 1000000 in
theorem nfkc_no (t : Value) (s : ByteArray) (w : World) (hT : Table w t) (hs : s.size ≤ 100000) {m : List Nat} {k : Nat} (hrd : rdOf s.data.toList = (m, (k : Int))) :
    Calls Try.prog 22 #[t, .string s] w (StrAt [] false w) := by
  have h1 := fun W (hW : Below w.heap.size w W) => together_no t s true W (hT.below hW) hs hrd
  obtain ⟨b0, b1, b2, b3, rfl, -, -, -, -⟩ := hT
  have H1 := Lib.hid h1
  clear h1 hrd
  go_enter Try.func22, Try.ntmps22
  go_wp2_with fail
  refine (H1.out _ (below_one _ _)).mono ?_
  rintro e w1 ⟨rfl, hb1⟩
  have B1 := Lib.hid (below_then (below_one w _) hb1)
  clear hb1
  go_wp2
  go_ret2
  exact ⟨rfl, B1.out⟩
set_option maxHeartbeats 1000000 in
theorem is_no (t : Value) (s : ByteArray) (w : World) (hT : Table w t) (hs : s.size ≤ 100000) {m : List Nat} {k : Nat} (hrd : rdOf s.data.toList = (m, (k : Int))) :
    Calls Try.prog 24 #[t, .string s] w fun e w' => e = .returned (.bool false) ∧ Below w.heap.size w w' := by
  have h1 := fun W (hW : Below w.heap.size w W) => nfc_no t s W (hT.below hW) hs hrd
  obtain ⟨b0, b1, b2, b3, rfl, -, -, -, -⟩ := hT
  have H1 := Lib.hid h1
  clear h1 hrd
  go_enter Try.func24, Try.ntmps24
  go_wp2_with fail
  refine (H1.out _ (below_one _ _)).mono ?_
  rintro e w1 ⟨rfl, hb1⟩
  have B1 := Lib.hid (below_then (below_one w _) hb1)
  clear hb1
  go_wp2
  go_ret
  exact ⟨rfl, B1.out⟩
set_option maxHeartbeats 1000000 in
theorem is_yes (t : Value) (s : ByteArray) (w : World) (hT : Table w t) {m : List Nat} (hf : Fits false s m) {b : Bool} (hb : (encZ (formOf false true (ints m)) == s.toList) = b) :
    Calls Try.prog 24 #[t, .string s] w fun e w' => e = .returned (.bool b) ∧ Below w.heap.size w w' := by
  have h1 := fun W (hW : Below w.heap.size w W) => nfc_yes t s W (hT.below hW) hf
  obtain ⟨b0, b1, b2, b3, rfl, -, -, -, -⟩ := hT
  generalize encZ (formOf false true (ints m)) = bs at h1 hb
  have H1 := Lib.hid h1
  have HB := Lib.hid hb
  clear h1 hf hb
  go_enter Try.func24, Try.ntmps24
  go_wp2_with fail
  refine (H1.out _ (below_one _ _)).mono ?_
  rintro e w1 ⟨rfl, hb1⟩
  have B1 := Lib.hid (below_then (below_one w _) hb1)
  clear hb1
  go_wp2
  go_ret
  refine ⟨?_, B1.out⟩
  rw [← HB.out]
  rfl
end Go.Proofs.Ytpmcmbkilcpleaa
