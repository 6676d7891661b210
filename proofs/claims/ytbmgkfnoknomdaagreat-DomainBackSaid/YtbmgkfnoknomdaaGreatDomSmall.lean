/-
  Proved here: what the laws of layer 9 ask of the program's five functions; the head of these laws comes out true, given that.
-/
import Derived.Test.YtbmgkfnoknomdaaGreatDomRefs
import Derived.Test.YtbmgkfnoknomdaaGreatLabSmall
namespace Go.Proofs.YtbmgkfnoknomdaaGreat
open Go.RowKit Utf
namespace Dom
def sameD (a b : List UInt8) : Bool := (bothD a).1 == 0 && (bothD b).1 == 0 && (bothD a).2.1 == (bothD b).2.1
end Dom
/-- A string of up to 210 bytes. -/
theorem dom_of {s : ByteArray} (hs : s.size ≤ 210) : LabFits s := by
  refine ⟨by omega, fun m hm => ?_⟩
  obtain ⟨h1, h2⟩ := Lab.rd_is (s := s.data.toList) (by rw [hm])
  rw [hm] at h1 h2
  simp only at h1 h2
  have h3 : (Fold.fold (ints m)).length ≤ 2 * (encZ (ints m)).length := Lab.fold_short h1
  have h4 : s.data.toList = encZ (ints m) := h2
  rw [← h4] at h3
  have e : s.data.toList.length = s.size := by simp
  have hml : m.length ≤ 210 := by have := (rd_cases hm).2.1; simp at this; omega
  have hdw := Lab.down_few ((ints m).map Fold.fo)
  rw [List.length_map] at hdw
  have hil : (ints m).length = m.length := by simp [ints]
  exact ⟨⟨by omega, hm, by omega, by omega⟩, by omega⟩
theorem dom_few {s : ByteArray} (hs : s.size ≤ 210) : ∀ m, rdOf s.data.toList = (m, -1) → m.length ≤ 420 ∧ (Fold.fold (ints m)).length ≤ 420 := fun m hm => by
  have hml : m.length ≤ 210 := by have := (rd_cases hm).2.1; simp at this; omega
  exact ⟨by omega, ((dom_of hs).2 m hm).2⟩
/-- A folded row of characters, written. -/
theorem dom_enc {X : List Int} (hX : rightsZ X = true) (hf : Fold.fold X = X) (hl : X.length ≤ 253) : LabFits ⟨(encZ X).toArray⟩ := by
  have hdw := Lab.down_few (X.map Fold.fo)
  rw [List.length_map] at hdw
  exact lab_enc hX (by omega) (by omega) (by rw [hf]; omega)
/-- What the program's five functions tell. -/
structure DomOk : Prop where
  labels : ∀ (t : Value) (s : ByteArray) (w : World), Table w t → LabFits s → Calls Tryz.prog 10 #[t, .string s] w (LabelsPost (Dom.labelsE s.data.toList) w)
  ascii : ∀ (t : Value) (s : ByteArray) (w : World), Table w t → LabFits s → Calls Tryz.prog 12 #[t, .string s] w fun e w' => e = .returned (.tuple #[.string ⟨(Dom.bothD s.data.toList).2.1.toArray⟩, .int .i64 (Dom.bothD s.data.toList).1]) ∧ Below w.heap.size w w'
  uni : ∀ (t : Value) (s : ByteArray) (w : World), Table w t → LabFits s → Calls Tryz.prog 13 #[t, .string s] w fun e w' => e = .returned (.tuple #[.string ⟨(Dom.bothD s.data.toList).2.2.toArray⟩, .int .i64 (Dom.bothD s.data.toList).1]) ∧ Below w.heap.size w w'
  same : ∀ (t : Value) (a b : ByteArray) (w : World), Table w t → LabFits a → LabFits b → Calls Tryz.prog 18 #[t, .string a, .string b] w fun e w' => e = .returned (.bool (Dom.sameD a.data.toList b.data.toList)) ∧ Below w.heap.size w w'
  down : ∀ (t : Value) (s : ByteArray) (w : World), Table w t → LabFits s → Calls Tryz.prog 15 #[t, .string s] w fun e w' => e = .returned (.tuple #[.string ⟨(Dom.downD s.data.toList).toArray⟩, .int .i64 (Dom.bothD s.data.toList).1]) ∧ Below w.heap.size w w'
theorem DomOk.ascii_at (B : DomOk) (t : Value) (s : ByteArray) (w : World) (hT : Table w t) (hs : LabFits s) {x : Int} {a u : List UInt8} (hx : Dom.bothD s.data.toList = (x, a, u)) : Calls Tryz.prog 12 #[t, .string s] w fun e w' => e = .returned (.tuple #[.string ⟨a.toArray⟩, .int .i64 x]) ∧ Below w.heap.size w w' := by
  have := B.ascii t s w hT hs
  rwa [hx] at this
theorem DomOk.uni_at (B : DomOk) (t : Value) (s : ByteArray) (w : World) (hT : Table w t) (hs : LabFits s) {x : Int} {a u : List UInt8} (hx : Dom.bothD s.data.toList = (x, a, u)) : Calls Tryz.prog 13 #[t, .string s] w fun e w' => e = .returned (.tuple #[.string ⟨u.toArray⟩, .int .i64 x]) ∧ Below w.heap.size w w' := by
  have := B.uni t s w hT hs
  rwa [hx] at this
theorem DomOk.same_at (B : DomOk) (t : Value) (a b : ByteArray) (w : World) (hT : Table w t) (ha : LabFits a) (hb : LabFits b) {x : Bool} (hx : Dom.sameD a.data.toList b.data.toList = x) : Calls Tryz.prog 18 #[t, .string a, .string b] w fun e w' => e = .returned (.bool x) ∧ Below w.heap.size w w' := by
  have := B.same t a b w hT ha hb
  rwa [hx] at this
theorem DomOk.down_at (B : DomOk) (t : Value) (s : ByteArray) (w : World) (hT : Table w t) (hs : LabFits s) {x : Int} {d : List UInt8} (hx : (Dom.bothD s.data.toList).1 = x) (hd : Dom.downD s.data.toList = d) : Calls Tryz.prog 15 #[t, .string s] w fun e w' => e = .returned (.tuple #[.string ⟨d.toArray⟩, .int .i64 x]) ∧ Below w.heap.size w w' := by
  have := B.down t s w hT hs
  rwa [hx, hd] at this
theorem DomOk.labels_at (B : DomOk) (t : Value) (s : ByteArray) (w : World) (hT : Table w t) (hs : LabFits s) {p : Int × List (List Int)} (hx : Dom.labelsE s.data.toList = p) : Calls Tryz.prog 10 #[t, .string s] w (LabelsPost p w) := by
  have := B.labels t s w hT hs
  rwa [hx] at this
theorem dom_e0 : Dom.bothD [65, 46, 98, 195, 188, 99, 104, 101, 114, 227, 128, 130, 99] = (0, [97, 46, 120, 110, 45, 45, 98, 99, 104, 101, 114, 45, 107, 118, 97, 46, 99], [97, 46, 98, 195, 188, 99, 104, 101, 114, 46, 99]) := by decide +kernel
theorem dom_e1 : Dom.bothD [65, 46, 120, 110, 45, 45, 98, 99, 104, 101, 114, 45, 107, 118, 97] = (0, [97, 46, 120, 110, 45, 45, 98, 99, 104, 101, 114, 45, 107, 118, 97], [97, 46, 98, 195, 188, 99, 104, 101, 114]) := by decide +kernel
theorem dom_e2 : Dom.bothD [97, 46, 46, 98] = (13, [], []) := by decide +kernel
theorem dom_e3 : Dom.bothD [] = (13, [], []) := by decide +kernel
theorem dom_e4 : (Dom.bothD [65, 46, 98]).1 = 0 := by decide +kernel
theorem dom_d4 : Dom.downD [65, 46, 98] = [65, 46, 98] := by decide +kernel
theorem dom_e5 : Dom.labelsE [97, 46, 98] = (0, [[97], [98]]) := by decide +kernel
theorem dom_e6 : Dom.sameD [98, 195, 156, 99, 104, 101, 114] [88, 78, 45, 45, 98, 99, 104, 101, 114, 45, 107, 118, 97] = true := by decide +kernel
theorem dom_e7 : Dom.sameD [97] [98] = false := by decide +kernel
theorem dom_e8 : Dom.sameD [] [] = false := by decide +kernel
set_option maxHeartbeats 8000000 in
set_option maxRecDepth 100000 in
theorem small9_any (B : DomOk) (w : World) : Calls Tryz.prog 8 #[] w fun e w' => e = .returned (.bool true) ∧ Below w.heap.size w w' := by
  go_enter Tryz.func8, Tryz.ntmps8
  go_wp2_with fail
  refine (new_any _).mono ?_
  rintro e w1 ⟨tt, rfl, hT, hb1⟩
  have hT' := hT
  obtain ⟨b0, b1, b2, b3, rfl, -, -, -, -⟩ := hT'
  have K0 := Lib.hid (kept_new (b0 := b0) (b1 := b1) (b2 := b2) (b3 := b3) hb1 hT 28)
  obtain ⟨hS, c0, c1, c2, c3⟩ := K0.out.held
  clear hT hb1
  go_wp2_with fail
  refine (B.ascii_at (.agg #[.slice (some ⟨b0, 0, none⟩) 74 74, .slice (some ⟨b1, 0, none⟩) 10 10, .slice (some ⟨b2, 0, none⟩) 11 11, .slice (some ⟨b3, 0, none⟩) 42 42]) ⟨#[65, 46, 98, 195, 188, 99, 104, 101, 114, 227, 128, 130, 99]⟩ _ K0.out.table (dom_of (by decide)) (x := 0) (a := [97, 46, 120, 110, 45, 45, 98, 99, 104, 101, 114, 45, 107, 118, 97, 46, 99]) (u := [97, 46, 98, 195, 188, 99, 104, 101, 114, 46, 99]) dom_e0).mono ?_
  rintro e w2 ⟨rfl, hb⟩
  have K1 := Lib.hid (K0.out.next hb)
  clear hb K0 hS c0 c1 c2 c3
  obtain ⟨hS, c0, c1, c2, c3⟩ := K1.out.held
  go_wp2_with fail
  refine (B.uni_at (.agg #[.slice (some ⟨b0, 0, none⟩) 74 74, .slice (some ⟨b1, 0, none⟩) 10 10, .slice (some ⟨b2, 0, none⟩) 11 11, .slice (some ⟨b3, 0, none⟩) 42 42]) ⟨#[65, 46, 120, 110, 45, 45, 98, 99, 104, 101, 114, 45, 107, 118, 97]⟩ _ K1.out.table (dom_of (by decide)) (x := 0) (a := [97, 46, 120, 110, 45, 45, 98, 99, 104, 101, 114, 45, 107, 118, 97]) (u := [97, 46, 98, 195, 188, 99, 104, 101, 114]) dom_e1).mono ?_
  rintro e w3 ⟨rfl, hb⟩
  have K2 := Lib.hid (K1.out.next hb)
  clear hb K1 hS c0 c1 c2 c3
  obtain ⟨hS, c0, c1, c2, c3⟩ := K2.out.held
  go_wp2_with fail
  refine (B.ascii_at (.agg #[.slice (some ⟨b0, 0, none⟩) 74 74, .slice (some ⟨b1, 0, none⟩) 10 10, .slice (some ⟨b2, 0, none⟩) 11 11, .slice (some ⟨b3, 0, none⟩) 42 42]) ⟨#[97, 46, 46, 98]⟩ _ K2.out.table (dom_of (by decide)) (x := 13) (a := []) (u := []) dom_e2).mono ?_
  rintro e w4 ⟨rfl, hb⟩
  have K3 := Lib.hid (K2.out.next hb)
  clear hb K2 hS c0 c1 c2 c3
  obtain ⟨hS, c0, c1, c2, c3⟩ := K3.out.held
  go_wp2_with fail
  refine (B.ascii_at (.agg #[.slice (some ⟨b0, 0, none⟩) 74 74, .slice (some ⟨b1, 0, none⟩) 10 10, .slice (some ⟨b2, 0, none⟩) 11 11, .slice (some ⟨b3, 0, none⟩) 42 42]) ⟨#[]⟩ _ K3.out.table (dom_of (by decide)) (x := 13) (a := []) (u := []) dom_e3).mono ?_
  rintro e w5 ⟨rfl, hb⟩
  have K4 := Lib.hid (K3.out.next hb)
  clear hb K3 hS c0 c1 c2 c3
  obtain ⟨hS, c0, c1, c2, c3⟩ := K4.out.held
  go_wp2_with fail
  refine (B.down_at (.agg #[.slice (some ⟨b0, 0, none⟩) 74 74, .slice (some ⟨b1, 0, none⟩) 10 10, .slice (some ⟨b2, 0, none⟩) 11 11, .slice (some ⟨b3, 0, none⟩) 42 42]) ⟨#[65, 46, 98]⟩ _ K4.out.table (dom_of (by decide)) (x := 0) (d := [65, 46, 98]) dom_e4 dom_d4).mono ?_
  rintro e w6 ⟨rfl, hb⟩
  have K5 := Lib.hid (K4.out.next hb)
  clear hb K4 hS c0 c1 c2 c3
  obtain ⟨hS, c0, c1, c2, c3⟩ := K5.out.held
  go_wp2_with fail
  refine (B.labels_at (.agg #[.slice (some ⟨b0, 0, none⟩) 74 74, .slice (some ⟨b1, 0, none⟩) 10 10, .slice (some ⟨b2, 0, none⟩) 11 11, .slice (some ⟨b3, 0, none⟩) 42 42]) ⟨#[97, 46, 98]⟩ _ K5.out.table (dom_of (by decide)) dom_e5).mono ?_
  rintro e w7 ⟨v, rfl, hv, hb⟩
  obtain ⟨A, c, rfl, -, hx⟩ := hv.form
  obtain ⟨ad, rfl, -, hcell⟩ := hx 1 (by decide)
  have hcell : w7.cell? ⟨ad.block, ad.off + 1, none⟩ = some (.string ⟨#[98]⟩) := by rw [← show ad.add 1 = ⟨ad.block, ad.off + 1, none⟩ by unfold Addr.add; rw [if_neg (by decide)]]; exact hcell
  rw [show ((([[97], [98]] : List (List Int)).map encZ).length) = 2 from rfl]
  have K6 := Lib.hid (K5.out.next hb)
  clear hb K5 hS c0 c1 c2 c3 hv hx
  obtain ⟨hS, c0, c1, c2, c3⟩ := K6.out.held
  go_wp2_with fail
  refine (B.same_at (.agg #[.slice (some ⟨b0, 0, none⟩) 74 74, .slice (some ⟨b1, 0, none⟩) 10 10, .slice (some ⟨b2, 0, none⟩) 11 11, .slice (some ⟨b3, 0, none⟩) 42 42]) ⟨#[98, 195, 156, 99, 104, 101, 114]⟩ ⟨#[88, 78, 45, 45, 98, 99, 104, 101, 114, 45, 107, 118, 97]⟩ _ K6.out.table (dom_of (by decide)) (dom_of (by decide)) (x := true) dom_e6).mono ?_
  rintro e w8 ⟨rfl, hb⟩
  have K7 := Lib.hid (K6.out.next hb)
  clear hb K6 hS c0 c1 c2 c3 hcell
  obtain ⟨hS, c0, c1, c2, c3⟩ := K7.out.held
  go_wp2_with fail
  refine (B.same_at (.agg #[.slice (some ⟨b0, 0, none⟩) 74 74, .slice (some ⟨b1, 0, none⟩) 10 10, .slice (some ⟨b2, 0, none⟩) 11 11, .slice (some ⟨b3, 0, none⟩) 42 42]) ⟨#[97]⟩ ⟨#[98]⟩ _ K7.out.table (dom_of (by decide)) (dom_of (by decide)) (x := false) dom_e7).mono ?_
  rintro e w9 ⟨rfl, hb⟩
  have K8 := Lib.hid (K7.out.next hb)
  clear hb K7 hS c0 c1 c2 c3
  obtain ⟨hS, c0, c1, c2, c3⟩ := K8.out.held
  go_wp2_with fail
  refine (B.same_at (.agg #[.slice (some ⟨b0, 0, none⟩) 74 74, .slice (some ⟨b1, 0, none⟩) 10 10, .slice (some ⟨b2, 0, none⟩) 11 11, .slice (some ⟨b3, 0, none⟩) 42 42]) ⟨#[]⟩ ⟨#[]⟩ _ K8.out.table (dom_of (by decide)) (dom_of (by decide)) (x := false) dom_e8).mono ?_
  rintro e w10 ⟨rfl, hb⟩
  have K9 := Lib.hid (K8.out.next hb)
  clear hb K8 hS c0 c1 c2 c3
  obtain ⟨hS, c0, c1, c2, c3⟩ := K9.out.held
  go_wp2
  go_ret
  exact ⟨rfl, K9.out.below⟩
end Go.Proofs.YtbmgkfnoknomdaaGreat
