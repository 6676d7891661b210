/-
  Proved here: fold's 'each' at characters, handed any bound function that tells a character and leaves what lay in memory as it was: what it makes of each, in new memory. Conditions: the slice can be read, and holds at most 10,000 numbers.
  Proved here: fold's Width, Lower, Plain, Fold and Alike tell what the document says. Conditions: the table is one that New made; slices can be read, and hold at most 10,000 numbers; strings have at most 100,000 bytes, of at most 10,000 characters.
  Proved here: the small case at the head of each law of layer 4 comes out true. Conditions: none.
  Proved here: the law FoldSame: what is folded again is as it was, and a string and its normal forms are folded alike. Conditions: none.
  Proved here: the law FoldPlain: what is ASCII is folded as Plain says, and Plain, done again, changes nothing. Conditions: none.
  Proved here: the law FoldSmall: nothing that is folded has a great letter, or a wide character. Conditions: none.
  Proved here: the law FoldParts: letters are folded one by one, and so are rows of them. Conditions: none.
  Proved here: the law FoldTells: what is folded is what the document says, and is new memory. Conditions: none.
-/
import Derived.Test.YtmbammhkkcnoaaaGreatFoldBytes
import Derived.Test.YtmbammhkkcnoaaaGreatFoldRef
import Derived.Test.YtmbammhkkcnoaaaGreatNormLaw
namespace Go.Proofs.YtmbammhkkcnoaaaGreat
open Go.RowKit Utf
set_option maxHeartbeats 4000000 in
set_option maxRecDepth 100000 in
theorem eachR_any (g : Nat) (rv : Array Value) (f : Int → Int) (v : Value) (l : List Int) (w : World) (eg : ∀ args w, (callFunc g args).run Tryz.prog w = .ok (.enter g args) w) (hl : Runes v l w) (hn : l.length ≤ 10000)
    (hf : ∀ (W : World) (x : Int), Below w.heap.size w W → Calls Tryz.prog g (rv ++ #[.int .i32 x]) W fun e w' => e = .returned (.int .i32 (f x)) ∧ Below W.heap.size W w') :
    Calls Tryz.prog 77 #[v, .func (.func g) rv #[]] w fun e w' => ∃ v, e = .returned v ∧ OwnR w.heap.size v (l.map f) w' ∧ Below w.heap.size w w' := by
  obtain ⟨A, c, rfl, hc, hcell⟩ := hl.form
  have HC := Lib.hid hcell
  have HF := Lib.hid hf
  obtain ⟨i0, hi0, hz0, hs0, hb0⟩ := info_parts info_i32
  have hby : i0.bytes * l.length ≤ 281474976710656 := by rw [hb0]; omega
  clear hl hcell hf
  go_enter Tryz.func77, Tryz.ntmps77
  go_wp2_with (at_make; refine wpList_make_own _ rfl _ _ 51 rfl w.heap.size 21 i0 (.int .i32 0) 1 Tryz.underlying51 hi0 hz0 hs0 _ _ _ l.length rfl rfl rfl hby (by simp only [maxLen]; omega) (by simp) ?_; intro w1 ho1 hg1)
  have hb1 := madeBelow hg1
  have B1 := Lib.hid hb1
  have O1 : Hid (OwnR w.heap.size (.slice (some ⟨w.heap.size, 0, none⟩) 0 l.length) [] w1) := Lib.hid (by simpa [OwnR] using ho1)
  clear hb1 hg1 ho1 hby hb0 hs0 hz0 hi0
  go_loopg [5, 7, 13] (l.length + 1) (fun gk v _ i wr => ∃ k : Nat, k ≤ l.length ∧ i = .int .i64 k ∧ l.length - k < gk ∧ Hid (OwnR w.heap.size v ((l.take k).map f) wr ∧ Below w.heap.size w wr))
  case atStart => exact ⟨0, Nat.zero_le _, rfl, by omega, ⟨O1.out, B1.out⟩⟩
  case round =>
    obtain ⟨k, hk, rfl, hg, I⟩ := hrel
    by_cases hlt : k < l.length
    · obtain ⟨ad, rfl, hb, hx⟩ := HC.out k hlt
      have hx' := (I.out.2.cell (by rw [add_block]; exact hb)).trans hx
      obtain ⟨x, hxe⟩ : ∃ x, x = l[k]! := ⟨_, rfl⟩
      rw [← hxe] at hx'
      have hnx : (l.take (k + 1)).map f = (l.take k).map f ++ [f x] := by rw [take_next l k hlt, List.map_append, ← hxe]; rfl
      have hle : ((l.take k).map f).length ≤ 1000000 := by rw [List.length_map, List.length_take]; omega
      have hkz : (k : Int) < (l.length : Int) := by omega
      have K := HF.out wr x I.out.2
      obtain ⟨y, hy⟩ : ∃ y, y = f x := ⟨_, rfl⟩
      rw [← hy] at K hnx
      have HN := Lib.hid hnx
      have HK := Lib.hid K
      clear hx hb hxe hnx K hy
      go_wp2_with fail
      refine HK.out.mono ?_
      rintro e w2 ⟨rfl, hb2⟩
      have HB := Lib.hid hb2
      clear hb2 HK
      go_wp2_with (at_builtin; refine append_cells w2 51 21 (.int .i32 0) 4 Tryz.underlying51 info_i32 rfl (by omega) w.heap.size u5 _ _ (I.out.1.keep HB.out) (Nat.le_trans I.out.2.size HB.out.size) hle 1 (by omega) _ rfl rfl rfl _ _ rfl rfl rfl ?_; intro v3 w3 ho3 hb3; have HO := Lib.hid ho3; have HB3 := Lib.hid hb3; clear ho3 hb3)
      have I2 : Hid (OwnR w.heap.size v3 ((l.take (k + 1)).map f) w3 ∧ Below w.heap.size w w3) := by
        refine ⟨?_, (I.out.2.trans (HB.out.mono I.out.2.size)).trans HB3.out⟩
        rw [HN.out]
        exact OwnR.more HO.out rfl rfl
      go_roundg (l.length - k)
      case measure => omega
      case rel => exact ⟨k + 1, by omega, by go_num, by omega, I2⟩
    · obtain rfl : k = l.length := by omega
      go_wp2
      go_ret
      have h := I.out.1
      rw [List.take_length] at h
      exact ⟨_, rfl, h, I.out.2⟩
end Go.Proofs.YtmbammhkkcnoaaaGreat
namespace Go.Proofs.YtmbammhkkcnoaaaGreat
open Go.RowKit Utf
theorem rows_narrow : ∀ y ∈ splits, wideOf y.rune = false := by decide +kernel
theorem wide_row {x : Int} (h : wideOf x = true) : splitOf x = some ⟨x, x - 65248, 0, true, true⟩ := by
  unfold splitOf rowOf
  cases ho : seek Sp.rune Sp.rune splits x with
  | none => simp [h]
  | some y =>
    obtain ⟨h1, h2, h3⟩ := seek_some ho
    have := rows_narrow y h1
    rw [show y.rune = x by omega, h] at this
    cases this
set_option maxHeartbeats 1000000 in
theorem narrow_any (t : Value) (x : Int) (w : World) (hT : Table w t) :
    Calls Tryz.prog 79 #[t, .int .i32 x] w fun e w' => e = .returned (.int .i32 (Fold.narrow x)) ∧ Below w.heap.size w w' := by
  have hnw : Fold.narrow x = if wideOf x then x - 65248 else x := rfl
  have hs := fun W (h : Below w.heap.size w W) => split_any t x W (hT.below h)
  have hwx := wide_row (x := x)
  obtain ⟨b0, b1, b2, b3, rfl, -, -, -, -⟩ := hT
  rcases (show x < 65281 ∨ (65281 ≤ x ∧ x ≤ 65374) ∨ (65281 ≤ x ∧ 65374 < x) by omega) with h | ⟨h1, h2⟩ | ⟨h1, h2⟩
  · have : wideOf x = false := by unfold wideOf; rw [decide_eq_false (by omega)]; rfl
    rw [this] at hnw
    rw [hnw]
    clear hs hwx hnw this
    go_enter Tryz.func79, Tryz.ntmps79
    go_wp2
    go_ret
    exact ⟨rfl, below_one _ _⟩
  · have : wideOf x = true := by unfold wideOf; rw [decide_eq_true h1, decide_eq_true h2]; rfl
    rw [this] at hnw
    have hw := hwx this
    rw [hw] at hs
    rw [hnw]
    simp only [if_true]
    have HS := Lib.hid hs
    clear hs hwx hnw this hw
    go_enter Tryz.func79, Tryz.ntmps79
    go_wp2_with fail
    refine (HS.out _ (below_one _ _)).mono ?_
    rintro e w1 ⟨he, hb1⟩
    obtain rfl : e = .returned (.tuple #[.agg #[.int .i32 x, .int .i32 (x - 65248), .int .i32 0, .bool true, .bool true], .bool true]) := he
    have HB := Lib.hid (below_then (below_one _ _) hb1)
    clear hb1
    go_wp2
    go_ret
    exact ⟨rfl, below_new HB.out (Nat.le_refl _) _⟩
  · have : wideOf x = false := by unfold wideOf; rw [decide_eq_false (p := x ≤ 65374) (by omega), Bool.and_false]
    rw [this] at hnw
    rw [hnw]
    clear hs hwx hnw this
    go_enter Tryz.func79, Tryz.ntmps79
    go_wp2
    go_ret
    exact ⟨rfl, below_one _ _⟩
theorem enter_narrow (args : Array Value) (w : World) : (callFunc 79 args).run Tryz.prog w = .ok (.enter 79 args) w := by kernel_rfl
theorem enter_lower (args : Array Value) (w : World) : (callFunc 78 args).run Tryz.prog w = .ok (.enter 78 args) w := by kernel_rfl
set_option maxHeartbeats 1000000 in
theorem width_any (t v : Value) (l : List Int) (w : World) (hT : Table w t) (hl : Runes v l w) (hn : l.length ≤ 10000) : Calls Tryz.prog 44 #[t, v] w (PiecesPost (l.map Fold.narrow) w) := by
  have h1 := fun W (h : Below w.heap.size w W) => eachR_any 79 #[t] Fold.narrow v l W enter_narrow (hl.keep h) hn (fun W2 x h2 => narrow_any t x W2 (hT.below (h.trans (h2.mono h.size))))
  have H1 := Lib.hid h1
  obtain ⟨b0, b1, b2, b3, rfl, -, -, -, -⟩ := hT
  clear h1 hl
  go_enter Tryz.func44, Tryz.ntmps44
  go_wp2_with fail
  refine (H1.out _ (below_one _ _)).mono ?_
  rintro e w1 ⟨v1, rfl, ho1, hb1⟩
  have O := Lib.hid ho1
  have B := Lib.hid (below_then (below_one _ _) hb1)
  clear ho1 hb1
  go_wp2
  go_ret
  exact ⟨_, rfl, O.out.lower (by simp), B.out⟩
set_option maxHeartbeats 1000000 in
theorem lowers_any (t v : Value) (l : List Int) (w : World) (hT : Table w t) (hl : Runes v l w) (hn : l.length ≤ 10000) : Calls Tryz.prog 43 #[t, v] w (PiecesPost (l.map lowOf) w) := by
  have h1 := fun W (h : Below w.heap.size w W) => eachR_any 78 #[t] lowOf v l W enter_lower (hl.keep h) hn (fun W2 x h2 => lower_any t x W2 (hT.below (h.trans (h2.mono h.size))))
  have H1 := Lib.hid h1
  obtain ⟨b0, b1, b2, b3, rfl, -, -, -, -⟩ := hT
  clear h1 hl
  go_enter Tryz.func43, Tryz.ntmps43
  go_wp2_with fail
  refine (H1.out _ (below_one _ _)).mono ?_
  rintro e w1 ⟨v1, rfl, ho1, hb1⟩
  have O := Lib.hid ho1
  have B := Lib.hid (below_then (below_one _ _) hb1)
  clear ho1 hb1
  go_wp2
  go_ret
  exact ⟨_, rfl, O.out.lower (by simp), B.out⟩
/-- A string that is all characters, whose folded form is not too long. -/
structure Folds (s : ByteArray) (m : List Nat) : Prop where
  size : s.size ≤ 100000
  read : rdOf s.data.toList = (m, -1)
  len : m.length ≤ 9600
  down : (Norm.down false ((ints m).map Fold.fo)).length ≤ 9600
set_option maxHeartbeats 1000000 in
theorem fold_no (t : Value) (s : ByteArray) (w : World) (hT : Table w t) (hs : s.size ≤ 100000) {m : List Nat} {k : Nat} (hrd : rdOf s.data.toList = (m, (k : Int))) :
    Calls Tryz.prog 17 #[t, .string s] w (StrAt [] false w) := by
  have h1 := fun W => runes_at s W (by omega) hrd
  obtain ⟨b0, b1, b2, b3, rfl, -, -, -, -⟩ := hT
  have H1 := Lib.hid h1
  have hk0 : (0 : Int) ≤ (k : Int) := by omega
  clear h1 hrd
  go_enter Tryz.func17, Tryz.ntmps17
  go_wp2_with fail
  refine (H1.out _).mono ?_
  rintro e w1 ⟨A1, c1, rfl, -, hb1⟩
  have B1 := Lib.hid (below_then (below_one w _) hb1)
  clear hb1
  go_wp2
  go_ret2
  exact ⟨rfl, B1.out⟩
set_option maxHeartbeats 4000000 in
set_option maxRecDepth 100000 in
theorem fold_yes (t : Value) (s : ByteArray) (w : World) (hT : Table w t) {m : List Nat} (hf : Folds s m) :
    Calls Tryz.prog 17 #[t, .string s] w (StrAt (encZ (Fold.fold (ints m))) true w) := by
  obtain ⟨hm1, -, -⟩ := rd_cases hf.read
  obtain ⟨hm3, -⟩ := ints_right m hm1
  have hml : (ints m).length ≤ 10000 := by simp only [ints, List.length_map]; have := hf.len; omega
  have hml2 : (ints m).length ≤ 9600 := by simp only [ints, List.length_map]; exact hf.len
  have hfr := map_fo_right hm3
  have h1 := fun W => runes_at s W hf.size hf.read
  have h2 := fun v W (hW : Below w.heap.size w W) (h : Runes v (ints m) W) => width_any t v (ints m) W (hT.below hW) h hml
  have h3 := fun v W (hW : Below w.heap.size w W) (h : Runes v ((ints m).map Fold.narrow) W) => lowers_any t v _ W (hT.below hW) h (by rw [List.length_map]; exact hml)
  have emap : ((ints m).map Fold.narrow).map lowOf = (ints m).map Fold.fo := by rw [List.map_map]; rfl
  simp only [emap] at h3
  obtain ⟨x, hx⟩ : ∃ x, x = encZ ((ints m).map Fold.fo) := ⟨_, rfl⟩
  have h4 := fun v W (h : Runes v ((ints m).map Fold.fo) W) => string_at v _ W h (by rw [List.length_map]; omega) hfr ((strB_right hfr).trans hx.symm)
  obtain ⟨m2, hf2, he2⟩ := again (soft := false) (join := true) hfr (by rw [List.length_map]; exact hml2) hf.down rfl
  rw [← hx] at hf2
  have h5 := fun W (hW : Below w.heap.size w W) => nfc_yes t _ W (hT.below hW) hf2
  rw [he2, show formOf false true ((ints m).map Fold.fo) = Fold.fold (ints m) from rfl] at h5
  obtain ⟨b0, b1, b2, b3, rfl, -, -, -, -⟩ := hT
  have H1 := Lib.hid h1
  have H2 := Lib.hid h2
  have H3 := Lib.hid h3
  have H4 := Lib.hid h4
  have H5 := Lib.hid h5
  clear h1 h2 h3 h4 h5 hm1 hm3 hml hml2 hfr emap hx hf hf2 he2
  go_enter Tryz.func17, Tryz.ntmps17
  go_wp2_with fail
  refine (H1.out _).mono ?_
  rintro e w1 ⟨A1, c1, rfl, hr1, hb1⟩
  obtain ⟨hz, k0, k1, k2, k3⟩ := boxTable hb1
  have R1 := Lib.hid hr1
  have B1 := Lib.hid (below_then (below_one w _) hb1)
  clear hr1 hb1
  go_wp2
  go_region_held3 (fun w' => w'.cell? ⟨w.heap.size, 0, none⟩ = some (.slice (some ⟨b0, 0, none⟩) 74 74) ∧ w'.cell? ⟨w.heap.size, 1, none⟩ = some (.slice (some ⟨b1, 0, none⟩) 10 10) ∧ w'.cell? ⟨w.heap.size, 2, none⟩ = some (.slice (some ⟨b2, 0, none⟩) 11 11) ∧ w'.cell? ⟨w.heap.size, 3, none⟩ = some (.slice (some ⟨b3, 0, none⟩) 42 42)) (go_keep) (first
    | (go_at_call 44; (with_reducible refine (H2.out _ _ B1.out.drew (R1.out.keep (Below.refl _ w1).drew)).mono ?_); rintro e w2 ⟨v2, rfl, ho2, hb2⟩; have hB2 := below_of_drew hb2; have R2 := Lib.hid ho2.runes; have B2 := Lib.hid (below_then B1.out hB2); have q0 := (hB2.cell (p := ⟨w.heap.size, 0, none⟩) hz).trans k0; have q1 := (hB2.cell (p := ⟨w.heap.size, 1, none⟩) hz).trans k1; have q2 := (hB2.cell (p := ⟨w.heap.size, 2, none⟩) hz).trans k2; have q3 := (hB2.cell (p := ⟨w.heap.size, 3, none⟩) hz).trans k3; have hz2 := Nat.lt_of_lt_of_le hz hB2.size; clear hb2 ho2 hB2 k0 k1 k2 k3)
    | (go_at_call 43; (with_reducible refine (H3.out _ _ B2.out R2.out).mono ?_); rintro e w3 ⟨v3, rfl, ho3, hb3⟩; have R3 := Lib.hid ho3.runes; have B3 := Lib.hid (below_then B2.out hb3); have p0 := (hb3.cell (p := ⟨w.heap.size, 0, none⟩) hz2).trans q0; have p1 := (hb3.cell (p := ⟨w.heap.size, 1, none⟩) hz2).trans q1; have p2 := (hb3.cell (p := ⟨w.heap.size, 2, none⟩) hz2).trans q2; have p3 := (hb3.cell (p := ⟨w.heap.size, 3, none⟩) hz2).trans q3; have hz3 := Nat.lt_of_lt_of_le hz2 hb3.size; clear hb3 ho3 q0 q1 q2 q3)
    | (go_at_call 42; (with_reducible refine (H4.out _ _ R3.out).mono ?_); rintro e w4 ⟨rfl, hb4⟩; have B4 := Lib.hid (below_then B3.out hb4); have r0 := (hb4.cell (p := ⟨w.heap.size, 0, none⟩) hz3).trans p0; have r1 := (hb4.cell (p := ⟨w.heap.size, 1, none⟩) hz3).trans p1; have r2 := (hb4.cell (p := ⟨w.heap.size, 2, none⟩) hz3).trans p2; have r3 := (hb4.cell (p := ⟨w.heap.size, 3, none⟩) hz3).trans p3; have hz4 := Nat.lt_of_lt_of_le hz3 hb4.size; clear hb4 p0 p1 p2 p3))
  all_goals
    go_wp2_with fail
    refine (H5.out _ B4.out).mono ?_
    rintro e w5 ⟨rfl, hb5⟩
    have B5 := Lib.hid (below_then B4.out hb5)
    clear hb5
    go_wp2
    go_ret2
    exact ⟨rfl, B5.out⟩
/-- What Fold answers of a string. -/
def FoldIs (s : ByteArray) (x : List UInt8) (ok : Bool) : Prop := ∀ (t : Value) (w : World), Table w t → Calls Tryz.prog 17 #[t, .string s] w (StrAt x ok w)
theorem Folds.is {s : ByteArray} {m : List Nat} (h : Folds s m) : FoldIs s (encZ (Fold.fold (ints m))) true := fun t w hT => fold_yes t s w hT h
theorem foldIs_no {s : ByteArray} (hs : s.size ≤ 100000) {m : List Nat} {k : Nat} (hrd : rdOf s.data.toList = (m, (k : Int))) : FoldIs s [] false := fun t w hT => fold_no t s w hT hs hrd
end Go.Proofs.YtmbammhkkcnoaaaGreat
namespace Go.Proofs.YtmbammhkkcnoaaaGreat
open Go.RowKit Utf
theorem fold_at {w0 : World} {S b0 b1 b2 b3 : Nat} {w : World} (h : Kept w0 S b0 b1 b2 b3 w) {s : ByteArray} {x : List UInt8} {ok : Bool} (hf : FoldIs s x ok) :
    Calls Tryz.prog 17 #[.agg #[.slice (some ⟨b0, 0, none⟩) 74 74, .slice (some ⟨b1, 0, none⟩) 10 10, .slice (some ⟨b2, 0, none⟩) 11 11, .slice (some ⟨b3, 0, none⟩) 42 42], .string s] w fun e w' => e = .returned (.tuple #[.string ⟨x.toArray⟩, .bool ok]) ∧ Hid (Kept w0 S b0 b1 b2 b3 w') ∧ Hid (Below w.heap.size w w') :=
  (hf _ w h.table).mono fun _ _ ⟨he, hb⟩ => ⟨he, h.next hb, hb⟩
theorem folds1 : Folds (⟨#[239, 188, 161, 204, 136, 226, 132, 171, 66, 206, 145]⟩ : ByteArray) [65313, 776, 8491, 66, 913] := ⟨by decide +kernel, by decide +kernel, by decide +kernel, by decide +kernel⟩
theorem folded1 : encZ (Fold.fold (ints [65313, 776, 8491, 66, 913])) = [195, 164, 195, 165, 98, 206, 177] := by decide +kernel
theorem isF1 : FoldIs (⟨#[239, 188, 161, 204, 136, 226, 132, 171, 66, 206, 145]⟩ : ByteArray) [195, 164, 195, 165, 98, 206, 177] true := folded1 ▸ folds1.is
theorem isF2 : FoldIs (⟨#[195]⟩ : ByteArray) [] false := foldIs_no (by decide) (m := []) (k := 0) (by decide +kernel)
theorem folds3 : Folds (⟨#[226, 132, 170]⟩ : ByteArray) [8490] := ⟨by decide +kernel, by decide +kernel, by decide +kernel, by decide +kernel⟩
theorem folded3 : encZ (Fold.fold (ints [8490])) = [107] := by decide +kernel
theorem isF3 : FoldIs (⟨#[226, 132, 170]⟩ : ByteArray) [107] true := folded3 ▸ folds3.is
theorem folds4 : Folds (⟨#[107]⟩ : ByteArray) [107] := ⟨by decide +kernel, by decide +kernel, by decide +kernel, by decide +kernel⟩
theorem folded4 : encZ (Fold.fold (ints [107])) = [107] := by decide +kernel
theorem isF4 : FoldIs (⟨#[107]⟩ : ByteArray) [107] true := folded4 ▸ folds4.is
theorem folds5 : Folds (⟨#[97]⟩ : ByteArray) [97] := ⟨by decide +kernel, by decide +kernel, by decide +kernel, by decide +kernel⟩
theorem folded5 : encZ (Fold.fold (ints [97])) = [97] := by decide +kernel
theorem isF5 : FoldIs (⟨#[97]⟩ : ByteArray) [97] true := folded5 ▸ folds5.is
theorem folds6 : Folds (⟨#[98]⟩ : ByteArray) [98] := ⟨by decide +kernel, by decide +kernel, by decide +kernel, by decide +kernel⟩
theorem folded6 : encZ (Fold.fold (ints [98])) = [98] := by decide +kernel
theorem isF6 : FoldIs (⟨#[98]⟩ : ByteArray) [98] true := folded6 ▸ folds6.is
theorem isF7 : FoldIs (⟨#[255]⟩ : ByteArray) [] false := foldIs_no (by decide) (m := []) (k := 0) (by decide +kernel)
theorem narrow3 : [65374, 65375, 65].map Fold.narrow = [126, 65375, 65] := by decide +kernel
theorem lower3 : [65, 122, 66560].map lowOf = [97, 122, 66600] := by decide +kernel
theorem plain_lit : (⟨#[65, 195, 90, 91]⟩ : ByteArray).data.toList.map smallB = [97, 195, 122, 91] := by decide +kernel
/-- A row of three that a call made. -/
theorem three {base : Nat} {v : Value} {a b c : Int} {w : World} (h : OwnR base v [a, b, c] w) : ∃ g cap, v = .slice (some ⟨g, 0, none⟩) 3 cap ∧ g < w.heap.size ∧ w.cell? ⟨g, 0, none⟩ = some (.int .i32 a) ∧ w.cell? ⟨g, 1, none⟩ = some (.int .i32 b) ∧ w.cell? ⟨g, 2, none⟩ = some (.int .i32 c) := by
  obtain ⟨A, cap, rfl, hA⟩ := h.shape
  obtain ⟨g, rfl, -, hg⟩ := hA (by simp)
  exact ⟨g, cap, rfl, hg, h.cell 0 (by simp), h.cell 1 (by simp), h.cell 2 (by simp)⟩
end Go.Proofs.YtmbammhkkcnoaaaGreat
namespace Go.Proofs.YtmbammhkkcnoaaaGreat
open Go.RowKit Utf
theorem folds_of {s : ByteArray} (hs : s.size ≤ 200) {m : List Nat} (h : rdOf s.data.toList = (m, -1)) : Folds s m := by
  have h1 := (rd_cases h).2.1
  have h2 : m.length ≤ 200 := by simp at h1; omega
  have h3 := down_len false ((ints m).map Fold.fo)
  have h4 : ((ints m).map Fold.fo).length = m.length := by simp [ints]
  exact ⟨by omega, h, by omega, by omega⟩
theorem folds_enc {X : List Int} (hX : rightsZ X = true) (hl : X.length ≤ 9600) (hd : (Norm.down false (X.map Fold.fo)).length ≤ 9600) : FoldIs ⟨(encZ X).toArray⟩ (encZ (Fold.fold X)) true := by
  obtain ⟨i1, -, -⟩ := ints_back hX
  have h1 := encZ_len X
  have h2 : (⟨(encZ X).toArray⟩ : ByteArray).size = (encZ X).length := by simp [ByteArray.size]
  have := Folds.is (s := ⟨(encZ X).toArray⟩) (m := X.map Int.toNat) ⟨by omega, rd_enc hX, by rw [List.length_map]; omega, by rw [i1]; omega⟩
  rwa [i1] at this
/-- What Fold makes of a short string, and of its forms. -/
theorem folds_all {l : List Int} (hr : rightsZ l = true) (hl : l.length ≤ 200) :
    FoldIs ⟨(encZ (Fold.fold l)).toArray⟩ (encZ (Fold.fold l)) true ∧ FoldIs ⟨(encZ (formOf false true l)).toArray⟩ (encZ (Fold.fold l)) true ∧ FoldIs ⟨(encZ (formOf false false l)).toArray⟩ (encZ (Fold.fold l)) true ∧
    (rightsZ (Fold.fold l) = true ∧ (Fold.fold l).length ≤ 9600) ∧ (∃ m, Fits false ⟨(encZ (Fold.fold l)).toArray⟩ m ∧ encZ (formOf false true (ints m)) = encZ (Fold.fold l)) := by
  have d0 := down_len false (l.map Fold.fo)
  have d1 := down_len false l
  rw [List.length_map] at d0
  have j0 := join_len' (Norm.down false (l.map Fold.fo))
  have j1 := join_len' (Norm.down false l)
  have r0 := join_right (down_right false (map_fo_right hr))
  have r1 := down_right false hr
  have r2 := join_right r1
  have f0 : (Fold.fold l).map Fold.fo = Fold.fold l := Fold.map_fix (Fold.fold_all_fix l)
  have e1 : Norm.down false ((Norm.join (Norm.down false l)).map Fold.fo) = Norm.down false (l.map Fold.fo) := by
    rw [Fold.down_fo, Norm.down_join, ← Fold.down_fo]
  have e2 : Norm.down false ((Norm.down false l).map Fold.fo) = Norm.down false (l.map Fold.fo) := (Fold.down_fo l).symm
  have k1 := folds_enc (X := Fold.fold l) r0 (show (Norm.join (Norm.down false (l.map Fold.fo))).length ≤ 9600 by omega) (by rw [f0, Fold.down_fold]; omega)
  rw [Fold.fold_fold] at k1
  have k2 := folds_enc (X := Norm.join (Norm.down false l)) r2 (by omega) (by rw [e1]; omega)
  rw [Fold.fold_join] at k2
  have k3 := folds_enc (X := Norm.down false l) r1 (by omega) (by rw [e2]; omega)
  rw [Fold.fold_down] at k3
  refine ⟨k1, k2, k3, ⟨r0, (show (Norm.join (Norm.down false (l.map Fold.fo))).length ≤ 9600 by omega)⟩, ?_⟩
  exact again (soft := false) (join := true) r0 (show (Norm.join (Norm.down false (l.map Fold.fo))).length ≤ 9600 by omega) (by rw [Fold.down_fold]; omega) (Fold.nfc_fold l)
end Go.Proofs.YtmbammhkkcnoaaaGreat
namespace Go.Proofs.YtmbammhkkcnoaaaGreat
open Go.RowKit Utf
theorem smallB_small (b : UInt8) : smallB (smallB b) = smallB b := by
  have hb := lt256 b
  by_cases h : 65 ≤ b.toNat ∧ b.toNat ≤ 90
  · have e : smallB b = u (b.toNat + 32) := by unfold smallB; rw [if_pos h]
    rw [e]
    unfold smallB
    rw [u_toNat (by omega), if_neg (by omega)]
  · have e : smallB b = b := by unfold smallB; rw [if_neg h]
    rw [e, e]
theorem smallB_lt (b : UInt8) : (smallB b).toNat < 128 ↔ b.toNat < 128 := by
  have hb := lt256 b
  unfold smallB
  split
  · rw [u_toNat (by omega)]; omega
  · rfl
theorem eight_small : ∀ (t : List UInt8) (k : Nat), eightFrom (t.map smallB) k = eightFrom t k
  | [], _ => rfl
  | b :: t, k => by
    have ih := eight_small t (k + 1)
    simp only [List.map_cons, eightFrom, smallB_lt, ih]
theorem map_small_small (t : List UInt8) : (t.map smallB).map smallB = t.map smallB := by
  rw [List.map_map]
  exact List.map_congr_left fun b _ => smallB_small b
theorem small_int (b : UInt8) : ((smallB b).toNat : Int) = if 65 ≤ (b.toNat : Int) ∧ (b.toNat : Int) ≤ 90 then (b.toNat : Int) + 32 else b.toNat := by
  have hb := lt256 b
  unfold smallB
  by_cases h : 65 ≤ b.toNat ∧ b.toNat ≤ 90
  · rw [if_pos h, if_pos (by omega), u_toNat (by omega)]; omega
  · rw [if_neg h, if_neg (by omega)]
/-- What is ASCII is folded as its bytes are. -/
theorem ascii_foldIs {s : ByteArray} (hs : s.size ≤ 9600) (h : ∀ b ∈ s.data.toList, b.toNat < 128) : FoldIs s (s.data.toList.map smallB) true := by
  have ha := bytes_ascii h
  have he := enc_bytes _ h
  have hsz : s.data.toList.length = s.size := by simp
  have hbs : (⟨s.data.toList.toArray⟩ : ByteArray) = s := by simp
  generalize s.data.toList = t at *
  have hX : rightsZ (t.map fun b => (b.toNat : Int)) = true := ascii_right ha
  have hm : (t.map fun b => (b.toNat : Int)).map Fold.fo = (t.map smallB).map fun b => (b.toNat : Int) := by
    rw [List.map_map, List.map_map]
    refine List.map_congr_left fun b hb => ?_
    have := h b hb
    show Fold.fo (b.toNat : Int) = ((smallB b).toNat : Int)
    rw [Norm.ascii_fo ⟨by omega, by omega⟩, small_int]
  have h2 : ∀ b ∈ t.map smallB, b.toNat < 128 := by
    intro b hb
    obtain ⟨c, hc, rfl⟩ := List.mem_map.1 hb
    exact (smallB_lt c).2 (h c hc)
  have ha2 := bytes_ascii h2
  have hd : Norm.down false ((t.map fun b => (b.toNat : Int)).map Fold.fo) = (t.map smallB).map fun b => (b.toNat : Int) := by rw [hm, Norm.ascii_down false ha2]
  have key := folds_enc hX (by rw [List.length_map]; omega) (by rw [hd, List.length_map, List.length_map]; omega)
  have hf : Fold.fold (t.map fun b => (b.toNat : Int)) = (t.map smallB).map fun b => (b.toNat : Int) := by
    unfold Fold.fold
    rw [hd, Norm.ascii_join ha2]
  rw [he, hf, enc_bytes _ h2, hbs] at key
  exact key
end Go.Proofs.YtmbammhkkcnoaaaGreat
namespace Go.Proofs.YtmbammhkkcnoaaaGreat
open Go.RowKit Utf
theorem match_undef4 {α : Type} (h1 : Bool → α) (h2 : Option Value → α) : Go.yielded.match_1 (fun _ => α) (some undef) h1 h2 = h2 (some undef) := rfl
attribute [local go_sem] match_undef4
end Go.Proofs.YtmbammhkkcnoaaaGreat
namespace Go.Proofs.YtmbammhkkcnoaaaGreat
open Go.RowKit Utf
section
variable {P : Program}
/-- 'append(v, src...)' in a region that draws its order: v a row of the call's own, src any slice that can be read. -/
theorem step_append_row (W : World) (t E : TypeId) (z : Value) (bytes : Nat) (ht : P.underlying t = some (.slice E)) (hi : (P.info? E).map (fun i => (i.zero, i.size, i.bytes)) = some (some z, 1, bytes)) (hz1 : z.cells.size = 1) (hby : bytes ≤ 8)
    (base : Nat) (v : Value) (n : Nat) (xs : List Value) (hown : W.ownsRow base E 1 v n xs) (hbase : base ≤ W.heap.size) (hlen : n ≤ 1000000) (src : Value) (cells : List Value) (hsrc : Row src cells W) (h1 : ∀ u ∈ cells, u.oneCell' = true) (hmm : cells.length ≤ 1000000)
    {ops : Array Oper} {o : Oper} {a : Act} {K : Act → World → Prop} {Q : Exit → Act → World → Prop} {F : Prop} (s x : Operand) (hw : o.guard = none)
    (ho : o.op = .call { callee := .builtin .append, args := #[s, x], argTypes := #[t, t] })
    (hs : a.eval s = v) (hx : a.eval x = src)
    (h : ∀ v' w', w'.ownsRow base E 1 v' (n + cells.length) (xs ++ cells) → Below base W w' → K (a.put o.dst v') w') : if Region.wanted o (yielded ops a.tmps) = true then Oper.wp P o a W K Q else F := by
  obtain ⟨i0, hi0, hz0, hs0, hb0⟩ := info_parts hi
  obtain ⟨A, c, rfl, hc, h0, ha⟩ := hsrc
  rw [if_pos (by simp [Region.wanted, hw])]
  cases A with
  | none =>
    have hl0 : cells.length = 0 := by have := h0 rfl; omega
    have hc0 : c = 0 := h0 rfl
    obtain rfl : cells = [] := List.eq_nil_of_length_eq_zero hl0
    subst hc0
    have hrun := run_append_owned_none (P := P) (w := W) base t o.type E i0 1 ht hi0 v n xs hown
    have hk := h v W (by simpa using hown) (Below.refl _ _)
    unfold Oper.wp
    simp only [List.length_nil] at hx
    simp [execOp, ho, resolve, invoke, builtin, hs, hx, hrun, Result.andThen]
    exact hk
  | some ad =>
    refine wp_append_own W s x t ho base E i0 z 1 bytes ht hi0 hz0 hs0 hb0 hz1 (by decide) v n xs hs hown ad cells.length c cells hx (by omega) ?_ h1 (by simp only [maxLen]; omega) ?_ hbase ?_
    · intro j u hj
      have hj' : j < cells.length := (List.getElem?_eq_some_iff.1 hj).1
      obtain ⟨ad', e, -, hcell⟩ := ha (by omega)
      obtain rfl : ad = ad' := by injection e
      exact hcell j u hj
    · have : (n + cells.length) * bytes ≤ (n + cells.length) * 8 := Nat.mul_le_mul_left _ hby
      omega
    · intro v' w' ho' hg _
      exact h v' w' ho' ((Below.refl _ W).grown hg hbase fun k hk => (hown.lt k hk).1)
end
end Go.Proofs.YtmbammhkkcnoaaaGreat
namespace Go.Proofs.YtmbammhkkcnoaaaGreat
open Go.RowKit Utf
/-- What the program and the document make of a short string. -/
theorem fold_both (s : ByteArray) (hs : s.size ≤ 200) : ∃ x ok, FoldIs s x ok ∧ ∀ w, Calls Tryz.prog 28 #[.string s] w (StrAt x ok w) := by
  obtain ⟨⟨m, z⟩, hrd⟩ : ∃ p, rdOf s.data.toList = p := ⟨_, rfl⟩
  obtain ⟨hm1, hm2, hmz⟩ := rd_cases hrd
  rcases hmz with ⟨rfl, -⟩ | ⟨k, rfl, -, -⟩
  · exact ⟨_, _, (folds_of hs hrd).is, fun w => fold4_yes s w (by omega) (by simp at hm2; omega) hrd⟩
  · exact ⟨_, _, foldIs_no (by omega) hrd, fun w => fold4_no s w (by omega) hrd⟩
end Go.Proofs.YtmbammhkkcnoaaaGreat
