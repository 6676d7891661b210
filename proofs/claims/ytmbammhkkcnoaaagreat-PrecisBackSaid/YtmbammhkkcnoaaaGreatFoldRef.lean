/-
  Proved here: the document's own 'Width', 'Lower', 'Plain' and 'Fold' of layer 4. Conditions: slices can be read, and hold at most 10,000 numbers; strings have at most 200 bytes.
-/
import Derived.Test.YtmbammhkkcnoaaaGreatFoldBytes
import Derived.Test.YtmbammhkkcnoaaaGreatNormRef
import Derived.Test.YtmbammhkkcnoaaaGreatPlainA
namespace Go.Proofs.YtmbammhkkcnoaaaGreat
open Go.RowKit Utf
set_option maxHeartbeats 2000000 in
set_option maxRecDepth 100000 in
theorem width4_any (v : Value) (l : List Int) (w : World) (hl : Runes v l w) (hn : l.length ≤ 10000) : Calls Tryz.prog 60 #[v] w (PiecesPost (l.map Fold.narrow) w) := by
  obtain ⟨A, c, rfl, hc, hcell⟩ := hl.form
  have HC := Lib.hid hcell
  clear hl hcell
  go_enter Tryz.func60, Tryz.ntmps60
  go_wp2
  go_loopg [3, 4] (l.length + 1) (fun gk v i wr => ∃ k : Nat, k ≤ l.length ∧ i = .int .i64 k ∧ l.length - k < gk ∧ Hid (OwnR w.heap.size v ((l.take k).map Fold.narrow) wr ∧ Below w.heap.size w wr))
  case atStart => exact ⟨0, Nat.zero_le _, rfl, by omega, ⟨OwnR.nil _ _, Below.refl _ _⟩⟩
  case round =>
    obtain ⟨k, hk, rfl, hg, I⟩ := hrel
    by_cases hlt : k < l.length
    · obtain ⟨ad, rfl, hb, hx⟩ := HC.out k hlt
      have hx' := (I.out.2.cell (by rw [add_block]; exact hb)).trans hx
      obtain ⟨x, hxe⟩ : ∃ x, x = l[k]! := ⟨_, rfl⟩
      rw [← hxe] at hx'
      have hnx : (l.take (k + 1)).map Fold.narrow = (l.take k).map Fold.narrow ++ [Fold.narrow x] := by rw [take_next l k hlt, List.map_append, ← hxe]; rfl
      have hle : ((l.take k).map Fold.narrow).length ≤ 1000000 := by rw [List.length_map, List.length_take]; omega
      have HN := Lib.hid hnx
      clear hx hb hxe hnx
      have hW := fun W => refWide_any x W
      have hnw : Fold.narrow x = if wideOf x then x - 65248 else x := rfl
      cases hw : wideOf x <;> rw [hw] at hW hnw
      · have HNW := Lib.hid hnw
        have HW := Lib.hid hW
        clear hw hnw hW
        go_wp2_with (first
          | (go_at_call 73; refine (HW.out _).mono ?_; rintro e w2 ⟨rfl, rfl⟩)
          | (at_builtin; refine append_cells wr 51 21 (.int .i32 0) 4 Tryz.underlying51 info_i32 rfl (by omega) w.heap.size u3 _ _ I.out.1 I.out.2.size hle 1 (by omega) _ rfl rfl rfl _ _ rfl rfl rfl ?_; intro v3 w3 ho3 hb3; have HO := Lib.hid ho3; have HB3 := Lib.hid hb3; clear ho3 hb3))
        have I2 : Hid (OwnR w.heap.size v3 ((l.take (k + 1)).map Fold.narrow) w3 ∧ Below w.heap.size w w3) := by
          refine ⟨?_, I.out.2.trans HB3.out⟩
          rw [HN.out, HNW.out]
          exact OwnR.more HO.out rfl rfl
        go_roundg (l.length - k)
        case measure => omega
        case rel => exact ⟨k + 1, by omega, by go_num, by omega, I2⟩
      · have HNW := Lib.hid hnw
        have HW := Lib.hid hW
        simp only [wideOf, Bool.and_eq_true, decide_eq_true_eq] at hw
        obtain ⟨w1, w2⟩ := hw
        clear hnw hW
        go_wp2_with (first
          | (go_at_call 73; refine (HW.out _).mono ?_; rintro e w2 ⟨rfl, rfl⟩)
          | (at_builtin; refine append_cells wr 51 21 (.int .i32 0) 4 Tryz.underlying51 info_i32 rfl (by omega) w.heap.size u3 _ _ I.out.1 I.out.2.size hle 1 (by omega) _ rfl rfl rfl _ _ rfl rfl rfl ?_; intro v3 w3 ho3 hb3; have HO := Lib.hid ho3; have HB3 := Lib.hid hb3; clear ho3 hb3))
        have I2 : Hid (OwnR w.heap.size v3 ((l.take (k + 1)).map Fold.narrow) w3 ∧ Below w.heap.size w w3) := by
          refine ⟨?_, I.out.2.trans HB3.out⟩
          rw [HN.out, HNW.out]
          exact OwnR.more HO.out rfl rfl
        go_roundg (l.length - k)
        case measure => omega
        case rel => exact ⟨k + 1, by omega, by go_num, by omega, I2⟩
    · obtain rfl : k = l.length := by omega
      go_wp2
      go_ret
      have h := I.out.1
      rw [List.take_length] at h
      exact ⟨_, rfl, h, I.out.2⟩
set_option maxHeartbeats 2000000 in
set_option maxRecDepth 100000 in
theorem lower4_any (v : Value) (l : List Int) (w : World) (hl : Runes v l w) (hn : l.length ≤ 10000) : Calls Tryz.prog 59 #[v] w (PiecesPost (l.map lowOf) w) := by
  obtain ⟨A, c, rfl, hc, hcell⟩ := hl.form
  have HC := Lib.hid hcell
  clear hl hcell
  go_enter Tryz.func59, Tryz.ntmps59
  go_wp2
  go_loopg [3, 4] (l.length + 1) (fun gk v i wr => ∃ k : Nat, k ≤ l.length ∧ i = .int .i64 k ∧ l.length - k < gk ∧ Hid (OwnR w.heap.size v ((l.take k).map lowOf) wr ∧ Below w.heap.size w wr))
  case atStart => exact ⟨0, Nat.zero_le _, rfl, by omega, ⟨OwnR.nil _ _, Below.refl _ _⟩⟩
  case round =>
    obtain ⟨k, hk, rfl, hg, I⟩ := hrel
    by_cases hlt : k < l.length
    · obtain ⟨ad, rfl, hb, hx⟩ := HC.out k hlt
      have hx' := (I.out.2.cell (by rw [add_block]; exact hb)).trans hx
      obtain ⟨x, hxe⟩ : ∃ x, x = l[k]! := ⟨_, rfl⟩
      rw [← hxe] at hx'
      have hnx : (l.take (k + 1)).map lowOf = (l.take k).map lowOf ++ [lowOf x] := by rw [take_next l k hlt, List.map_append, ← hxe]; rfl
      have hle : ((l.take k).map lowOf).length ≤ 1000000 := by rw [List.length_map, List.length_take]; omega
      have HN := Lib.hid hnx
      clear hx hb hxe hnx
      have hL := refLower_any x wr
      obtain ⟨y, hy⟩ : ∃ y, y = lowOf x := ⟨_, rfl⟩
      rw [← hy] at hL
      have HY := Lib.hid hy
      clear hy
      go_wp2_with (first
        | (go_at_call 98; ((with_reducible refine hL.mono ?_); rintro e w2 ⟨rfl, hb2⟩; have HB := Lib.hid hb2; clear hb2))
        | (at_builtin; refine append_cells w2 51 21 (.int .i32 0) 4 Tryz.underlying51 info_i32 rfl (by omega) w.heap.size u3 _ _ (I.out.1.keep HB.out) (Nat.le_trans I.out.2.size HB.out.size) hle 1 (by omega) _ rfl rfl rfl _ _ rfl rfl rfl ?_; intro v3 w3 ho3 hb3; have HO := Lib.hid ho3; have HB3 := Lib.hid hb3; clear ho3 hb3))
      have I2 : Hid (OwnR w.heap.size v3 ((l.take (k + 1)).map lowOf) w3 ∧ Below w.heap.size w w3) := by
        refine ⟨?_, (I.out.2.trans (HB.out.mono I.out.2.size)).trans HB3.out⟩
        rw [HN.out, ← HY.out]
        exact OwnR.more HO.out rfl rfl
      go_roundg (l.length - k)
      case measure => omega
      case rel => exact ⟨k + 1, by omega, by go_num, by omega, I2⟩
    · obtain rfl : k = l.length := by omega
      go_wp2
      go_ret
      have h := I.out.1
      rw [List.take_length] at h
      exact ⟨_, rfl, h, I.out.2⟩
def halfB (L : List UInt8) (k : Nat) : List UInt8 := (L.take k).map smallB ++ L.drop k
theorem halfB_len (L : List UInt8) (k : Nat) : (halfB L k).length = L.length := by
  unfold halfB; rw [List.length_append, List.length_map, List.length_take, List.length_drop]; omega
theorem halfB_at (L : List UInt8) (k : Nat) (h : k < L.length) : (halfB L k)[k]! = L[k]! := by
  rw [getElem!_pos (halfB L k) k (by rw [halfB_len]; exact h), getElem!_pos L k h]
  unfold halfB
  rw [List.getElem_append_right (by rw [List.length_map, List.length_take]; omega)]
  simp only [List.length_map, List.length_take, List.getElem_drop]
  congr 1
  omega
theorem halfB_next (L : List UInt8) (k : Nat) (h : k < L.length) : halfB L (k + 1) = (halfB L k).set k (smallB L[k]!) := by
  unfold halfB
  rw [List.set_append_right _ _ (by rw [List.length_map, List.length_take]; omega), List.take_succ_eq_append_getElem h, List.map_append, getElem!_pos L k h, List.append_assoc, List.drop_eq_getElem_cons h]
  congr 1
  rw [List.length_map, List.length_take, show k - min k L.length = 0 by omega]
  rfl
theorem halfB_same (L : List UInt8) (k : Nat) (h : k < L.length) (hs : smallB L[k]! = L[k]!) : halfB L (k + 1) = halfB L k := by
  rw [halfB_next L k h, hs]
  apply List.ext_getElem
  · simp
  · intro j h1 h2
    by_cases e : k = j
    · subst e
      rw [List.getElem_set_self, ← halfB_at L k h, getElem!_pos (halfB L k) k h2]
    · rw [List.getElem_set_ne e]
set_option maxHeartbeats 2000000 in
set_option maxRecDepth 100000 in
theorem fold4_no (s : ByteArray) (w : World) (hs : s.size ≤ 100000) {m : List Nat} {k : Nat} (hrd : rdOf s.data.toList = (m, (k : Int))) : Calls Tryz.prog 28 #[.string s] w (StrAt [] false w) := by
  have h1 := fun W => refRunes_at s W (by omega) hrd
  have H1 := Lib.hid h1
  have hk0 : (0 : Int) ≤ (k : Int) := by omega
  clear h1 hrd
  go_enter Tryz.func28, Tryz.ntmps28
  go_wp2_with fail
  refine (H1.out _).mono ?_
  rintro e w1 ⟨A1, c1, rfl, -, hb1⟩
  have B1 := Lib.hid hb1
  clear hb1
  go_wp2
  go_ret2
  exact ⟨rfl, B1.out⟩
theorem low_right : ∀ y ∈ lowers, ∀ i ∈ List.range (y.hi - y.lo + 1).toNat, rightZ (lowOf (y.lo + i)) = true := by decide +kernel
theorem wide_fo_right : ∀ i ∈ List.range 94, rightZ (Fold.fo (65281 + i)) = true := by decide +kernel
theorem fo_right {r : Int} (h : rightZ r = true) : rightZ (Fold.fo r) = true := by
  cases hw : wideOf r with
  | true =>
    simp only [wideOf, Bool.and_eq_true, decide_eq_true_eq] at hw
    have := wide_fo_right (r - 65281).toNat (by rw [List.mem_range]; omega)
    rwa [show (65281 : Int) + ((r - 65281).toNat : Int) = r by omega] at this
  | false =>
    have hn : Fold.narrow r = r := by unfold Fold.narrow; rw [hw]; rfl
    unfold Fold.fo
    rw [hn]
    cases hl : lowerOf r with
    | none => unfold lowOf; rw [hl]; exact h
    | some y =>
      obtain ⟨h1, h2, h3⟩ := seek_some hl
      have := low_right y h1 (r - y.lo).toNat (by rw [List.mem_range]; omega)
      rwa [show y.lo + ((r - y.lo).toNat : Int) = r by omega] at this
theorem map_fo_right {l : List Int} (h : rightsZ l = true) : rightsZ (l.map Fold.fo) = true := by
  unfold rightsZ at h ⊢
  rw [List.all_eq_true] at h ⊢
  intro c hc
  obtain ⟨d, hd, rfl⟩ := List.mem_map.1 hc
  exact fo_right (h d hd)
set_option maxHeartbeats 2000000 in
set_option maxRecDepth 100000 in
theorem fold4_yes (s : ByteArray) (w : World) (hs : s.size ≤ 100000) {m : List Nat} (hm : m.length ≤ 420) (hrd : rdOf s.data.toList = (m, -1)) : Calls Tryz.prog 28 #[.string s] w (StrAt (encZ (Fold.fold (ints m))) true w) := by
  obtain ⟨hm1, -, -⟩ := rd_cases hrd
  obtain ⟨hm3, -⟩ := ints_right m hm1
  have hml : (ints m).length ≤ 420 := by simp only [ints, List.length_map]; omega
  have hfr := map_fo_right hm3
  have h1 := fun W => refRunes_at s W (by omega) hrd
  have h2 := fun v W (h : Runes v (ints m) W) => width4_any v (ints m) W h (by omega)
  have h3 := fun v W (h : Runes v ((ints m).map Fold.narrow) W) => lower4_any v _ W h (by rw [List.length_map]; omega)
  have emap : ((ints m).map Fold.narrow).map lowOf = (ints m).map Fold.fo := by rw [List.map_map]; rfl
  simp only [emap] at h3
  obtain ⟨x, hx⟩ : ∃ x, x = encZ ((ints m).map Fold.fo) := ⟨_, rfl⟩
  have h4 := fun v W (h : Runes v ((ints m).map Fold.fo) W) => refString_at v _ W h (by rw [List.length_map]; omega) hfr ((strB_right hfr).trans hx.symm)
  have hre := rd_enc hfr
  rw [← hx] at hre
  have hxl : (⟨x.toArray⟩ : ByteArray).size ≤ 100000 := by
    have e : (⟨x.toArray⟩ : ByteArray).size = x.length := by simp [ByteArray.size]
    have := encZ_len ((ints m).map Fold.fo)
    rw [List.length_map] at this
    rw [e, hx]
    omega
  have h5 := fun W => form3_yes ⟨x.toArray⟩ false true W hxl (m := ((ints m).map Fold.fo).map Int.toNat) (by rw [List.length_map, List.length_map]; omega) (by simpa using hre)
  rw [(ints_back hfr).1] at h5
  have H1 := Lib.hid h1
  have H2 := Lib.hid h2
  have H3 := Lib.hid h3
  have H4 := Lib.hid h4
  have H5 := Lib.hid h5
  clear h1 h2 h3 h4 h5 hm1 hm3 hml hfr emap hx hre hxl hrd hm
  go_enter Tryz.func28, Tryz.ntmps28
  go_wp2_with fail
  refine (H1.out _).mono ?_
  rintro e w1 ⟨A1, c1, rfl, hr1, hb1⟩
  have R1 := Lib.hid hr1
  have B1 := Lib.hid hb1
  clear hr1 hb1
  go_wp2_with fail
  refine (H2.out _ _ R1.out).mono ?_
  rintro e w2 ⟨v2, rfl, ho2, hb2⟩
  have R2 := Lib.hid ho2.runes
  have B2 := Lib.hid (below_then B1.out hb2)
  clear ho2 hb2 R1 B1
  go_wp2_with fail
  refine (H3.out _ _ R2.out).mono ?_
  rintro e w3 ⟨v3, rfl, ho3, hb3⟩
  have R3 := Lib.hid ho3.runes
  have B3 := Lib.hid (below_then B2.out hb3)
  clear ho3 hb3 R2 B2
  go_wp2_with fail
  refine (H4.out _ _ R3.out).mono ?_
  rintro e w4 ⟨rfl, hb4⟩
  have B4 := Lib.hid (below_then B3.out hb4)
  clear hb4 R3 B3
  go_wp2_with fail
  refine (H5.out _).mono ?_
  rintro e w5 ⟨rfl, hb5⟩
  have B5 := Lib.hid (below_then B4.out hb5)
  clear hb5 B4
  go_wp2
  go_ret2
  exact ⟨rfl, B5.out⟩
end Go.Proofs.YtmbammhkkcnoaaaGreat
