/-
  Proved here: bytes.ContainsAny of a line's two signs, over any bytes. Conditions: the bytes lie in one block; the library's tables are laid.
-/
import Derived.Test.YtkcabnodhdhaaaaDoorLinDec
import Derived.Test.YtkcabnodhdhaaaaDoorLinSetLays
import Derived.Laws.RangeAny
import Derived.Lib.OthersKept
import Derived.Deep.RegionWith
import Derived.Shelf.Abstract
import Derived.Lib.Bytealg
namespace Go.Proofs.YtkcabnodhdhaaaaDoor
open Go.RowKit
namespace Lin
def bar (c : UInt8) : Bool := c.toNat == 13 || c.toNat == 10
theorem bar_set (c : UInt8) : ([13, 10] : List UInt8).contains c = bar c := by
  unfold bar
  rw [List.contains_cons, List.contains_cons, List.contains_nil, Bool.or_false, Bool.eq_iff_iff, Bool.or_eq_true, Bool.or_eq_true, beq_iff_eq, beq_iff_eq, beq_iff_eq, beq_iff_eq, ← UInt8.toNat_inj, ← UInt8.toNat_inj]
  rfl
theorem bar_index (c : UInt8) : decide (0 ≤ Lib.indexByte [13, 10] c) = bar c := by
  rw [← Lib.contains_iff_indexByte, bar_set]
theorem bare_of {l : List UInt8} {k : Nat} (h : k < l.length) (hb : bar l[k]! = true) : bare l = true := by
  unfold bare
  rw [List.any_eq_true]
  exact ⟨l[k]!, by rw [getElem!_pos l k h]; exact List.getElem_mem h, hb⟩
theorem bare_not {l : List UInt8} (h : ∀ k, k < l.length → bar l[k]! = false) : bare l = false := by
  unfold bare
  rw [List.any_eq_false]
  intro c hc
  obtain ⟨k, hk, rfl⟩ := List.getElem_of_mem hc
  have := h k hk
  rw [getElem!_pos l k hk] at this
  unfold bar at this
  rw [this]
  simp
end Lin
theorem zero_set (w : World) : (zeroValue 67).run Tryd.prog w = .ok (.agg (Array.replicate 256 (.bool false))) w := by kernel_rfl
set_option maxRecDepth 100000 in
theorem size_set : (Tryd.prog.info? 67).map (·.size) = some 256 := by kernel_rfl
/-- The set of a line's two signs. -/
theorem endSet_any (w : World) : Calls Tryd.prog 32 #[.string ⟨#[13, 10]⟩] w fun e w' => e = .returned (.tuple #[.agg (Lib.setCells [13, 10]), .bool true]) ∧ w' = w.alloc (.cells (Lib.setCells [13, 10]) 67) := by
  refine Any.bytes_makeASCIISet set_lays zero_set size_set ⟨#[13, 10]⟩ w (by decide) fun j b hj => ?_
  match j, hj with
  | 0, hj => injection hj with hj; rw [← hj]; decide
  | 1, hj => injection hj with hj; rw [← hj]; decide
theorem inSet_any (b : Nat) (x : UInt8) (v : Bool) (w : World) (hc : w.cell? ⟨b, x.toNat, none⟩ = some (.bool v)) : Calls Tryd.prog 33 #[.pointer (some ⟨b, 0, none⟩), .int .u8 x.toNat] w fun e w' => e = .returned (.bool v) ∧ w' = w :=
  Any.bytes_asciiSet_contains has_lays b x v w hc
set_option maxHeartbeats 1000000 in
set_option maxRecDepth 100000 in
theorem useSet_any (n : Nat) (w : World) : Calls Tryd.prog 31 #[.int .i64 n] w fun e w' => e = .returned (.bool (decide (8 < n))) ∧ w = w' := by
  by_cases h : 8 < n
  · rw [decide_eq_true h]
    go_enter Tryd.func31, Tryd.ntmps31
    go_wp2
    go_ret
    refine ⟨?_, rfl⟩
    simp
    omega
  · rw [decide_eq_false h]
    go_enter Tryd.func31, Tryd.ntmps31
    go_wp2
    go_ret
    refine ⟨?_, rfl⟩
    simp
    omega
theorem set_store (S : Array Value) (hS : S.size = 256) (h1 : S.all (·.oneCell') = true) (W : World) : (storeCells ⟨W.heap.size, 0, none⟩ S.toList).run Tryd.prog (W.alloc (.cells (Array.replicate 256 (.bool false)) 67)) = .ok () (W.alloc (.cells S 67)) :=
  run_storeCells_new (P := Tryd.prog) W 67 (Array.replicate 256 (.bool false)) S (by rw [size_set, hS]) (by rw [hS, Array.size_replicate]) h1
set_option maxHeartbeats 2000000 in
set_option maxRecDepth 100000 in
theorem indexAny_wide (bs : List UInt8) (g c : Nat) (w : World) (h8 : 8 < bs.length) (hc : bs.length ≤ c) (hn : bs.length ≤ 2000000) (hg : g < w.heap.size) (hcell : ∀ k, k < bs.length → w.cell? ⟨g, k, none⟩ = some (.int .u8 (bs[k]!.toNat : Int))) :
    Calls Tryd.prog 27 #[.slice (some ⟨g, 0, none⟩) bs.length c, .string ⟨#[13, 10]⟩] w fun e w' => ∃ z : Int, e = .returned (.int .i64 z) ∧ decide (0 ≤ z) = Lin.bare bs ∧ Below w.heap.size w w' := by
  have U := useSet_any bs.length w
  rw [decide_eq_true h8] at U
  have M := endSet_any w
  obtain ⟨S, hS⟩ : ∃ S, Lib.setCells [13, 10] = S := ⟨_, rfl⟩
  rw [hS] at M
  have hsc := set_store S (by rw [← hS]; exact Lib.setCells_size _) (by rw [← hS]; exact Lib.setCells_one _) (w.alloc (.cells S 67))
  rw [show (w.alloc (.cells S 67)).heap.size = w.heap.size + 1 by simp] at hsc
  have hSz : S.size = 256 := by rw [← hS]; exact Lib.setCells_size _
  have hat : ∀ x : UInt8, ((w.alloc (.cells S 67)).alloc (.cells S 67)).cell? ⟨w.heap.size + 1, x.toNat, none⟩ = some (.bool (Lin.bar x)) := fun x => by
    rw [World.cell?_alloc_at _ _ _ _ (by simp), ← hS, Lib.setCells_at, Lin.bar_set]
  have HAT := Lib.hid hat
  have HC := Lib.hid hcell
  have HB : Hid (∀ k, k < bs.length → Lin.bar bs[k]! = true → Lin.bare bs = true) := Lib.hid fun k hk h => Lin.bare_of hk h
  have HN : Hid ((∀ k, k < bs.length → Lin.bar bs[k]! = false) → Lin.bare bs = false) := Lib.hid Lin.bare_not
  have hB2 : Below w.heap.size w ((w.alloc (.cells S 67)).alloc (.cells S 67)) := below_new (below_one w _) (Nat.le_refl _) _
  have B2 := Lib.hid hB2
  clear hat hcell hS hB2
  generalize hlen : bs.length = n at *
  have HL := Lib.hid hlen
  clear hlen
  have hn1 : ((n : Int) == 1) = false := beq_eq_false_iff_ne.2 (by omega)
  generalize Lin.bare bs = R at *
  go_enter Tryd.func27, Tryd.ntmps27
  go_wp2_with (first
    | (go_at_call 31; with_reducible refine U.mono ?_; rintro e w' ⟨rfl, rfl⟩)
    | (go_at_call 32; with_reducible refine M.mono ?_; rintro e w' ⟨rfl, rfl⟩))
  rw [zero_set]
  simp only [Result.andThen]
  rw [Oper.upon_value]
  go_wp2_with fail
  go_loopg [62] (n + 1) (fun gk i wr => ∃ k : Nat, k ≤ n ∧ i = .int .i64 k ∧ n - k < gk ∧ Hid (wr = (w.alloc (.cells S 67)).alloc (.cells S 67) ∧ ∀ j, j < k → Lin.bar bs[j]! = false))
  case atStart => exact ⟨0, Nat.zero_le _, rfl, by omega, Lib.hid ⟨rfl, fun j hj => absurd hj (Nat.not_lt_zero _)⟩⟩
  case round =>
    obtain ⟨k, hk, rfl, hg2, I⟩ := hrel
    by_cases hlt : k < n
    · have hx := HC.out k hlt
      obtain ⟨x, hxe⟩ : ∃ x, x = bs[k]! := ⟨_, rfl⟩
      rw [← hxe] at hx
      have hx' : wr.cell? ⟨g, k, none⟩ = some (.int .u8 (x.toNat : Int)) := by rw [I.out.1]; exact (B2.out.cell hg).trans hx
      have K := inSet_any (w.heap.size + 1) x (Lin.bar x) wr (by rw [I.out.1]; exact HAT.out x)
      have HX := Lib.hid hxe
      clear hx hxe
      cases hb : Lin.bar x with
      | true =>
        rw [hb] at K
        have E := Lib.hid (HB.out k hlt (by rw [← HX.out]; exact hb))
        clear hb
        go_wp2_with (go_at_call 33; with_reducible refine K.mono ?_; rintro e w' ⟨rfl, rfl⟩)
        go_ret
        exact ⟨_, rfl, by rw [E.out]; exact decide_eq_true (by omega), by rw [I.out.1]; exact B2.out⟩
      | false =>
        rw [hb] at K
        have I2 : Hid (∀ j, j < k + 1 → Lin.bar bs[j]! = false) := Lib.hid fun j hj => by
          by_cases h : j = k
          · subst h; rw [← HX.out]; exact hb
          · exact I.out.2 j (by omega)
        clear hb
        go_wp2_with (go_at_call 33; with_reducible refine K.mono ?_; rintro e w' ⟨rfl, rfl⟩)
        go_roundg (n - k)
        case measure => omega
        case rel => exact ⟨k + 1, by omega, rfl, by omega, Lib.hid ⟨I.out.1, I2.out⟩⟩
    · obtain rfl : k = n := by omega
      have E := Lib.hid (HN.out fun j hj => I.out.2 j hj)
      go_wp2
      go_ret
      exact ⟨_, rfl, by rw [E.out]; rfl, by rw [I.out.1]; exact B2.out⟩
/-- A range over a line's two signs meets these two, and no other. -/
theorem two_signs (p : Nat) (hp : p < 2) : ∃ x : Nat, Utf8.decode ⟨#[13, 10]⟩ p = (x, 1) ∧ x < 128 := by
  rcases (by omega : p = 0 ∨ p = 1) with rfl | rfl
  · exact ⟨13, by decide, by decide⟩
  · exact ⟨10, by decide, by decide⟩
theorem indexByte_run (c : UInt8) (W : World) : (Extern.BytealgIndexByte.indexByte #[.string ⟨#[13, 10]⟩, .int .u8 (c.toNat : Int)]).run Tryd.prog W = .ok (.int .i64 (Lib.indexByte [13, 10] c)) W := by
  rw [Lib.run_indexByteString, Int.toNat_natCast, show c.toNat.toUInt8 = c from UInt8.ofNat_toNat]
set_option maxHeartbeats 2000000 in
set_option maxRecDepth 100000 in
theorem indexAny_one (x : UInt8) (g c : Nat) (w : World) (hcell : w.cell? ⟨g, 0, none⟩ = some (.int .u8 (x.toNat : Int))) :
    Calls Tryd.prog 27 #[.slice (some ⟨g, 0, none⟩) 1 c, .string ⟨#[13, 10]⟩] w fun e w' => ∃ z : Int, e = .returned (.int .i64 z) ∧ decide (0 ≤ z) = Lin.bar x ∧ Below w.heap.size w w' := by
  have hx := Lin.bar_index x
  by_cases h : x.toNat < 128
  · have h1 : ¬ (128 : Int) ≤ (x.toNat : Int) := by omega
    obtain ⟨z, hz⟩ : ∃ z, Lib.indexByte [13, 10] x = z := ⟨_, rfl⟩
    have hr := indexByte_run x w
    rw [hz] at hx hr
    rw [← hx]
    clear hx
    have hr2 : ∀ W, (Extern.BytealgIndexByte.indexByte #[.string ⟨#[13, 10]⟩, .int .u8 (x.toNat : Int)]).run Tryd.prog W = .ok (.int .i64 z) W := fun W => by rw [indexByte_run, hz]
    go_enter Tryd.func27, Tryd.ntmps27
    go_wp2_with fail
    rw [run_callFunc_extern Tryd.func29 (by kernel_rfl) (by kernel_rfl) (by kernel_rfl) (e := Extern.BytealgIndexByte.indexByte) (by kernel_rfl), hr2]
    simp only [Result.andThen]
    rw [Oper.upon_value]
    go_wp2
    all_goals (go_ret; refine ⟨_, rfl, ?_, Below.refl _ _⟩; simp; omega)
  · have h1 : (128 : Int) ≤ (x.toNat : Int) := by omega
    have h256 : x.toNat < 256 := x.toNat_lt
    have hb : Lin.bar x = false := by
      unfold Lin.bar
      rw [Bool.or_eq_false_iff, beq_eq_false_iff_ne, beq_eq_false_iff_ne]
      omega
    rw [hb]
    clear hx hb
    go_enter Tryd.func27, Tryd.ntmps27
    go_wp2_with fail
    go_loopg [] 3 (fun gk wr => ∃ k : Nat, k ≤ 2 ∧ 2 - k < gk ∧ Hid (wr.heap[w.heap.size]? = some (.stringIter ⟨#[13, 10]⟩ k) ∧ Below w.heap.size w wr))
    case atStart => exact ⟨0, Nat.zero_le _, by omega, Lib.hid ⟨World.iter_heap w ⟨#[13, 10]⟩ 0, (Below.refl _ w).alloc (Nat.le_refl _) _⟩⟩
    case round =>
      obtain ⟨k, hk, hg, I⟩ := hrel
      by_cases hlt : k < 2
      · obtain ⟨y, hy, hy2⟩ := two_signs k hlt
        have hnx : ∀ ty, (Instr.next (.pointer (some ⟨w.heap.size, 0, none⟩)) true ty).run Tryd.prog wr = _ := fun ty => Lib.run_next_any_at wr w.heap.size ⟨#[13, 10]⟩ k ty I.out.1 hlt
        rw [hy] at hnx
        simp only at hnx
        have I2 : Hid ((wr.iterAt w.heap.size ⟨#[13, 10]⟩ (k + 1)).heap[w.heap.size]? = some (.stringIter ⟨#[13, 10]⟩ (k + 1)) ∧ Below w.heap.size w (wr.iterAt w.heap.size ⟨#[13, 10]⟩ (k + 1))) :=
          Lib.hid ⟨Lib.iterAt_heap wr w.heap.size _ k (k + 1) I.out.1, Lib.below_iterAt I.out.2 (Nat.le_refl _) _ _⟩
        have hy3 : ¬ (y : Int) = 65533 := by omega
        generalize wr.iterAt w.heap.size ⟨#[13, 10]⟩ (k + 1) = W at hnx I2
        clear hy
        go_wp2_with fail
        go_roundg (2 - k)
        case measure => omega
        case rel => exact ⟨k + 1, by omega, by omega, I2⟩
      · obtain rfl : k = 2 := by omega
        have hnx : ∀ ty, (Instr.next (.pointer (some ⟨w.heap.size, 0, none⟩)) true ty).run Tryd.prog wr = _ := fun ty => Lib.run_next_end_at wr w.heap.size ⟨#[13, 10]⟩ 2 ty I.out.1 (by decide)
        go_wp2
        go_ret
        exact ⟨_, rfl, rfl, I.out.2⟩
set_option maxHeartbeats 1000000 in
set_option maxRecDepth 100000 in
theorem indexAny_few (bs : List UInt8) (g c : Nat) (w : World) (hT : LTabs w) (h8 : bs.length ≤ 8) (h1 : bs.length ≠ 1) (hc : bs.length ≤ c) (hg : g < w.heap.size) (hcell : ∀ k, k < bs.length → w.cell? ⟨g, k, none⟩ = some (.int .u8 (bs[k]!.toNat : Int))) :
    Calls Tryd.prog 27 #[.slice (some ⟨g, 0, none⟩) bs.length c, .string ⟨#[13, 10]⟩] w fun e w' => ∃ z : Int, e = .returned (.int .i64 z) ∧ decide (0 ≤ z) = Lin.bare bs ∧ Below w.heap.size w w' := by
  have U := useSet_any bs.length w
  rw [decide_eq_false (by omega)] at U
  have HC := Lib.hid hcell
  have HT := Lib.hid hT
  have HB : Hid (∀ k, k < bs.length → Lin.bar bs[k]! = true → Lin.bare bs = true) := Lib.hid fun k hk h => Lin.bare_of hk h
  have HN : Hid ((∀ k, k < bs.length → Lin.bar bs[k]! = false) → Lin.bare bs = false) := Lib.hid Lin.bare_not
  clear hcell hT
  generalize hlen : bs.length = n at *
  have HL := Lib.hid hlen
  clear hlen
  have hn1 : ((n : Int) == 1) = false := beq_eq_false_iff_ne.2 (by omega)
  generalize Lin.bare bs = R at *
  go_enter Tryd.func27, Tryd.ntmps27
  go_wp2_with (go_at_call 31; with_reducible refine U.mono ?_; rintro e w' ⟨rfl, rfl⟩)
  go_loopg [12] (n + 1) (fun gk i wr => ∃ k : Nat, k ≤ n ∧ i = .int .i64 k ∧ n - k < gk ∧ Hid (Below w.heap.size w wr ∧ ∀ j, j < k → Lin.bar bs[j]! = false))
  case atStart => exact ⟨0, Nat.zero_le _, rfl, by omega, Lib.hid ⟨Below.refl _ _, fun j hj => absurd hj (Nat.not_lt_zero _)⟩⟩
  case round =>
    obtain ⟨k, hk, rfl, hg2, I⟩ := hrel
    by_cases hlt : k < n
    · have hx := HC.out k hlt
      obtain ⟨x, hxe⟩ : ∃ x, x = bs[k]! := ⟨_, rfl⟩
      rw [← hxe] at hx
      have hx' : wr.cell? ⟨g, k, none⟩ = some (.int .u8 (x.toNat : Int)) := (I.out.1.cell hg).trans hx
      have HX := Lib.hid hxe
      clear hx hxe
      by_cases h : x.toNat < 128
      · have h1 : (x.toNat : Int) < 128 := by omega
        have hx := Lin.bar_index x
        obtain ⟨z, hz⟩ : ∃ z, Lib.indexByte [13, 10] x = z := ⟨_, rfl⟩
        rw [hz] at hx
        have hr2 : ∀ W, (Extern.BytealgIndexByte.indexByte #[.string ⟨#[13, 10]⟩, .int .u8 (x.toNat : Int)]).run Tryd.prog W = .ok (.int .i64 z) W := fun W => by rw [indexByte_run, hz]
        have HR := Lib.hid hx
        clear hx hz
        by_cases hz0 : 0 ≤ z
        · have E := Lib.hid (HB.out k hlt (by rw [← HX.out, ← HR.out]; exact decide_eq_true hz0))
          go_wp2_with fail
          rw [run_callFunc_extern Tryd.func29 (by kernel_rfl) (by kernel_rfl) (by kernel_rfl) (e := Extern.BytealgIndexByte.indexByte) (by kernel_rfl), hr2]
          simp only [Result.andThen]
          rw [Oper.upon_value]
          go_wp2
          go_ret
          exact ⟨_, rfl, by rw [E.out]; exact decide_eq_true (by omega), I.out.1⟩
        · have I2 : Hid (∀ j, j < k + 1 → Lin.bar bs[j]! = false) := Lib.hid fun j hj => by
            by_cases h : j = k
            · subst h; rw [← HX.out, ← HR.out]; exact decide_eq_false hz0
            · exact I.out.2 j (by omega)
          go_wp2_with fail
          rw [run_callFunc_extern Tryd.func29 (by kernel_rfl) (by kernel_rfl) (by kernel_rfl) (e := Extern.BytealgIndexByte.indexByte) (by kernel_rfl), hr2]
          simp only [Result.andThen]
          rw [Oper.upon_value]
          go_wp2
          go_roundg (n - k)
          case measure => omega
          case rel => exact ⟨k + 1, by omega, rfl, by omega, Lib.hid ⟨I.out.1, I2.out⟩⟩
      · have h1 : ¬ (x.toNat : Int) < 128 := by omega
        have h256 : x.toNat < 256 := x.toNat_lt
        have hlen : (bs.drop k).length = n - k := by rw [List.length_drop, HL.out]
        have hat : ∀ j, (bs.drop k)[j]! = bs[k + j]! := fun j => by
          rw [getElem!_def, getElem!_def, List.getElem?_drop]
        obtain ⟨r, m, hd, hr1, hm1, hmn, hm4, hhigh, hrv, hrm⟩ := Lin.read_high (l := bs.drop k) (by omega) (by rw [hat, Nat.add_zero, ← HX.out]; exact h)
        have D := decode_any (bs.drop k) g k (c - k) wr (HT.out.keep I.out.1) (fun j hj => by
          rw [hlen] at hj
          rw [hat]
          exact (I.out.1.cell hg).trans (HC.out (k + j) (by omega)))
        rw [hd, hlen] at D
        have I2 : Hid (∀ j, j < k + m → Lin.bar bs[j]! = false) := Lib.hid fun j hj => by
          by_cases h : j < k
          · exact I.out.2 j h
          · have := hhigh (j - k) (by omega)
            rw [hat, show k + (j - k) = j by omega] at this
            unfold Lin.bar
            rw [Bool.or_eq_false_iff, beq_eq_false_iff_ne, beq_eq_false_iff_ne]
            omega
        have DD := Lib.hid D
        have HR := Lib.hid hrm
        rw [hlen] at hmn
        clear hat hlen hd hhigh hrm D
        by_cases h6 : r = 65533
        · have h6z : ((r : Int) == 65533) = true := beq_iff_eq.2 (by omega)
          go_wp2_with fail
          refine DD.out.mono ?_
          rintro e w1 ⟨rfl, hb⟩
          have B1 := Lib.hid (I.out.1.trans (hb.mono I.out.1.size))
          clear hb h6
          go_wp2_with fail
          go_loopg [] 3 (fun gk2 wx => ∃ p : Nat, p ≤ 2 ∧ 2 - p < gk2 ∧ Hid (wx.heap[w1.heap.size]? = some (.stringIter ⟨#[13, 10]⟩ p) ∧ Below w.heap.size w wx))
          case atStart => exact ⟨0, Nat.zero_le _, by omega, Lib.hid ⟨World.iter_heap w1 ⟨#[13, 10]⟩ 0, below_new B1.out (Nat.le_refl _) _⟩⟩
          case round =>
            obtain ⟨p, hp, hgp, J⟩ := hrel
            by_cases hlp : p < 2
            · obtain ⟨y, hy, hy2⟩ := two_signs p hlp
              have hnx : ∀ ty, (Instr.next (.pointer (some ⟨w1.heap.size, 0, none⟩)) true ty).run Tryd.prog wr = _ := fun ty => Lib.run_next_any_at wr w1.heap.size ⟨#[13, 10]⟩ p ty J.out.1 hlp
              rw [hy] at hnx
              simp only at hnx
              have J2 : Hid ((wr.iterAt w1.heap.size ⟨#[13, 10]⟩ (p + 1)).heap[w1.heap.size]? = some (.stringIter ⟨#[13, 10]⟩ (p + 1)) ∧ Below w.heap.size w (wr.iterAt w1.heap.size ⟨#[13, 10]⟩ (p + 1))) :=
                Lib.hid ⟨Lib.iterAt_heap wr w1.heap.size _ p (p + 1) J.out.1, Lib.below_iterAt J.out.2 B1.out.size _ _⟩
              have hy3 : ¬ (r : Int) = (y : Int) := by omega
              generalize wr.iterAt w1.heap.size ⟨#[13, 10]⟩ (p + 1) = W at hnx J2
              clear hy
              go_wp2_with fail
              go_roundg (2 - p)
              case measure => omega
              case rel => exact ⟨p + 1, by omega, by omega, J2⟩
            · obtain rfl : p = 2 := by omega
              have hnx : ∀ ty, (Instr.next (.pointer (some ⟨w1.heap.size, 0, none⟩)) true ty).run Tryd.prog wr = _ := fun ty => Lib.run_next_end_at wr w1.heap.size ⟨#[13, 10]⟩ 2 ty J.out.1 (by decide)
              go_wp2
              go_roundg (n - k)
              case measure => omega
              case rel => exact ⟨k + m, by omega, by simp, by omega, Lib.hid ⟨J.out.2, I2.out⟩⟩
        · have h6z : ((r : Int) == 65533) = false := beq_eq_false_iff_ne.2 (by omega)
          have hsz := Lin.encode_size hrv hr1 (HR.out.resolve_left h6)
          have hidx := Lin.find_none hrv hr1
          have hne := Lin.not_end hrv hr1
          have hm2 : 2 ≤ m := by have := HR.out.resolve_left h6; omega
          obtain ⟨T, hT⟩ : ∃ T, Utf8.encode (r : Int) = T := ⟨_, rfl⟩
          rw [hT] at hsz hidx hne
          have hconv : ∀ W, (convert 21 9 (.int .i32 (r : Int))).run Tryd.prog W = .ok (.string T) W := fun W => by
            rw [← hT]
            exact run_convert_int_string W 21 9 .i32 (r : Int) (by rw [Tryd.underlying21]; rfl) Tryd.underlying9
          clear hT
          have HSZ := Lib.hid hsz
          have HID := Lib.hid hidx
          have HNE := Lib.hid hne
          clear hsz hidx hne
          by_cases hm : m = 2
          · subst hm
            have hneq : (([13, 10] : List UInt8) == T.toList) = false := by
              have := HNE.out
              rw [show (⟨#[13, 10]⟩ : ByteArray).toList = [13, 10] by rw [Lib.toList_data]] at this
              exact this
            go_wp2_with fail
            refine DD.out.mono ?_
            rintro e w1 ⟨rfl, hb⟩
            have B1 := Lib.hid (I.out.1.trans (hb.mono I.out.1.size))
            clear hb
            go_wp2_with fail
            go_roundg (n - k)
            case measure => omega
            case rel => exact ⟨k + 2, by omega, by simp, by omega, Lib.hid ⟨B1.out, I2.out⟩⟩
          · have hmz : ((2 : Int) == (m : Int)) = false := beq_eq_false_iff_ne.2 (by omega)
            go_wp2_with fail
            refine DD.out.mono ?_
            rintro e w1 ⟨rfl, hb⟩
            have B1 := Lib.hid (I.out.1.trans (hb.mono I.out.1.size))
            have T1 := (HT.out.keep B1.out).2
            clear hb
            obtain ⟨m0, hm0⟩ := T1
            by_cases hlim : (m : Int) ≤ m0
            · have hrun := Lib.run_indexString (P := Tryd.prog) ⟨#[13, 10]⟩ T w1 0 m0 (by kernel_rfl) hm0 (by rw [HSZ.out]; omega) (by rw [HSZ.out]; exact hlim) (by decide)
              rw [show (⟨#[13, 10]⟩ : ByteArray).data.toList = [13, 10] from rfl, HID.out] at hrun
              go_wp2_with fail
              rw [run_callFunc_extern Tryd.func35 (by kernel_rfl) (by kernel_rfl) (by kernel_rfl) (e := Extern.BytealgIndex.index) (by kernel_rfl), hrun]
              simp only [Result.andThen]
              rw [Oper.upon_value]
              go_wp2
              go_roundg (n - k)
              case measure => omega
              case rel => exact ⟨k + m, by omega, by simp, by omega, Lib.hid ⟨B1.out, I2.out⟩⟩
            · have hlim2 : m0 < (m : Int) := by omega
              go_wp2_with fail
              go_loopg [] 3 (fun gk2 wx => ∃ p : Nat, p ≤ 2 ∧ 2 - p < gk2 ∧ Hid (wx.heap[w1.heap.size]? = some (.stringIter ⟨#[13, 10]⟩ p) ∧ Below w.heap.size w wx))
              case atStart => exact ⟨0, Nat.zero_le _, by omega, Lib.hid ⟨World.iter_heap w1 ⟨#[13, 10]⟩ 0, below_new B1.out (Nat.le_refl _) _⟩⟩
              case round =>
                obtain ⟨p, hp, hgp, J⟩ := hrel
                by_cases hlp : p < 2
                · obtain ⟨y, hy, hy2⟩ := two_signs p hlp
                  have hnx : ∀ ty, (Instr.next (.pointer (some ⟨w1.heap.size, 0, none⟩)) true ty).run Tryd.prog wr = _ := fun ty => Lib.run_next_any_at wr w1.heap.size ⟨#[13, 10]⟩ p ty J.out.1 hlp
                  rw [hy] at hnx
                  simp only at hnx
                  have J2 : Hid ((wr.iterAt w1.heap.size ⟨#[13, 10]⟩ (p + 1)).heap[w1.heap.size]? = some (.stringIter ⟨#[13, 10]⟩ (p + 1)) ∧ Below w.heap.size w (wr.iterAt w1.heap.size ⟨#[13, 10]⟩ (p + 1))) :=
                    Lib.hid ⟨Lib.iterAt_heap wr w1.heap.size _ p (p + 1) J.out.1, Lib.below_iterAt J.out.2 B1.out.size _ _⟩
                  have hy3 : ¬ (r : Int) = (y : Int) := by omega
                  generalize wr.iterAt w1.heap.size ⟨#[13, 10]⟩ (p + 1) = W at hnx J2
                  clear hy
                  go_wp2_with fail
                  go_roundg (2 - p)
                  case measure => omega
                  case rel => exact ⟨p + 1, by omega, by omega, J2⟩
                · obtain rfl : p = 2 := by omega
                  have hnx : ∀ ty, (Instr.next (.pointer (some ⟨w1.heap.size, 0, none⟩)) true ty).run Tryd.prog wr = _ := fun ty => Lib.run_next_end_at wr w1.heap.size ⟨#[13, 10]⟩ 2 ty J.out.1 (by decide)
                  go_wp2
                  go_roundg (n - k)
                  case measure => omega
                  case rel => exact ⟨k + m, by omega, by simp, by omega, Lib.hid ⟨J.out.2, I2.out⟩⟩
    · obtain rfl : k = n := by omega
      have E := Lib.hid (HN.out fun j hj => I.out.2 j hj)
      go_wp2
      go_ret
      exact ⟨_, rfl, by rw [E.out]; rfl, I.out.1⟩
theorem indexAny_any (bs : List UInt8) (g c : Nat) (w : World) (hT : LTabs w) (hc : bs.length ≤ c) (hn : bs.length ≤ 2000000) (hg : g < w.heap.size) (hcell : ∀ k, k < bs.length → w.cell? ⟨g, k, none⟩ = some (.int .u8 (bs[k]!.toNat : Int))) :
    Calls Tryd.prog 27 #[.slice (some ⟨g, 0, none⟩) bs.length c, .string ⟨#[13, 10]⟩] w fun e w' => ∃ z : Int, e = .returned (.int .i64 z) ∧ decide (0 ≤ z) = Lin.bare bs ∧ Below w.heap.size w w' := by
  by_cases h1 : bs.length = 1
  · obtain ⟨x, rfl⟩ := List.length_eq_one_iff.1 h1
    have hb : Lin.bare [x] = Lin.bar x := by
      show (Lin.bar x || false) = _
      rw [Bool.or_false]
    rw [hb]
    exact indexAny_one x g c w (hcell 0 (by omega))
  · by_cases h8 : 8 < bs.length
    · exact indexAny_wide bs g c w h8 hc hn hg hcell
    · exact indexAny_few bs g c w hT (by omega) h1 hc hg hcell
set_option maxHeartbeats 1000000 in
set_option maxRecDepth 100000 in
theorem bareAny_any (bs : List UInt8) (g c : Nat) (w : World) (hT : LTabs w) (hc : bs.length ≤ c) (hn : bs.length ≤ 2000000) (hg : g < w.heap.size) (hcell : ∀ k, k < bs.length → w.cell? ⟨g, k, none⟩ = some (.int .u8 (bs[k]!.toNat : Int))) :
    Calls Tryd.prog 25 #[.slice (some ⟨g, 0, none⟩) bs.length c, .string ⟨#[13, 10]⟩] w fun e w' => e = .returned (.bool (Lin.bare bs)) ∧ Below w.heap.size w w' := by
  have K := Lib.hid (indexAny_any bs g c w hT hc hn hg hcell)
  clear hT hcell
  generalize Lin.bare bs = R at *
  generalize bs.length = n at *
  go_enter Tryd.func25, Tryd.ntmps25
  go_wp2_with fail
  refine K.out.mono ?_
  rintro e w1 ⟨z, rfl, hz, hb⟩
  have HZ := Lib.hid hz
  have HB := Lib.hid hb
  clear hz hb
  go_wp2
  go_ret
  exact ⟨congrArg (fun b => Ending.returned (Value.bool b)) HZ.out, HB.out⟩
end Go.Proofs.YtkcabnodhdhaaaaDoor
