/-
  Proved here: a framer's small calls: New, Most, Rest, Reset, and whether a line's end is whole. Conditions: as they stand in each.
-/
import Derived.Test.YtkcabnodhdhaaaaDoorLinFed
import Derived.Test.YtkcabnodhdhaaaaDoorLinPlainB
import Derived.BigQuiet
import Derived.BigGuard
import Derived.StillTailTactics
import Derived.Deep.LoopGhost
namespace Go.Proofs.YtkcabnodhdhaaaaDoor
open Go.RowKit
namespace Lin
theorem ba_list (s : ByteArray) : (⟨s.data.toList.toArray⟩ : ByteArray) = s := by
  apply ByteArray.ext
  simp
theorem drop_of (s : ByteArray) (k : Nat) : (s.extract k s.size).data.toList = s.data.toList.drop k := by
  rw [ByteArray.data_extract, Array.toList_extract, List.extract_eq_take_drop]
  rw [List.take_of_length_le (by simp)]
theorem take_of (s : ByteArray) (k : Nat) : (s.extract 0 k).data.toList = s.data.toList.take k := by
  rw [ByteArray.data_extract, Array.toList_extract, List.extract_eq_take_drop]
  simp
theorem len_of (s : ByteArray) : s.data.toList.length = s.size := by
  rw [Array.length_toList]; rfl
theorem byte_of (s : ByteArray) (k : Nat) (h : k < s.size) : s.data.toList[k]! = s[k]'h := by
  rw [getElem!_pos s.data.toList k (by rw [len_of]; exact h)]
  rfl
theorem beq13 (y : UInt8) : ((y.toNat : Int) == 13) = (y.toNat == 13) := by
  rw [Bool.eq_iff_iff, beq_iff_eq, beq_iff_eq]
  omega
end Lin
set_option maxHeartbeats 1000000 in
set_option maxRecDepth 100000 in
theorem most_any (base B : Nat) (m0 n : Int) (v : Value) (r : List UInt8) (w : World) (hF : FAt base B m0 v r w) : Calls Tryd.prog 12 #[.pointer (some ⟨B, 0, none⟩), .int .i64 n] w fun e w' => e = .returned (.tuple #[]) ∧ FAt base B (max n 0) v r w' ∧ Fed B v v w w' := by
  have c0 := hF.c0
  have f0 := hF.free 0
  have H := Lib.hid hF
  clear hF
  go_enter Tryd.func12, Tryd.ntmps12
  go_wp2
  all_goals
    go_end0
    first
    | (rw [show max n 0 = 0 by omega]; exact ⟨rfl, H.out.set0 0, Fed.put B 0 (.int .i64 0) v w⟩)
    | (rw [show max n 0 = n by omega]; exact ⟨rfl, H.out.set0 n, Fed.put B 0 (.int .i64 n) v w⟩)
set_option maxHeartbeats 1000000 in
set_option maxRecDepth 100000 in
theorem rest_any (base B : Nat) (m0 : Int) (v : Value) (r : List UInt8) (w : World) (hF : FAt base B m0 v r w) : Calls Tryd.prog 16 #[.pointer (some ⟨B, 0, none⟩)] w fun e w' => e = .returned (.int .i64 r.length) ∧ w = w' := by
  obtain ⟨A, c, rfl, hc⟩ := hF.shape
  have c1 := hF.c1
  clear hF
  go_enter Tryd.func16, Tryd.ntmps16
  go_wp2
  go_ret
  exact ⟨rfl, rfl⟩
set_option maxHeartbeats 1000000 in
set_option maxRecDepth 100000 in
theorem reset_any (base B : Nat) (m0 : Int) (v : Value) (r : List UInt8) (w : World) (hF : FAt base B m0 v r w) : Calls Tryd.prog 17 #[.pointer (some ⟨B, 0, none⟩)] w fun e w' => e = .returned (.tuple #[]) ∧ w' = w.setCell ⟨B, 1, none⟩ (.slice none 0 0) := by
  have c1 := hF.c1
  have f1 := hF.free 1
  clear hF
  go_enter Tryd.func17, Tryd.ntmps17
  go_wp2
  go_end0
  exact ⟨rfl, rfl⟩
theorem reset_fed (base B : Nat) (m0 : Int) (v : Value) (r : List UInt8) (w : World) (hF : FAt base B m0 v r w) : Calls Tryd.prog 17 #[.pointer (some ⟨B, 0, none⟩)] w fun e w' => e = .returned (.tuple #[]) ∧ FAt base B m0 (.slice none 0 0) [] w' ∧ Fed B v (.slice none 0 0) w w' :=
  (reset_any base B m0 v r w hF).mono fun e w' ⟨h1, h2⟩ => ⟨h1, by subst h2; exact hF.set_nil, by subst h2; exact (Fed.put B 1 _ v w).drop⟩
set_option maxHeartbeats 1000000 in
set_option maxRecDepth 100000 in
theorem new_frm (n : Int) (w : World) : Calls Tryd.prog 10 #[.int .i64 n] w fun e w' => e = .returned (.pointer (some ⟨w.heap.size, 0, none⟩)) ∧ FAt w.heap.size w.heap.size (max n 0) (.slice none 0 0) [] w' ∧ Below w.heap.size w w' := by
  have F0 : FAt w.heap.size w.heap.size 0 (.slice none 0 0) [] (w.alloc (.cells #[.int .i64 0, .slice none 0 0] 46)) := ⟨heap_alloc_new w _, OwnB.nil _ _⟩
  have hM := most_any w.heap.size w.heap.size 0 n (.slice none 0 0) [] _ F0
  clear F0
  go_enter Tryd.func10, Tryd.ntmps10
  go_wp2_with fail
  refine hM.mono ?_
  rintro e w' ⟨rfl, hF, hd⟩
  have H := Lib.hid hF
  clear hF hM
  go_wp2
  go_ret
  refine ⟨rfl, H.out, (below_one w _).trans (hd.below (by simp) (Nat.le_refl _) fun k hk => by cases hk)⟩
set_option maxHeartbeats 2000000 in
set_option maxRecDepth 100000 in
theorem ends_any (base B : Nat) (m0 : Int) (v : Value) (r : List UInt8) (w : World) (hF : FAt base B m0 v r w) (s : ByteArray) (k : Nat) (hk : k < s.size) (hs : s.size ≤ 2000000) (hr : r.length ≤ 2000000) : Calls Tryd.prog 20 #[.pointer (some ⟨B, 0, none⟩), .string s, .int .i64 k] w fun e w' => e = .returned (.bool (Lin.endsAt r s.data.toList k)) ∧ Below w.heap.size w w' := by
  obtain ⟨A, c, rfl, hc⟩ := hF.shape
  have c1 := hF.c1
  have H := Lib.hid hF
  obtain ⟨x, hx⟩ : ∃ x, s[k]'hk = x := ⟨_, rfl⟩
  have hz : (k : Int) < (s.size : Int) := by omega
  have e0 : Lin.endsAt r s.data.toList k = (x.toNat == 10 && (if 0 < k then s.data.toList[k - 1]!.toNat == 13 else Lin.last13 r)) := by
    unfold Lin.endsAt
    rw [Lin.byte_of s k hk, hx]
  rw [e0]
  clear e0 hF
  by_cases h10 : x.toNat = 10
  · have hx10 : (x.toNat : Int) = 10 := by omega
    rw [show (x.toNat == 10) = true by rw [h10]; rfl, Bool.true_and]
    by_cases h0 : 0 < k
    · obtain ⟨j, hj⟩ : ∃ j, k = j + 1 := ⟨k - 1, by omega⟩
      rw [if_pos h0, show k - 1 = j by omega, Lin.byte_of s j (by omega)]
      have hj0 : (0 : Int) < (k : Int) := by omega
      have hk1 : (k : Int) - 1 = (j : Int) := by omega
      have hjs : j < s.size := by omega
      obtain ⟨y, hy⟩ : ∃ y, s[j]'hjs = y := ⟨_, rfl⟩
      rw [hy]
      have HJ := Lib.hid hj
      clear hj h0
      go_enter Tryd.func20, Tryd.ntmps20
      go_wp2
      go_ret
      exact ⟨congrArg (fun b => Ending.returned (Value.bool b)) (Lin.beq13 y), Below.refl _ _⟩
    · obtain rfl : k = 0 := by omega
      rw [if_neg h0]
      by_cases hl : r.length = 0
      · obtain rfl := List.eq_nil_of_length_eq_zero hl
        have hd : decide ((0 : Int) < ((([] : List UInt8).length : Nat) : Int)) = false := by simp
        go_enter Tryd.func20, Tryd.ntmps20
        go_wp2
        go_quiet (fail)
        go_wp2
        go_ret
        exact ⟨rfl, below_drewN (Below.refl _ _) _⟩
      · obtain ⟨j, hj⟩ : ∃ j, r.length = j + 1 := ⟨r.length - 1, by omega⟩
        have hd : decide (0 < r.length) = true := by simp; omega
        have hj1 : (r.length : Int) - 1 = (j : Int) := by omega
        have hjr : j < r.length := by omega
        obtain ⟨y, hy⟩ : ∃ y, r[j]! = y := ⟨_, rfl⟩
        have hl13 : Lin.last13 r = (y.toNat == 13) := by
          unfold Lin.last13
          rw [List.getLast?_eq_getElem?, hj, Nat.add_sub_cancel, List.getElem?_eq_getElem hjr, ← hy, getElem!_pos r j hjr]
        rw [hl13]
        obtain ⟨A', c', e, -, -, ha⟩ := H.out.own.bytes
        injection e with e1 e2 e3
        rw [List.length_map] at ha
        obtain ⟨ad, h1, hlt, hcell⟩ := ha (by omega)
        subst e1
        subst h1
        have hx := hcell j (byteV y) (by rw [List.getElem?_map, List.getElem?_eq_getElem hjr, ← hy, getElem!_pos r j hjr]; rfl)
        unfold byteV at hx
        clear hcell ha e2 e3 hl13
        have HJ := Lib.hid hj
        have HY := Lib.hid hy
        clear hj hl hy
        generalize hn : r.length = n at *
        have HN := Lib.hid hn
        clear hn
        go_enter Tryd.func20, Tryd.ntmps20
        go_wp2
        go_quiet (fail)
        go_wp2
        go_ret
        exact ⟨congrArg (fun b => Ending.returned (Value.bool b)) (Lin.beq13 y), below_drewN (Below.refl _ _) _⟩
  · have hx10 : ¬ (x.toNat : Int) = 10 := by omega
    rw [show (x.toNat == 10) = false by rw [beq_eq_false_iff_ne]; exact h10, Bool.false_and]
    go_enter Tryd.func20, Tryd.ntmps20
    go_wp2
    go_ret
    exact ⟨rfl, Below.refl _ _⟩
end Go.Proofs.YtkcabnodhdhaaaaDoor
