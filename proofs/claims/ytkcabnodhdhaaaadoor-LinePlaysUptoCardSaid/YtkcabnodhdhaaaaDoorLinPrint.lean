/-
  Proved here: Print of package line writes each line, and a line's end behind. Conditions: the lines can be read, and are 100,000 bytes at most in all.
-/
import Derived.Test.YtkcabnodhdhaaaaDoorBldLays
import Derived.Test.YtkcabnodhdhaaaaDoorLinOk
namespace Go.Proofs.YtkcabnodhdhaaaaDoor
open Go.RowKit
namespace Lin
theorem printL_app : ∀ a b : List (List UInt8), printL (a ++ b) = printL a ++ printL b
  | [], _ => rfl
  | l :: ls, b => by rw [List.cons_append, printL, printL, printL_app ls b]; simp
theorem printL_snoc (a : List (List UInt8)) (x : List UInt8) : printL (a ++ [x]) = (printL a ++ x) ++ [13, 10] := by
  rw [printL_app, printL, printL]
  simp
theorem printL_take {l : List (List UInt8)} {k : Nat} (h : k < l.length) : printL (l.take (k + 1)) = (printL (l.take k) ++ l[k]!) ++ [13, 10] := by
  rw [List.take_succ_eq_append_getElem h, printL_snoc, getElem!_pos l k h]
theorem printL_le (l : List (List UInt8)) (k : Nat) : (printL (l.take k)).length ≤ (printL l).length := by
  have := printL_app (l.take k) (l.drop k)
  rw [List.take_append_drop] at this
  rw [this, List.length_append]
  omega
theorem cells_snoc (a b : List UInt8) : Lib.byteCells a ++ Lib.strCells ⟨b.toArray⟩ = Lib.byteCells (a ++ b) := by
  show a.map _ ++ b.map _ = (a ++ b).map _
  rw [List.map_append]
end Lin
theorem write_any (base b : Nat) (x : List UInt8) (bs : List UInt8) (w : World) (h : Lib.IsBuilder 52 5 base b (Lib.byteCells x) w) (hl : x.length + bs.length ≤ 1000000) (hb : base ≤ w.heap.size) :
    Calls Tryd.prog 23 #[.pointer (some ⟨b, 0, none⟩), .string ⟨bs.toArray⟩] w fun e w' => e = .returned (.tuple #[.int .i64 bs.length, .nilIface]) ∧ Lib.IsBuilder 52 5 base b (Lib.byteCells (x ++ bs)) w' ∧ Below base w w' := by
  have hlen : (Lib.byteCells x).length = x.length := by simp [Lib.byteCells]
  refine (Any.Builder_WriteString ws_lays bld_extra base b (Lib.byteCells x) ⟨bs.toArray⟩ w h (by rw [hlen, size_is]; omega) hb).mono ?_
  rintro e w' ⟨rfl, h1, h2⟩
  rw [Lin.cells_snoc] at h1
  exact ⟨rfl, .inr h1, h2⟩
theorem said_any (base b : Nat) (x : List UInt8) (w : World) (h : Lib.IsBuilder 52 5 base b (Lib.byteCells x) w) (hb : base ≤ w.heap.size) :
    Calls Tryd.prog 24 #[.pointer (some ⟨b, 0, none⟩)] w fun e w' => e = .returned (.string ⟨x.toArray⟩) ∧ Below base w w' :=
  Any.Builder_String_any bs_lays bld_extra base b x w h hb
set_option maxHeartbeats 1000000 in
set_option maxRecDepth 100000 in
theorem print16_any (v : Value) (l : List (List UInt8)) (w : World) (hv : Strs v l w) (hn : l.length ≤ 100000) (hl : (Lin.printL l).length ≤ 100000) : Calls Tryd.prog 18 #[v] w fun e w' => e = .returned (.string ⟨(Lin.printL l).toArray⟩) ∧ Below w.heap.size w w' := by
  obtain ⟨A, c, rfl, hc, hcell⟩ := hv.form
  have HC := Lib.hid hcell
  have HL := Lib.hid hl
  clear hv hcell hl
  generalize hlen : l.length = n at *
  have HN := Lib.hid hlen
  clear hlen
  go_enter Tryd.func18, Tryd.ntmps18
  go_wp2
  go_loopg [8] (n + 1) (fun gk i wr => ∃ k : Nat, k ≤ n ∧ i = .int .i64 k ∧ n - k < gk ∧ Hid (Lib.IsBuilder 52 5 w.heap.size w.heap.size (Lib.byteCells (Lin.printL (l.take k))) wr ∧ Below w.heap.size w wr))
  case atStart => exact ⟨0, Nat.zero_le _, rfl, by omega, ⟨.inl ⟨Nat.le_refl _, .slice none 0 0, heap_alloc_new w _, World.ownsRow_nil _ _ _ _, by intro h; cases h⟩, below_one w _⟩⟩
  case round =>
    obtain ⟨k, hk, rfl, hg, I⟩ := hrel
    by_cases hlt : k < n
    · obtain ⟨ad, rfl, hb, hx⟩ := HC.out k hlt
      obtain ⟨x, hxe⟩ : ∃ x, x = l[k]! := ⟨_, rfl⟩
      rw [← hxe] at hx
      have hx' := (I.out.2.cell (by rw [add_block]; exact hb)).trans hx
      unfold strV at hx'
      have hle1 := Lin.printL_le l (k + 1)
      rw [Lin.printL_take (by rw [HN.out]; exact hlt), ← hxe] at hle1
      rw [List.length_append, List.length_append] at hle1
      have hL := HL.out
      have W1 := Lib.hid (write_any w.heap.size w.heap.size (Lin.printL (l.take k)) x wr I.out.1 (by omega) I.out.2.size)
      have W2 := Lib.hid fun w1 (h : Lib.IsBuilder 52 5 w.heap.size w.heap.size (Lib.byteCells (Lin.printL (l.take k) ++ x)) w1) (hb : w.heap.size ≤ w1.heap.size) => write_any w.heap.size w.heap.size (Lin.printL (l.take k) ++ x) [13, 10] w1 h (by rw [List.length_append]; simp at hle1 ⊢; omega) hb
      have HX := Lib.hid hxe
      clear hx hb hxe hle1 hL
      go_wp2_with fail
      refine W1.out.mono ?_
      rintro e w1 ⟨rfl, h1, hb1⟩
      have B1 := Lib.hid (I.out.2.trans hb1)
      have W3 := Lib.hid (W2.out w1 h1 B1.out.size)
      clear h1 hb1
      go_wp2_with fail
      refine W3.out.mono ?_
      rintro e w2 ⟨rfl, h2, hb2⟩
      have I2 : Hid (Lib.IsBuilder 52 5 w.heap.size w.heap.size (Lib.byteCells (Lin.printL (l.take (k + 1)))) w2 ∧ Below w.heap.size w w2) := Lib.hid ⟨by rw [Lin.printL_take (by rw [HN.out]; exact hlt), ← HX.out]; exact h2, B1.out.trans hb2⟩
      clear h2 hb2
      go_wp2
      go_roundg (n - k)
      case measure => omega
      case rel => exact ⟨k + 1, by omega, rfl, by omega, I2⟩
    · obtain rfl : k = n := by omega
      have S := Lib.hid (said_any w.heap.size w.heap.size _ wr I.out.1 I.out.2.size)
      go_wp2_with fail
      refine S.out.mono ?_
      rintro e w1 ⟨rfl, hb1⟩
      have B1 := Lib.hid (I.out.2.trans hb1)
      have E : Hid (l.take k = l) := Lib.hid (List.take_of_length_le (by rw [HN.out]; exact Nat.le_refl _))
      clear hb1
      go_wp2
      go_ret
      exact ⟨by rw [E.out]; rfl, B1.out⟩
end Go.Proofs.YtkcabnodhdhaaaaDoor
