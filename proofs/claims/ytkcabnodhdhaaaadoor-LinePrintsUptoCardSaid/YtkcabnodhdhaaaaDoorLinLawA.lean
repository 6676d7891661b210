/-
  Proved here: LinePrints' walk: the program prints lines as the document's own answer does. Conditions: the lines have 1,048,576 bytes at most, with one more each; the library's tables are laid.
-/
import Derived.Test.YtkcabnodhdhaaaaDoorLinSmall
import Derived.Test.YtkcabnodhdhaaaaDoorLinRefB
namespace Go.Proofs.YtkcabnodhdhaaaaDoor
open Go.RowKit
set_option maxHeartbeats 2000000 in
set_option maxRecDepth 100000 in
theorem prints16_walk (v : Value) (l : List (List UInt8)) (w : World) (hT : LTabs w) (hv : Strs v l w) (hr : Lin.room l ≤ 1048576) : Calls Tryd.prog 4 #[v] w fun e w' => e = .returned (.bool true) ∧ Below w.heap.size w w' := by
  obtain ⟨A, c, hve, hc, -⟩ := hv.form
  have K1 := Lib.hid (small16_any w hT)
  have K2 := Lib.hid fun W (h : Strs v l W) => short_any v l 5000 W h (by omega)
  have hll := Lin.room_len l
  have hlp := Lin.room_print l
  have K3 := Lib.hid fun W (h : Strs v l W) (h5 : Lin.room l ≤ 5000) => print16_any v l W h (by omega) (by omega)
  have K4 := Lib.hid fun W (h : Strs v l W) (h5 : Lin.room l ≤ 5000) => refPrint16_any v l W h (by omega) (by omega)
  have HV := Lib.hid hv
  clear hv hT hc hll hlp
  subst hve
  go_enter Tryd.func4, Tryd.ntmps4
  go_wp2_with fail
  refine K1.out.mono ?_
  rintro e w1 ⟨rfl, hb1⟩
  have B1 := Lib.hid hb1
  have V1 := Lib.hid (HV.out.keep hb1)
  clear hb1
  by_cases h5 : Lin.room l ≤ 5000
  · have K2' := K2.out w1 V1.out
    rw [show decide ((Lin.room l : Int) ≤ 5000) = true from decide_eq_true (by omega)] at K2'
    have H5 := Lib.hid h5
    clear h5 hr
    go_wp2_with fail
    refine K2'.mono ?_
    rintro e w1' ⟨rfl, rfl⟩
    go_wp2_with fail
    refine (K3.out w1 V1.out H5.out).mono ?_
    rintro e w2 ⟨rfl, hb2⟩
    have B2 := Lib.hid (B1.out.trans (hb2.mono B1.out.size))
    have V2 := Lib.hid (V1.out.keep hb2)
    clear hb2
    go_wp2_with fail
    refine (K4.out w2 V2.out H5.out).mono ?_
    rintro e w3 ⟨rfl, hb3⟩
    have B3 := Lib.hid (B2.out.trans (hb3.mono B2.out.size))
    clear hb3
    go_wp2_with fail
    go_ret
    refine ⟨?_, B3.out⟩
    simp
  · have K2' := K2.out w1 V1.out
    rw [show decide ((Lin.room l : Int) ≤ 5000) = false from decide_eq_false (by omega)] at K2'
    clear h5 hr
    go_wp2_with fail
    refine K2'.mono ?_
    rintro e w1' ⟨rfl, rfl⟩
    go_wp2_with fail
    go_ret
    exact ⟨rfl, B1.out⟩
end Go.Proofs.YtkcabnodhdhaaaaDoor
