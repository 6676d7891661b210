/-
  Proved here: what the rows of layer 11 list gives what the program's spots read, and a start that has it. Conditions: as they stand in each.
-/
import Derived.Test.YtegldopmneoenaaDoorLaidFrame
import Derived.Test.YtegldopmneoenaaDoorSpotTabs
import Derived.LaidHandle
namespace Go.Proofs.YtegldopmneoenaaDoor
open Go.RowKit
def laid11 : List (String × DataW Unit) := [("math/bits.deBruijn32tab", Rows.laid_math_bits_deBruijn32tab), ("math/bits.deBruijn64tab", Rows.laid_math_bits_deBruijn64tab), ("internal/strconv.uint64pow10", Rows.laid_internal_strconv_uint64pow10)]
set_option maxRecDepth 100000 in
theorem tabs_of_laid {W : World} (h : laidMetH Tryd.prog laid11 W) (hsh : W.ShapedOpen Tryd.prog) : Tabs W := by
  rw [MakeChecks.laidMetH_plain _ _ _ (by kernel_rfl)] at h
  refine ⟨Lib.tabIs_of_head tabs_pow (t := 63) (e := 55) (n := 20) (by kernel_rfl) Tryd.underlying63 Tryd.underlying55 (by kernel_rfl) (by kernel_rfl) (laidMet.tail (laidMet.tail h)), ?_⟩
  exact cell_of_shapedOpen_int (P := Tryd.prog) (g := 0) (t := 3) (zero := #[.int .i64 0]) hsh (of_decide_eq_true (by kernel_rfl)) (by kernel_rfl) rfl (by kernel_rfl) (by kernel_rfl) Tryd.underlying3
set_option maxRecDepth 100000 in
/-- The heap that the door's own run leaves has what is listed. -/
theorem door_met (os : Os) (args : Array Value) : laidMetH Tryd.prog laid11 ((World.doorLaid Tryd.prog 400 os).forCall (fun _ _ => 0) ⟨#[], args, []⟩).memory :=
  laidMetH_of_parts3 (fuel := 8) (laidMet_of_run' 8 (by kernel_rfl) (by kernel_rfl)) (by kernel_rfl) (by kernel_rfl)
end Go.Proofs.YtegldopmneoenaaDoor
