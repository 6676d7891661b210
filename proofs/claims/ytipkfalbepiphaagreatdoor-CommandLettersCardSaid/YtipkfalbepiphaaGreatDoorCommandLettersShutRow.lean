/-
  Proved here: what the row Fi of the program is so. Conditions: none.
-/
import Derived.Test.YtipkfalbepiphaaGreatDoorFrames
namespace Go.Proofs.YtipkfalbepiphaaGreatDoor.commandLetters
open Go.ChangeShapes Go.WideShapes Go.ChangeAt Go.RowKit Go.ChangeMaps
set_option maxHeartbeats 20000000 in
set_option maxRecDepth 100000 in
theorem closed : joinedFacts Tryz.pinned.checked.prog 4 Tryz.f4 Rows.commandLettersSpec Rows.commandLettersRow = true := by
  simp only [joinedFacts, Bool.and_eq_true]
  repeat' apply And.intro
  all_goals (as_aux_lemma => kernel_rfl)
end Go.Proofs.YtipkfalbepiphaaGreatDoor.commandLetters
