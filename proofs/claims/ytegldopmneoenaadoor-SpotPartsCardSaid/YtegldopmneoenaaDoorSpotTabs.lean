/-
  Proved here: what the library's two variables must hold that the program's spots read, and that a call which leaves alone what lay there keeps it. Conditions: as they stand in each.
-/
import Derived.Test.YtegldopmneoenaaDoorBase
import Derived.Lib.LaidTab
import Derived.Lib.ItoaNum
namespace Go.Proofs.YtegldopmneoenaaDoor
open Go.RowKit
/-- The powers of ten as the library lays them; some number where the library keeps how long its search is. -/
def Tabs (w : World) : Prop := Lib.TabIs Tryd.prog w "internal/strconv.uint64pow10" .u64 Lib.pow10Tab ∧ ∃ m, w.cell? ⟨0, 0, none⟩ = some (.int .i64 m)
theorem tabs_pow : Tryd.prog.globalNamed "internal/strconv.uint64pow10" = some 2 := by kernel_rfl
theorem tabs_keep {w w' : World} (h : Tabs w) (b : Below w.heap.size w w') : Tabs w' := by
  obtain ⟨h1, m, h2⟩ := h
  refine ⟨?_, m, ?_⟩
  · unfold Lib.TabIs World.var? at h1 ⊢
    rw [tabs_pow] at h1 ⊢
    simp only [Option.bind_some] at h1 ⊢
    have hlt : 2 < w.heap.size := by
      rcases Nat.lt_or_ge 2 w.heap.size with h | h
      · exact h
      · rw [Array.getElem?_eq_none h] at h1
        cases h1
    rw [b.block _ hlt]
    exact h1
  · unfold World.cell? at h2 ⊢
    have hlt : 0 < w.heap.size := by
      rcases Nat.lt_or_ge 0 w.heap.size with h | h
      · exact h
      · simp only [Array.getElem?_eq_none h] at h2
        cases h2
    simp only [b.block _ hlt]
    exact h2
end Go.Proofs.YtegldopmneoenaaDoor
