/-
  Proved here: what is handed to a law of layer 16 as strings, or as numbers, can be read, and reads behind the call as it did; what the rows list gives the library's tables; a start that has them. Conditions: as they stand in each.
-/
import Derived.Test.YtkcabnodhdhaaaaDoorLexFrame
import Derived.Test.YtkcabnodhdhaaaaDoorUtfFrame
import Derived.Test.YtkcabnodhdhaaaaDoorLinLawB
import Derived.Lib.LaidU8T
import Derived.Deep.DeepHandedRow
import Derived.Deep.Strs
namespace Go.Proofs.YtkcabnodhdhaaaaDoor
open Go.RowKit Go.ChangeShapes Go.ChangeMaps Go.WideShapes Go.Deep Go.ChangeAt
def tabRen : Go.Shelf.Ren := ⟨fun n => n, fun | 5 => 5 | 119 => 82 | 138 => 84 | 139 => 85 | n => n, fun | 3 => 1 | 4 => 2 | n => n⟩
theorem first_is : (Rows.laid_unicode_utf8_first : DataW Unit) = Lib.firstData := by kernel_rfl
theorem accept_is : (Rows.laid_unicode_utf8_acceptRanges : DataW Unit) = Lib.acceptData := by kernel_rfl
set_option maxRecDepth 100000 in
theorem ltabs_of_laid {W : World} (h : laidMetH Tryd.prog laid12 W) (hsh : W.ShapedOpen Tryd.prog) : LTabs W := by
  rw [MakeChecks.laidMetH_plain _ _ _ (by kernel_rfl)] at h
  refine ⟨?_, ?_⟩
  · refine utf8Tabs_of_readsT (ρ := tabRen) ⟨Tryd.underlying5, Tryd.underlying82, Tryd.underlying84, Tryd.underlying85⟩ ⟨by kernel_rfl, by kernel_rfl, by kernel_rfl, by kernel_rfl, by kernel_rfl, by kernel_rfl, by kernel_rfl⟩ ?_ ?_
    · rw [← first_is]
      exact Lib.laidMet.reads h (.tail _ (.head _))
    · rw [← accept_is]
      exact Lib.laidMet.reads h (.head _)
  · exact cell_of_shapedOpen_int (P := Tryd.prog) (g := 0) (t := 3) (zero := #[.int .i64 0]) hsh (of_decide_eq_true (by kernel_rfl)) (by kernel_rfl) rfl (by kernel_rfl) (by kernel_rfl) Tryd.underlying3
section
variable {H : Type} {enc : TypeId × Value → H}
/-- A start that is written out, for a row with a condition of its own, or without one. -/
theorem witness_rowed {C : Checked} {os : Os} {f : FuncId} {fn : Func} {s : OpenSpec} {conds : List PathCond} {apart : Bool} {laid : List (String × DataW Unit)} (modest : Bool) (w0 : World) (args : Array Value) (hos : w0.os = os)
    (hsh : (w0.forCall (fun _ _ => 0) ⟨#[], args, []⟩).Shaped C.prog)
    (hok : Input.okWideB C.prog (w0.forCall (fun _ _ => 0) ⟨#[], args, []⟩) f ⟨#[], args, []⟩ = true)
    (hrow : s.preRow enc C.prog fn conds apart laid (w0.forCall (fun _ _ => 0) ⟨#[], args, []⟩).memory args) :
    ∃ (w : World) (tape : Tape) (i : Input), w.os = os ∧ (w.forCall tape i).Shaped C.prog ∧ i.vars = [] ∧ Input.okWide C.prog (w.forCall tape i) .any w.heap.size f i ∧
      s.preRow enc C.prog fn conds apart laid (w.forCall tape i).memory i.args ∧ ({ modest := modest } : Assume).holds C.prog (lone (Frame.enter C.prog f i.args .normal) [] (w.forCall tape i)) :=
  ⟨w0, fun _ _ => 0, ⟨#[], args, []⟩, hos, hsh, (Input.okWide_of_okWideB (base := 0) hok).1, (Input.okWide_of_okWideB hok).2, hrow, by
    simp only [Assume.holds]
    exact ⟨by simp, by simp, fun _ => Modest.zero, by simp, by simp⟩⟩
theorem cells_str1 : Tryd.prog.cellsOf 9 = 1 := by kernel_rfl
theorem cells_int1 : Tryd.prog.cellsOf 3 = 1 := by kernel_rfl
theorem bulk_strs (l : List (List UInt8)) : Rows.uptoBulkAll (l.map fun b => (DataW.lit (.string b) : DataW H)) = Lin.room l := by
  induction l with
  | nil => simp [Rows.uptoBulkAll, Lin.room]
  | cons x l ih =>
    rw [List.map_cons, Rows.uptoBulkAll, ih, Lin.room]
    simp [Rows.uptoBulk]
set_option maxRecDepth 100000 in
theorem calm_strs {W W' : World} {v : Value} {d : DataW H} {ps : List MemPlace} {sp : Nat → Bool} (h : DataW.Trod enc Tryd.prog W 0 (fun _ => true) true 22 v d ps) (hb : Below W.heap.size W W')
    (hlt : ∀ x ∈ ps, x.block < W.heap.size) (hsp : ∀ x ∈ ps, sp x.block = true) : DataW.Trod enc Tryd.prog W' 0 sp true 22 v d ps :=
  WideElems.Trod_stays laid_out (by kernel_rfl) (of_decide_eq_true (by kernel_rfl)) h (fun x hx => hb.same (hlt x hx)) hsp
set_option maxRecDepth 100000 in
theorem calm_nums {W W' : World} {v : Value} {d : DataW H} {ps : List MemPlace} {sp : Nat → Bool} (h : DataW.Trod enc Tryd.prog W 0 (fun _ => true) true 23 v d ps) (hb : Below W.heap.size W W')
    (hlt : ∀ x ∈ ps, x.block < W.heap.size) (hsp : ∀ x ∈ ps, sp x.block = true) : DataW.Trod enc Tryd.prog W' 0 sp true 23 v d ps :=
  WideElems.Trod_stays laid_out (by kernel_rfl) (of_decide_eq_true (by kernel_rfl)) h (fun x hx => hb.same (hlt x hx)) hsp
set_option maxRecDepth 100000 in
theorem open_ss {W : World} {v : Value} {d : DataW H} {ps : List MemPlace} {r : Reach} {b0 : Nat} (hval : Value.okWide Tryd.prog W r b0 22 v) (h : DataW.Trod enc Tryd.prog W 0 (fun _ => true) true 22 v d ps) : ∃ l, Strs v l W ∧ Lin.room l ≤ Rows.uptoBulk d := by
  obtain ⟨a0, len, cap, rfl⟩ := okWide_slice Tryd.underlying22 hval
  obtain ⟨fuel, hf⟩ := h
  rcases open_strs Tryd.underlying22 Tryd.underlying9 cells_str1 hf with ⟨hcs, -⟩ | ⟨a, len', cap', m, Sx, hcs, -, hl, -, hm, hx, hcell⟩
  · simp [Value.cells] at hcs
    obtain ⟨rfl, rfl, rfl⟩ := hcs
    exact ⟨[], Strs.nil _, Nat.zero_le _⟩
  · simp [Value.cells] at hcs
    obtain ⟨rfl, rfl, rfl⟩ := hcs
    simp only [if_true] at hm
    injection hx with hd _
    have hll : (((List.range len).map fun i => (Sx i).data.toList).map strV).length = len := by simp
    refine ⟨(List.range len).map fun i => (Sx i).data.toList, ⟨some a, cap, by rw [hll], by rw [hll]; exact hl, fun h => (by cases h), fun hp => ⟨a, rfl, ?_, fun j u hu => ?_⟩⟩, ?_⟩
    · rw [hll] at hp
      have h0 := World.block_lt_of_cell? _ _ (hcell 0 (by omega)).1
      rw [add_block] at h0
      exact h0
    · have hj : j < len := by have := (List.getElem?_eq_some_iff.1 hu).1; omega
      rw [(hcell j (by omega)).1, ← hu, List.getElem?_map, List.getElem?_map, List.getElem?_range hj]
      unfold strV
      simp only [Option.map_some]
    · rw [hd]
      have := bulk_strs (H := H) ((List.range len).map fun i => (Sx i).data.toList)
      rw [List.map_map] at this
      simp only [Rows.uptoBulk]
      have e : Rows.uptoBulkAll ((List.range len).map fun i => (DataW.lit (.string (Sx i).data.toList) : DataW H)) = Lin.room ((List.range len).map fun i => (Sx i).data.toList) := this
      omega
set_option maxRecDepth 100000 in
theorem open_nums {W : World} {v : Value} {d : DataW H} {ps : List MemPlace} {r : Reach} {b0 : Nat} (hval : Value.okWide Tryd.prog W r b0 23 v) (h : DataW.Trod enc Tryd.prog W 0 (fun _ => true) true 23 v d ps) : ∃ l, Nums v l W := by
  obtain ⟨a0, len, cap, rfl⟩ := okWide_slice Tryd.underlying23 hval
  obtain ⟨fuel, hf⟩ := h
  rcases open_ints Tryd.underlying23 Tryd.underlying3 cells_int1 hf with ⟨hcs, -⟩ | ⟨a, len', cap', zs, hcs, -, hl, -, hz, -, hcell, -⟩
  · simp [Value.cells] at hcs
    obtain ⟨rfl, rfl, rfl⟩ := hcs
    exact ⟨[], none, 0, rfl, Nat.le_refl _, fun _ => rfl, fun hp => absurd hp (by simp)⟩
  · simp [Value.cells] at hcs
    obtain ⟨rfl, rfl, rfl⟩ := hcs
    simp only [if_true] at hz
    have hll : ((zs.take len).map (Value.int .i64)).length = len := by rw [List.length_map, List.length_take]; omega
    refine ⟨zs.take len, some a, cap, by rw [hll], by rw [hll]; exact hl, fun h => (by cases h), fun hp => ⟨a, rfl, ?_, fun j u hu => ?_⟩⟩
    · have h0 := World.block_lt_of_cell? _ _ (hcell 0 (by omega))
      rw [add_block] at h0
      exact h0
    · have hj : j < ((zs.take len).map (Value.int .i64)).length := (List.getElem?_eq_some_iff.1 hu).1
      have hjz : j < zs.length := by omega
      rw [hcell j hjz, ← hu, List.getElem?_map, List.getElem?_take, if_pos (by omega), List.getElem?_eq_getElem hjz, show zs.getD j 0 = zs[j] by simp [List.getElem?_eq_getElem hjz]]
      rfl
end
end Go.Proofs.YtkcabnodhdhaaaaDoor
