/-
  Proved here: the law LexSource, given what the program's functions tell. Conditions: none.
-/
import Derived.Test.YtmcjgdajnppbhaaGreatDoorLexRef
namespace Go.Proofs.YtmcjgdajnppbhaaGreatDoor
open Go.RowKit Utf
set_option maxHeartbeats 8000000 in
set_option maxRecDepth 100000 in
theorem source12_walk (B : LexOk) (k : Int) (s : ByteArray) (p : Int) (w : World) : Calls Tryz.prog 3 #[.agg #[.int .i64 k, .string s, .int .i64 p]] w fun e w' => e = .returned (.bool true) ∧ Below w.heap.size w w' := by
  have hbox : Below w.heap.size w (w.alloc (.cells #[.int .i64 k, .string s, .int .i64 p] 23)) := below_one _ _
  have HBox := Lib.hid hbox
  have hc : ∀ w0, Below (w.alloc (.cells #[.int .i64 k, .string s, .int .i64 p] 23)).heap.size (w.alloc (.cells #[.int .i64 k, .string s, .int .i64 p] 23)) w0 → w.heap.size < w0.heap.size ∧ w0.cell? ⟨w.heap.size, 0, none⟩ = some (.int .i64 k) ∧ w0.cell? ⟨w.heap.size, 1, none⟩ = some (.string s) ∧ w0.cell? ⟨w.heap.size, 2, none⟩ = some (.int .i64 p) := fun w0 hb =>
    ⟨by have := hb.size; simp at this; omega, (hb.cell (p := ⟨w.heap.size, 0, none⟩) (by simp)).trans (by go_simp), (hb.cell (p := ⟨w.heap.size, 1, none⟩) (by simp)).trans (by go_simp), (hb.cell (p := ⟨w.heap.size, 2, none⟩) (by simp)).trans (by go_simp)⟩
  have HC := Lib.hid hc
  clear hc hbox
  by_cases h1 : 3000 < s.size
  · have q1 : decide ((3000 : Int) < (s.size : Int)) = true := decide_eq_true (by omega)
    clear h1
    go_enter Tryz.func3, Tryz.ntmps3
    go_wp2_with fail
    refine (small12_any B _).mono ?_
    rintro e w0 ⟨rfl, hb0⟩
    have B0 := Lib.hid (below_then HBox.out hb0)
    obtain ⟨hz, c0, c1, c2⟩ := HC.out w0 hb0
    clear hb0
    go_wp2
    go_quiet (fail)
    go_wp2
    go_ret
    exact ⟨rfl, below_drewN B0.out _⟩
  have q1 : decide ((3000 : Int) < (s.size : Int)) = false := decide_eq_false (by omega)
  have KS := Lib.hid (fun W => B.source k p s W (by omega))
  have KR := Lib.hid (fun W => source12_ref k p s W (by omega))
  generalize (⟨(Lex.srcT k s.data.toList).toArray⟩ : ByteArray) = X at KS KR
  clear h1
  go_enter Tryz.func3, Tryz.ntmps3
  go_wp2_with fail
  refine (small12_any B _).mono ?_
  rintro e w0 ⟨rfl, hb0⟩
  have B0 := Lib.hid (below_then HBox.out hb0)
  obtain ⟨hz, c0, c1, c2⟩ := HC.out w0 hb0
  clear hb0
  go_wp2
  go_region_held3 (fun w' => w'.cell? ⟨w.heap.size, 0, none⟩ = some (.int .i64 k) ∧ w'.cell? ⟨w.heap.size, 1, none⟩ = some (.string s) ∧ w'.cell? ⟨w.heap.size, 2, none⟩ = some (.int .i64 p)) (go_keep) (first
    | (go_at_call 9; (with_reducible refine (KS.out _).mono ?_); rintro e w2 ⟨rfl, hb2⟩; have hB2 := below_of_drew hb2; have B2 := Lib.hid (below_then B0.out hB2); have d0 := (hB2.cell (p := ⟨w.heap.size, 0, none⟩) hz).trans c0; have d1 := (hB2.cell (p := ⟨w.heap.size, 1, none⟩) hz).trans c1; have d2 := (hB2.cell (p := ⟨w.heap.size, 2, none⟩) hz).trans c2; have hz2 := Nat.lt_of_lt_of_le hz hB2.size; clear hb2 hB2)
    | (go_at_call 10; (with_reducible refine (KR.out _).mono ?_); rintro e w3 ⟨rfl, hb3⟩; have B3 := Lib.hid (below_then B2.out hb3); have e0 := (hb3.cell (p := ⟨w.heap.size, 0, none⟩) hz2).trans d0; have e1 := (hb3.cell (p := ⟨w.heap.size, 1, none⟩) hz2).trans d1; have e2 := (hb3.cell (p := ⟨w.heap.size, 2, none⟩) hz2).trans d2; clear hb3))
  all_goals
    go_wp2
    go_ret
    exact ⟨rfl, B3.out⟩
end Go.Proofs.YtmcjgdajnppbhaaGreatDoor
