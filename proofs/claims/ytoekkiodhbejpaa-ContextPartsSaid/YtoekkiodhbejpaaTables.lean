/-
  Proved here: the four tables of package api are laid in new memory, row behind row, and ucd.New answers a table that leads to them. Conditions: none.
-/
import Derived.Test.YtoekkiodhbejpaaFindRg
import Derived.Test.YtoekkiodhbejpaaFindCl
import Derived.Test.YtoekkiodhbejpaaFindLw
import Derived.Test.YtoekkiodhbejpaaFindSp
namespace Go.Proofs.Ytoekkiodhbejpaa
open Go.RowKit
/-- Operations without a guard, one behind the other, each of which only comes to a value. -/
def runOps (P : Program) : List Oper → Act → World → Option (Act × World)
  | [], a, w => some (a, w)
  | o :: rest, a, w =>
    match o.guard with
    | some _ => none
    | none =>
      match (execOp a.eval o).run P w with
      | .ok (.value v) w' => runOps P rest (a.put o.dst v) w'
      | .ok .skip w' => runOps P rest (a.put o.dst undef) w'
      | _ => none
theorem wpList_runOps {P : Program} {ops : Array Oper} {Q : Exit → Act → World → Prop} {a' : Act} {w' : World} (hQ : Q .normal a' w') : ∀ (l : List Oper) (a : Act) (w : World), runOps P l a w = some (a', w') → wpList P ops Q l a w
  | [], a, w, h => by simp only [runOps, Option.some.injEq, Prod.mk.injEq] at h; obtain ⟨rfl, rfl⟩ := h; exact hQ
  | o :: rest, a, w, h => by
    unfold runOps at h
    cases hg : o.guard with
    | some g => rw [hg] at h; cases h
    | none =>
      rw [hg] at h
      simp only at h
      unfold wpList
      rw [if_pos (by simp [Region.wanted, hg])]
      refine .inl ?_
      unfold Oper.wp
      split at h
      · rename_i v w1 he
        rw [he]
        exact wpList_runOps hQ rest _ _ h
      · rename_i w1 he
        rw [he]
        exact wpList_runOps hQ rest _ _ h
      · cases h
theorem runOps_append {P : Program} : ∀ (l m : List Oper) (a : Act) (w : World), runOps P (l ++ m) a w = (runOps P l a w).bind fun p => runOps P m p.1 p.2
  | [], m, a, w => by simp [runOps]
  | o :: l, m, a, w => by
    rw [List.cons_append, runOps.eq_2, runOps.eq_2]
    cases hg : o.guard with
    | some g => rfl
    | none =>
      simp only
      split
      · exact runOps_append l m _ _
      · exact runOps_append l m _ _
      · rfl
/-- A body of two such rows of operations and a return. -/
theorem calls_lines {P : Program} {f : FuncId} {fn : Func} {i0 i1 : Nat} {ops0 ops1 : Array Oper} {args : Array Value} {t : Tmp} {v : Value} {w w' : World} {R : Ending → World → Prop}
    (hf : P.funcs[f]? = some fn) (hb : fn.body = some ((Code.region i0 ops0 false).seq ((Code.region i1 ops1 false).seq .ret))) (hr : fn.results = #[.tmp t])
    (h : ((runOps P (ops0.toList ++ ops1.toList) { tmps := args ++ Array.replicate (fn.ntmps - args.size) undef, defers := [] } w).map fun p => (p.1.tmps.getD t undef, p.1.defers, p.2)) = some (v, [], w'))
    (hR : R (.returned v) w') : Calls P f args w R := by
  refine calls_of_wp hf hb ?_
  rw [runOps_append] at h
  cases h0 : runOps P ops0.toList { tmps := args ++ Array.replicate (fn.ntmps - args.size) undef, defers := [] } w with
  | none => rw [h0] at h; cases h
  | some p0 =>
    obtain ⟨a0, w0⟩ := p0
    rw [h0] at h
    simp only [Option.bind_some] at h
    cases h1 : runOps P ops1.toList a0 w0 with
    | none => rw [h1] at h; cases h
    | some p1 =>
      obtain ⟨a1, w1⟩ := p1
      rw [h1] at h
      simp only [Option.map_some, Option.some.injEq, Prod.mk.injEq] at h
      obtain ⟨hv, hd, rfl⟩ := h
      refine wp_seq (wp_region_list (wpList_runOps ?_ _ _ _ h0))
      refine wp_seq (wp_region_list (wpList_runOps ?_ _ _ _ h1))
      exact wp_ret (bodyPost_ret (results_tmp hr _ _ _) hd (by rw [hv]; exact hR))

theorem flat_get {α : Type} [Inhabited α] {enc : α → List Value} {k : Nat} (hk : ∀ x, (enc x).length = k) : ∀ (rows : List α) (j : Nat), j < rows.length → ∀ i v, (enc rows[j]!)[i]? = some v → (rows.flatMap enc)[j * k + i]? = some v
  | [], _, h, _, _, _ => by simp at h
  | x :: t, 0, _, i, v, h => by
    simp only [List.getElem!_cons_zero] at h
    have hi : i < (enc x).length := (List.getElem?_eq_some_iff.1 h).1
    rw [List.flatMap_cons, Nat.zero_mul, Nat.zero_add, List.getElem?_append_left hi]
    exact h
  | x :: t, j + 1, hj, i, v, h => by
    simp only [List.getElem!_cons_succ] at h
    rw [List.flatMap_cons, List.getElem?_append_right (by rw [hk, Nat.add_mul]; omega), hk, show (j + 1) * k + i - k = j * k + i by rw [Nat.add_mul]; omega]
    exact flat_get hk t j (by simpa using hj) i v h
theorem lies_new {α : Type} [Inhabited α] {enc : α → List Value} {k : Nat} (hk : ∀ x, (enc x).length = k) (rows : List α) (w : World) (T : TypeId) : Lies enc k rows w.heap.size (w.alloc (.cells (rows.flatMap enc).toArray T)) :=
  ⟨by simp, fun j hj i v hv => by
    rw [World.cell?_alloc_at _ _ _ _ rfl, List.getElem?_toArray]
    exact flat_get hk rows j hj i v hv⟩
theorem Lies.set {α : Type} [Inhabited α] {enc : α → List Value} {k : Nat} {rows : List α} {b S : Nat} {w : World} (h : Lies enc k rows b w) (hne : S ≠ b) (o : Nat) (u : Value) : Lies enc k rows b (w.setCell ⟨S, o, none⟩ u) :=
  ⟨by simpa [World.setCell] using h.1, fun j hj i v hv => (World.cell?_of_block (a := ⟨b, j * k + i, none⟩) (Below.heap_setCell w ⟨S, o, none⟩ u b (Ne.symm hne))).trans (h.2 j hj i v hv)⟩
def TabPost {α : Type} [Inhabited α] (enc : α → List Value) (k n : Nat) (rows : List α) (w : World) (e : Ending) (w' : World) : Prop :=
  ∃ b, e = .returned (.slice (some ⟨b, 0, none⟩) n n) ∧ w.heap.size ≤ b ∧ Lies enc k rows b w' ∧ Below w.heap.size w w'
set_option maxRecDepth 100000 in
theorem tabRg (w : World) : Calls Try.prog 17 #[] w (TabPost encRg 6 74 ranges w) :=
  calls_lines (t := 0) (v := .slice (some ⟨w.heap.size, 0, none⟩) 74 74) (w' := w.alloc (.cells (ranges.flatMap encRg).toArray 61)) Try.func17 rfl rfl (by kernel_rfl)
    ⟨_, rfl, Nat.le_refl _, lies_new (enc := encRg) (k := 6) (fun _ => rfl) ranges w _, (Below.refl _ _).alloc (Nat.le_refl _) _⟩
set_option maxRecDepth 100000 in
theorem tabCl (w : World) : Calls Try.prog 18 #[] w (TabPost encCl 4 10 classes w) :=
  calls_lines (t := 0) (v := .slice (some ⟨w.heap.size, 0, none⟩) 10 10) (w' := w.alloc (.cells (classes.flatMap encCl).toArray 56)) Try.func18 rfl rfl (by kernel_rfl)
    ⟨_, rfl, Nat.le_refl _, lies_new (enc := encCl) (k := 4) (fun _ => rfl) classes w _, (Below.refl _ _).alloc (Nat.le_refl _) _⟩
set_option maxRecDepth 100000 in
theorem tabLw (w : World) : Calls Try.prog 19 #[] w (TabPost encLw 3 11 lowers w) :=
  calls_lines (t := 0) (v := .slice (some ⟨w.heap.size, 0, none⟩) 11 11) (w' := w.alloc (.cells (lowers.flatMap encLw).toArray 63)) Try.func19 rfl rfl (by kernel_rfl)
    ⟨_, rfl, Nat.le_refl _, lies_new (enc := encLw) (k := 3) (fun _ => rfl) lowers w _, (Below.refl _ _).alloc (Nat.le_refl _) _⟩
set_option maxRecDepth 100000 in
theorem tabSp (w : World) : Calls Try.prog 20 #[] w (TabPost encSp 5 42 splits w) :=
  calls_lines (t := 0) (v := .slice (some ⟨w.heap.size, 0, none⟩) 42 42) (w' := w.alloc (.cells (splits.flatMap encSp).toArray 65)) Try.func20 rfl rfl (by kernel_rfl)
    ⟨_, rfl, Nat.le_refl _, lies_new (enc := encSp) (k := 5) (fun _ => rfl) splits w _, (Below.refl _ _).alloc (Nat.le_refl _) _⟩
/-- What New answers: four slices over the tables. -/
def Table (w : World) (t : Value) : Prop :=
  ∃ b0 b1 b2 b3, t = .agg #[.slice (some ⟨b0, 0, none⟩) 74 74, .slice (some ⟨b1, 0, none⟩) 10 10, .slice (some ⟨b2, 0, none⟩) 11 11, .slice (some ⟨b3, 0, none⟩) 42 42] ∧
    Lies encRg 6 ranges b0 w ∧ Lies encCl 4 classes b1 w ∧ Lies encLw 3 lowers b2 w ∧ Lies encSp 5 splits b3 w
theorem Table.below {w w' : World} {t : Value} (h : Table w t) (hb : Below w.heap.size w w') : Table w' t := by
  obtain ⟨b0, b1, b2, b3, rfl, h0, h1, h2, h3⟩ := h
  exact ⟨b0, b1, b2, b3, rfl, h0.below hb, h1.below hb, h2.below hb, h3.below hb⟩
def NewPost (w : World) (e : Ending) (w' : World) : Prop := ∃ t, e = .returned t ∧ Table w' t ∧ Below w.heap.size w w'
set_option maxHeartbeats 1000000 in
theorem new_any (w : World) : Calls Try.prog 9 #[] w (NewPost w) := by
  go_enter Try.func9, Try.ntmps9
  go_wp2_with fail
  refine (tabRg _).mono ?_
  rintro e w1 ⟨b0, rfl, n0, l0, hb0⟩
  have L0 := Lib.hid l0
  have N0 := Lib.hid n0
  have B0 := Lib.hid hb0
  clear l0 n0 hb0
  go_wp2_with fail
  refine (tabCl _).mono ?_
  rintro e w2 ⟨b1, rfl, n1, l1, hb1⟩
  have L1 := Lib.hid l1
  have N1 := Lib.hid n1
  have B1 := Lib.hid hb1
  clear l1 n1 hb1
  go_wp2_with fail
  refine (tabLw _).mono ?_
  rintro e w3 ⟨b2, rfl, n2, l2, hb2⟩
  have L2 := Lib.hid l2
  have N2 := Lib.hid n2
  have B2 := Lib.hid hb2
  clear l2 n2 hb2
  go_wp2_with fail
  refine (tabSp _).mono ?_
  rintro e w4 ⟨b3, rfl, n3, l3, hb3⟩
  have L3 := Lib.hid l3
  have N3 := Lib.hid n3
  have B3 := Lib.hid hb3
  clear l3 n3 hb3
  have hb : Below (w.alloc (.cells #[.slice none 0 0, .slice none 0 0, .slice none 0 0, .slice none 0 0] 29)).heap.size (w.alloc (.cells #[.slice none 0 0, .slice none 0 0, .slice none 0 0, .slice none 0 0] 29)) w4 :=
    B0.out.trans ((B1.out.mono B0.out.size).trans ((B2.out.mono (Nat.le_trans B0.out.size B1.out.size)).trans (B3.out.mono (Nat.le_trans B0.out.size (Nat.le_trans B1.out.size B2.out.size)))))
  have hc : ∀ i, w4.cell? ⟨w.heap.size, i, none⟩ = (w.alloc (.cells #[.slice none 0 0, .slice none 0 0, .slice none 0 0, .slice none 0 0] 29)).cell? ⟨w.heap.size, i, none⟩ := fun i => hb.cell (p := ⟨w.heap.size, i, none⟩) (show w.heap.size < _ by simp)
  have d0 := (hc 0).trans (show _ = some (.slice none 0 0) by simp)
  have d1 := (hc 1).trans (show _ = some (.slice none 0 0) by simp)
  have d2 := (hc 2).trans (show _ = some (.slice none 0 0) by simp)
  have d3 := (hc 3).trans (show _ = some (.slice none 0 0) by simp)
  have fz : ∀ i, w4.frozen? ⟨w.heap.size, i, none⟩ = false := fun i => (hb.frozen (p := ⟨w.heap.size, i, none⟩) (show w.heap.size < _ by simp)).trans (by simp)
  have HB := Lib.hid (show Below w.heap.size w w4 from ((Below.refl _ w).alloc (Nat.le_refl _) _).trans (hb.mono (by simp)))
  have HT := Lib.hid (show Table w4 (.agg #[.slice (some ⟨b0, 0, none⟩) 74 74, .slice (some ⟨b1, 0, none⟩) 10 10, .slice (some ⟨b2, 0, none⟩) 11 11, .slice (some ⟨b3, 0, none⟩) 42 42]) from
    ⟨b0, b1, b2, b3, rfl, ((L0.out.below B1.out).below B2.out).below B3.out, (L1.out.below B2.out).below B3.out, L2.out.below B3.out, L3.out⟩)
  have hlt : w.heap.size < w4.heap.size := by have := hb.size; simp at this; omega
  have hne : w.heap.size ≠ b0 ∧ w.heap.size ≠ b1 ∧ w.heap.size ≠ b2 ∧ w.heap.size ≠ b3 := by
    have := B0.out.size
    have := B1.out.size
    have := B2.out.size
    have := N0.out
    have := N1.out
    have := N2.out
    have := N3.out
    simp at *
    omega
  have NE := Lib.hid hne
  clear hb hc hne
  go_wp2
  refine bodyPost_ret (v := .agg #[.slice (some ⟨b0, 0, none⟩) 74 74, .slice (some ⟨b1, 0, none⟩) 10 10, .slice (some ⟨b2, 0, none⟩) 11 11, .slice (some ⟨b3, 0, none⟩) 42 42]) (by simp [results, Try.results9, go_sem, d0, d1, d2, d3]) rfl ⟨_, rfl, ?_, ?_⟩
  · obtain ⟨n0, n1, n2, n3⟩ := NE.out
    obtain ⟨c0, c1, c2, c3, hc, l0, l1, l2, l3⟩ := HT.out
    simp only [Value.agg.injEq, Array.mk.injEq, List.cons.injEq, Value.slice.injEq, Option.some.injEq, Addr.mk.injEq, and_true] at hc
    obtain ⟨rfl, rfl, rfl, rfl⟩ := hc
    exact ⟨b0, b1, b2, b3, rfl, (((l0.set n0 _ _).set n0 _ _).set n0 _ _).set n0 _ _, (((l1.set n1 _ _).set n1 _ _).set n1 _ _).set n1 _ _, (((l2.set n2 _ _).set n2 _ _).set n2 _ _).set n2 _ _, (((l3.set n3 _ _).set n3 _ _).set n3 _ _).set n3 _ _⟩
  · exact (((HB.out.setCell (p := ⟨w.heap.size, 0, none⟩) (Nat.le_refl _) _).setCell (p := ⟨w.heap.size, 1, none⟩) (Nat.le_refl _) _).setCell (p := ⟨w.heap.size, 2, none⟩) (Nat.le_refl _) _).setCell (p := ⟨w.heap.size, 3, none⟩) (Nat.le_refl _) _
end Go.Proofs.Ytoekkiodhbejpaa
