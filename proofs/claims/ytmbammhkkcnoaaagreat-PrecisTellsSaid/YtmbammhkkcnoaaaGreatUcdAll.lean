/-
  Proved here: the four tables of package api are laid in new memory, row behind row, and ucd.New answers a table that leads to them. Conditions: none.
  Proved here: each method of ucd.Table, called on what New answers, tells what the tables say. Conditions: the table is one that New made.
  Proved here: ucd.Table's Pair, called on what New answers, tells the character that is made of two others by the tables, and whether there is one. Conditions: the table is one that New made.
  Proved here: the document's own answers for layer 1 (ranges, classes, small letters, letters), as functions of Go, tell what the tables say. Conditions: none.
  Proved here: the document's own answers for layer 1 (splits, pairs), as functions of Go, tell what the tables say. Conditions: none.
  Proved here: the small case at the head of each law of layer 1 comes out true. Conditions: none.
-/
import Derived.Test.YtmbammhkkcnoaaaGreatFindA
import Derived.Test.YtmbammhkkcnoaaaGreatFindB
namespace Go.Proofs.YtmbammhkkcnoaaaGreat
open Go.RowKit
/-- Operations without a guard, one behind the other, each of which only comes to a value. -/
def runOps (P : Program) : List Oper → Act → World → Option (Act × World)
  | [], a, w => some (a, w)
  | o :: rest, a, w =>
    match o.guard with
    | some _ => none
    | none =>
      match (execOp a.eval o).run P w with
      | .ok (.value v) w' => runOps P rest (a.put o.dst v) w'
      | .ok .skip w' => runOps P rest (a.put o.dst undef) w'
      | _ => none
theorem wpList_runOps {P : Program} {ops : Array Oper} {Q : Exit → Act → World → Prop} {a' : Act} {w' : World} (hQ : Q .normal a' w') : ∀ (l : List Oper) (a : Act) (w : World), runOps P l a w = some (a', w') → wpList P ops Q l a w
  | [], a, w, h => by simp only [runOps, Option.some.injEq, Prod.mk.injEq] at h; obtain ⟨rfl, rfl⟩ := h; exact hQ
  | o :: rest, a, w, h => by
    unfold runOps at h
    cases hg : o.guard with
    | some g => rw [hg] at h; cases h
    | none =>
      rw [hg] at h
      simp only at h
      unfold wpList
      rw [if_pos (by simp [Region.wanted, hg])]
      refine .inl ?_
      unfold Oper.wp
      split at h
      · rename_i v w1 he
        rw [he]
        exact wpList_runOps hQ rest _ _ h
      · rename_i w1 he
        rw [he]
        exact wpList_runOps hQ rest _ _ h
      · cases h
theorem runOps_append {P : Program} : ∀ (l m : List Oper) (a : Act) (w : World), runOps P (l ++ m) a w = (runOps P l a w).bind fun p => runOps P m p.1 p.2
  | [], m, a, w => by simp [runOps]
  | o :: l, m, a, w => by
    rw [List.cons_append, runOps.eq_2, runOps.eq_2]
    cases hg : o.guard with
    | some g => rfl
    | none =>
      simp only
      split
      · exact runOps_append l m _ _
      · exact runOps_append l m _ _
      · rfl
/-- A body of two such rows of operations and a return. -/
theorem calls_lines {P : Program} {f : FuncId} {fn : Func} {i0 i1 : Nat} {ops0 ops1 : Array Oper} {args : Array Value} {t : Tmp} {v : Value} {w w' : World} {R : Ending → World → Prop}
    (hf : P.funcs[f]? = some fn) (hb : fn.body = some ((Code.region i0 ops0 false).seq ((Code.region i1 ops1 false).seq .ret))) (hr : fn.results = #[.tmp t])
    (h : ((runOps P (ops0.toList ++ ops1.toList) { tmps := args ++ Array.replicate (fn.ntmps - args.size) undef, defers := [] } w).map fun p => (p.1.tmps.getD t undef, p.1.defers, p.2)) = some (v, [], w'))
    (hR : R (.returned v) w') : Calls P f args w R := by
  refine calls_of_wp hf hb ?_
  rw [runOps_append] at h
  cases h0 : runOps P ops0.toList { tmps := args ++ Array.replicate (fn.ntmps - args.size) undef, defers := [] } w with
  | none => rw [h0] at h; cases h
  | some p0 =>
    obtain ⟨a0, w0⟩ := p0
    rw [h0] at h
    simp only [Option.bind_some] at h
    cases h1 : runOps P ops1.toList a0 w0 with
    | none => rw [h1] at h; cases h
    | some p1 =>
      obtain ⟨a1, w1⟩ := p1
      rw [h1] at h
      simp only [Option.map_some, Option.some.injEq, Prod.mk.injEq] at h
      obtain ⟨hv, hd, rfl⟩ := h
      refine wp_seq (wp_region_list (wpList_runOps ?_ _ _ _ h0))
      refine wp_seq (wp_region_list (wpList_runOps ?_ _ _ _ h1))
      exact wp_ret (bodyPost_ret (results_tmp hr _ _ _) hd (by rw [hv]; exact hR))

theorem flat_get {α : Type} [Inhabited α] {enc : α → List Value} {k : Nat} (hk : ∀ x, (enc x).length = k) : ∀ (rows : List α) (j : Nat), j < rows.length → ∀ i v, (enc rows[j]!)[i]? = some v → (rows.flatMap enc)[j * k + i]? = some v
  | [], _, h, _, _, _ => by simp at h
  | x :: t, 0, _, i, v, h => by
    simp only [List.getElem!_cons_zero] at h
    have hi : i < (enc x).length := (List.getElem?_eq_some_iff.1 h).1
    rw [List.flatMap_cons, Nat.zero_mul, Nat.zero_add, List.getElem?_append_left hi]
    exact h
  | x :: t, j + 1, hj, i, v, h => by
    simp only [List.getElem!_cons_succ] at h
    rw [List.flatMap_cons, List.getElem?_append_right (by rw [hk, Nat.add_mul]; omega), hk, show (j + 1) * k + i - k = j * k + i by rw [Nat.add_mul]; omega]
    exact flat_get hk t j (by simpa using hj) i v h
theorem lies_new {α : Type} [Inhabited α] {enc : α → List Value} {k : Nat} (hk : ∀ x, (enc x).length = k) (rows : List α) (w : World) (T : TypeId) : Lies enc k rows w.heap.size (w.alloc (.cells (rows.flatMap enc).toArray T)) :=
  ⟨by simp, fun j hj i v hv => by
    rw [World.cell?_alloc_at _ _ _ _ rfl, List.getElem?_toArray]
    exact flat_get hk rows j hj i v hv⟩
theorem Lies.set {α : Type} [Inhabited α] {enc : α → List Value} {k : Nat} {rows : List α} {b S : Nat} {w : World} (h : Lies enc k rows b w) (hne : S ≠ b) (o : Nat) (u : Value) : Lies enc k rows b (w.setCell ⟨S, o, none⟩ u) :=
  ⟨by simpa [World.setCell] using h.1, fun j hj i v hv => (World.cell?_of_block (a := ⟨b, j * k + i, none⟩) (Below.heap_setCell w ⟨S, o, none⟩ u b (Ne.symm hne))).trans (h.2 j hj i v hv)⟩
def TabPost {α : Type} [Inhabited α] (enc : α → List Value) (k n : Nat) (rows : List α) (w : World) (e : Ending) (w' : World) : Prop :=
  ∃ b, e = .returned (.slice (some ⟨b, 0, none⟩) n n) ∧ w.heap.size ≤ b ∧ Lies enc k rows b w' ∧ Below w.heap.size w w'
set_option maxRecDepth 100000 in
theorem tabRg (w : World) : Calls Tryz.prog 21 #[] w (TabPost encRg 6 74 ranges w) :=
  calls_lines (t := 0) (v := .slice (some ⟨w.heap.size, 0, none⟩) 74 74) (w' := w.alloc (.cells (ranges.flatMap encRg).toArray 69)) Tryz.func21 rfl rfl (by kernel_rfl)
    ⟨_, rfl, Nat.le_refl _, lies_new (enc := encRg) (k := 6) (fun _ => rfl) ranges w _, (Below.refl _ _).alloc (Nat.le_refl _) _⟩
set_option maxRecDepth 100000 in
theorem tabCl (w : World) : Calls Tryz.prog 22 #[] w (TabPost encCl 4 10 classes w) :=
  calls_lines (t := 0) (v := .slice (some ⟨w.heap.size, 0, none⟩) 10 10) (w' := w.alloc (.cells (classes.flatMap encCl).toArray 71)) Tryz.func22 rfl rfl (by kernel_rfl)
    ⟨_, rfl, Nat.le_refl _, lies_new (enc := encCl) (k := 4) (fun _ => rfl) classes w _, (Below.refl _ _).alloc (Nat.le_refl _) _⟩
set_option maxRecDepth 100000 in
theorem tabLw (w : World) : Calls Tryz.prog 23 #[] w (TabPost encLw 3 11 lowers w) :=
  calls_lines (t := 0) (v := .slice (some ⟨w.heap.size, 0, none⟩) 11 11) (w' := w.alloc (.cells (lowers.flatMap encLw).toArray 73)) Tryz.func23 rfl rfl (by kernel_rfl)
    ⟨_, rfl, Nat.le_refl _, lies_new (enc := encLw) (k := 3) (fun _ => rfl) lowers w _, (Below.refl _ _).alloc (Nat.le_refl _) _⟩
set_option maxRecDepth 100000 in
theorem tabSp (w : World) : Calls Tryz.prog 24 #[] w (TabPost encSp 5 42 splits w) :=
  calls_lines (t := 0) (v := .slice (some ⟨w.heap.size, 0, none⟩) 42 42) (w' := w.alloc (.cells (splits.flatMap encSp).toArray 60)) Tryz.func24 rfl rfl (by kernel_rfl)
    ⟨_, rfl, Nat.le_refl _, lies_new (enc := encSp) (k := 5) (fun _ => rfl) splits w _, (Below.refl _ _).alloc (Nat.le_refl _) _⟩
/-- What New answers: four slices over the tables. -/
def Table (w : World) (t : Value) : Prop :=
  ∃ b0 b1 b2 b3, t = .agg #[.slice (some ⟨b0, 0, none⟩) 74 74, .slice (some ⟨b1, 0, none⟩) 10 10, .slice (some ⟨b2, 0, none⟩) 11 11, .slice (some ⟨b3, 0, none⟩) 42 42] ∧
    Lies encRg 6 ranges b0 w ∧ Lies encCl 4 classes b1 w ∧ Lies encLw 3 lowers b2 w ∧ Lies encSp 5 splits b3 w
theorem Table.below {w w' : World} {t : Value} (h : Table w t) (hb : Below w.heap.size w w') : Table w' t := by
  obtain ⟨b0, b1, b2, b3, rfl, h0, h1, h2, h3⟩ := h
  exact ⟨b0, b1, b2, b3, rfl, h0.below hb, h1.below hb, h2.below hb, h3.below hb⟩
def NewPost (w : World) (e : Ending) (w' : World) : Prop := ∃ t, e = .returned t ∧ Table w' t ∧ Below w.heap.size w w'
set_option maxHeartbeats 1000000 in
theorem new_any (w : World) : Calls Tryz.prog 9 #[] w (NewPost w) := by
  go_enter Tryz.func9, Tryz.ntmps9
  go_wp2_with fail
  refine (tabRg _).mono ?_
  rintro e w1 ⟨b0, rfl, n0, l0, hb0⟩
  have L0 := Lib.hid l0
  have N0 := Lib.hid n0
  have B0 := Lib.hid hb0
  clear l0 n0 hb0
  go_wp2_with fail
  refine (tabCl _).mono ?_
  rintro e w2 ⟨b1, rfl, n1, l1, hb1⟩
  have L1 := Lib.hid l1
  have N1 := Lib.hid n1
  have B1 := Lib.hid hb1
  clear l1 n1 hb1
  go_wp2_with fail
  refine (tabLw _).mono ?_
  rintro e w3 ⟨b2, rfl, n2, l2, hb2⟩
  have L2 := Lib.hid l2
  have N2 := Lib.hid n2
  have B2 := Lib.hid hb2
  clear l2 n2 hb2
  go_wp2_with fail
  refine (tabSp _).mono ?_
  rintro e w4 ⟨b3, rfl, n3, l3, hb3⟩
  have L3 := Lib.hid l3
  have N3 := Lib.hid n3
  have B3 := Lib.hid hb3
  clear l3 n3 hb3
  have hb : Below (w.alloc (.cells #[.slice none 0 0, .slice none 0 0, .slice none 0 0, .slice none 0 0] 28)).heap.size (w.alloc (.cells #[.slice none 0 0, .slice none 0 0, .slice none 0 0, .slice none 0 0] 28)) w4 :=
    B0.out.trans ((B1.out.mono B0.out.size).trans ((B2.out.mono (Nat.le_trans B0.out.size B1.out.size)).trans (B3.out.mono (Nat.le_trans B0.out.size (Nat.le_trans B1.out.size B2.out.size)))))
  have hc : ∀ i, w4.cell? ⟨w.heap.size, i, none⟩ = (w.alloc (.cells #[.slice none 0 0, .slice none 0 0, .slice none 0 0, .slice none 0 0] 28)).cell? ⟨w.heap.size, i, none⟩ := fun i => hb.cell (p := ⟨w.heap.size, i, none⟩) (show w.heap.size < _ by simp)
  have d0 := (hc 0).trans (show _ = some (.slice none 0 0) by simp)
  have d1 := (hc 1).trans (show _ = some (.slice none 0 0) by simp)
  have d2 := (hc 2).trans (show _ = some (.slice none 0 0) by simp)
  have d3 := (hc 3).trans (show _ = some (.slice none 0 0) by simp)
  have fz : ∀ i, w4.frozen? ⟨w.heap.size, i, none⟩ = false := fun i => (hb.frozen (p := ⟨w.heap.size, i, none⟩) (show w.heap.size < _ by simp)).trans (by simp)
  have HB := Lib.hid (show Below w.heap.size w w4 from ((Below.refl _ w).alloc (Nat.le_refl _) _).trans (hb.mono (by simp)))
  have HT := Lib.hid (show Table w4 (.agg #[.slice (some ⟨b0, 0, none⟩) 74 74, .slice (some ⟨b1, 0, none⟩) 10 10, .slice (some ⟨b2, 0, none⟩) 11 11, .slice (some ⟨b3, 0, none⟩) 42 42]) from
    ⟨b0, b1, b2, b3, rfl, ((L0.out.below B1.out).below B2.out).below B3.out, (L1.out.below B2.out).below B3.out, L2.out.below B3.out, L3.out⟩)
  have hlt : w.heap.size < w4.heap.size := by have := hb.size; simp at this; omega
  have hne : w.heap.size ≠ b0 ∧ w.heap.size ≠ b1 ∧ w.heap.size ≠ b2 ∧ w.heap.size ≠ b3 := by
    have := B0.out.size
    have := B1.out.size
    have := B2.out.size
    have := N0.out
    have := N1.out
    have := N2.out
    have := N3.out
    simp at *
    omega
  have NE := Lib.hid hne
  clear hb hc hne
  go_wp2
  refine bodyPost_ret (v := .agg #[.slice (some ⟨b0, 0, none⟩) 74 74, .slice (some ⟨b1, 0, none⟩) 10 10, .slice (some ⟨b2, 0, none⟩) 11 11, .slice (some ⟨b3, 0, none⟩) 42 42]) (by simp [results, Tryz.results9, go_sem, d0, d1, d2, d3]) rfl ⟨_, rfl, ?_, ?_⟩
  · obtain ⟨n0, n1, n2, n3⟩ := NE.out
    obtain ⟨c0, c1, c2, c3, hc, l0, l1, l2, l3⟩ := HT.out
    simp only [Value.agg.injEq, Array.mk.injEq, List.cons.injEq, Value.slice.injEq, Option.some.injEq, Addr.mk.injEq, and_true] at hc
    obtain ⟨rfl, rfl, rfl, rfl⟩ := hc
    exact ⟨b0, b1, b2, b3, rfl, (((l0.set n0 _ _).set n0 _ _).set n0 _ _).set n0 _ _, (((l1.set n1 _ _).set n1 _ _).set n1 _ _).set n1 _ _, (((l2.set n2 _ _).set n2 _ _).set n2 _ _).set n2 _ _, (((l3.set n3 _ _).set n3 _ _).set n3 _ _).set n3 _ _⟩
  · exact (((HB.out.setCell (p := ⟨w.heap.size, 0, none⟩) (Nat.le_refl _) _).setCell (p := ⟨w.heap.size, 1, none⟩) (Nat.le_refl _) _).setCell (p := ⟨w.heap.size, 2, none⟩) (Nat.le_refl _) _).setCell (p := ⟨w.heap.size, 3, none⟩) (Nat.le_refl _) _
end Go.Proofs.YtmbammhkkcnoaaaGreat
namespace Go.Proofs.YtmbammhkkcnoaaaGreat
open Go.RowKit
theorem below_pair (w : World) (a b : Obj) : Below w.heap.size w ((w.alloc a).alloc b) := ((Below.refl _ w).alloc (Nat.le_refl _) _).alloc (by simp) _
set_option maxHeartbeats 2000000 in
theorem rangeOf_any (t : Value) (x : Int) (w : World) (hT : Table w t) :
    Calls Tryz.prog 120 #[t, .int .i32 x] w fun e w' => e = .returned (.agg (encRg ((rangeOf x).getD default)).toArray) ∧ Below w.heap.size w w' := by
  obtain ⟨b0, b1, b2, b3, rfl, l0, -, -, -⟩ := hT
  unfold rangeOf
  have hfind := fun W (h : Below w.heap.size w W) => findRg b0 74 ranges x W rfl (l0.below h) ranges_rise (by omega)
  unfold FindPostRg at hfind
  generalize seek Rg.lo Rg.hi ranges x = o at hfind ⊢
  generalize o.isSome = is at hfind
  generalize o.getD default = y at hfind ⊢
  obtain ⟨v0, v1, v2, v3, v4, v5⟩ := y
  simp only [encRg] at hfind ⊢
  have HF := Lib.hid hfind
  clear hfind l0
  go_enter Tryz.func120, Tryz.ntmps120
  go_wp2_with fail
  refine (HF.out _ (below_pair _ _ _)).mono ?_
  rintro e w1 ⟨rfl, hb1⟩
  have hz : w.heap.size + 1 < w1.heap.size := by have := hb1.size; simp at this; omega
  have hc : ∀ i, w1.cell? ⟨w.heap.size + 1, i, none⟩ = _ := fun i => hb1.cell (p := ⟨w.heap.size + 1, i, none⟩) (show w.heap.size + 1 < _ by simp)
  have d0 := (hc 0).trans (show _ = some (.int .i32 0) by go_simp)
  have d1 := (hc 1).trans (show _ = some (.int .i32 0) by go_simp)
  have d2 := (hc 2).trans (show _ = some (.int .i64 0) by go_simp)
  have d3 := (hc 3).trans (show _ = some (.int .i64 0) by go_simp)
  have d4 := (hc 4).trans (show _ = some (.int .i64 0) by go_simp)
  have d5 := (hc 5).trans (show _ = some (.int .i64 0) by go_simp)
  have fz : ∀ i, w1.frozen? ⟨w.heap.size + 1, i, none⟩ = false := fun i => (hb1.frozen (p := ⟨w.heap.size + 1, i, none⟩) (show w.heap.size + 1 < _ by simp)).trans (by go_simp)
  have HB := Lib.hid ((below_pair _ _ _).trans (hb1.mono (by simp; omega)))
  clear hc hb1
  go_wp2
  refine bodyPost_ret (v := .agg #[.int .i32 v0, .int .i32 v1, .int .i64 v2, .int .i64 v3, .int .i64 v4, .int .i64 v5]) (by simp [results, Tryz.results120, go_sem, d0, d1, d2, d3, d4, d5, hz]) rfl ⟨rfl, ?_⟩
  exact below_new (belowRg HB.out (by omega) _ _ _ _ _ _) (Nat.le_refl _) _
set_option maxHeartbeats 1000000 in
theorem cat_any (t : Value) (x : Int) (w : World) (hT : Table w t) :
    Calls Tryz.prog 71 #[t, .int .i32 x] w fun e w' => e = .returned (.int .i64 (catOf x)) ∧ Below w.heap.size w w' := by
  have hr := fun W (h : Below w.heap.size w W) => rangeOf_any t x W (hT.below h)
  obtain ⟨b0, b1, b2, b3, rfl, -, -, -, -⟩ := hT
  unfold catOf
  generalize (rangeOf x).getD default = y at hr ⊢
  obtain ⟨v0, v1, v2, v3, v4, v5⟩ := y
  simp only [encRg] at hr ⊢
  have HF := Lib.hid hr
  clear hr
  have hfld : ∀ w, (Instr.field 69 (.agg #[.int .i32 v0, .int .i32 v1, .int .i64 v2, .int .i64 v3, .int .i64 v4, .int .i64 v5]) 2).run Tryz.prog w = .ok (.int .i64 v2) w := fun _ => by kernel_rfl
  go_enter Tryz.func71, Tryz.ntmps71
  go_wp2_with fail
  refine (HF.out _ ((Below.refl _ w).alloc (Nat.le_refl _) _)).mono ?_
  rintro e w1 ⟨rfl, hb1⟩
  have HB := Lib.hid (((Below.refl _ w).alloc (Nat.le_refl _) _).trans (hb1.mono (by simp)))
  clear hb1
  go_wp2
  go_ret
  exact ⟨rfl, HB.out⟩
set_option maxHeartbeats 1000000 in
theorem bidi_any (t : Value) (x : Int) (w : World) (hT : Table w t) :
    Calls Tryz.prog 95 #[t, .int .i32 x] w fun e w' => e = .returned (.int .i64 (bidiOf x)) ∧ Below w.heap.size w w' := by
  have hr := fun W (h : Below w.heap.size w W) => rangeOf_any t x W (hT.below h)
  obtain ⟨b0, b1, b2, b3, rfl, -, -, -, -⟩ := hT
  unfold bidiOf
  generalize (rangeOf x).getD default = y at hr ⊢
  obtain ⟨v0, v1, v2, v3, v4, v5⟩ := y
  simp only [encRg] at hr ⊢
  have HF := Lib.hid hr
  clear hr
  have hfld : ∀ w, (Instr.field 69 (.agg #[.int .i32 v0, .int .i32 v1, .int .i64 v2, .int .i64 v3, .int .i64 v4, .int .i64 v5]) 3).run Tryz.prog w = .ok (.int .i64 v3) w := fun _ => by kernel_rfl
  go_enter Tryz.func95, Tryz.ntmps95
  go_wp2_with fail
  refine (HF.out _ ((Below.refl _ w).alloc (Nat.le_refl _) _)).mono ?_
  rintro e w1 ⟨rfl, hb1⟩
  have HB := Lib.hid (((Below.refl _ w).alloc (Nat.le_refl _) _).trans (hb1.mono (by simp)))
  clear hb1
  go_wp2
  go_ret
  exact ⟨rfl, HB.out⟩
set_option maxHeartbeats 1000000 in
theorem join_any (t : Value) (x : Int) (w : World) (hT : Table w t) :
    Calls Tryz.prog 159 #[t, .int .i32 x] w fun e w' => e = .returned (.int .i64 (joinOf x)) ∧ Below w.heap.size w w' := by
  have hr := fun W (h : Below w.heap.size w W) => rangeOf_any t x W (hT.below h)
  obtain ⟨b0, b1, b2, b3, rfl, -, -, -, -⟩ := hT
  unfold joinOf
  generalize (rangeOf x).getD default = y at hr ⊢
  obtain ⟨v0, v1, v2, v3, v4, v5⟩ := y
  simp only [encRg] at hr ⊢
  have HF := Lib.hid hr
  clear hr
  have hfld : ∀ w, (Instr.field 69 (.agg #[.int .i32 v0, .int .i32 v1, .int .i64 v2, .int .i64 v3, .int .i64 v4, .int .i64 v5]) 4).run Tryz.prog w = .ok (.int .i64 v4) w := fun _ => by kernel_rfl
  go_enter Tryz.func159, Tryz.ntmps159
  go_wp2_with fail
  refine (HF.out _ ((Below.refl _ w).alloc (Nat.le_refl _) _)).mono ?_
  rintro e w1 ⟨rfl, hb1⟩
  have HB := Lib.hid (((Below.refl _ w).alloc (Nat.le_refl _) _).trans (hb1.mono (by simp)))
  clear hb1
  go_wp2
  go_ret
  exact ⟨rfl, HB.out⟩
set_option maxHeartbeats 1000000 in
theorem script_any (t : Value) (x : Int) (w : World) (hT : Table w t) :
    Calls Tryz.prog 142 #[t, .int .i32 x] w fun e w' => e = .returned (.int .i64 (scriptOf x)) ∧ Below w.heap.size w w' := by
  have hr := fun W (h : Below w.heap.size w W) => rangeOf_any t x W (hT.below h)
  obtain ⟨b0, b1, b2, b3, rfl, -, -, -, -⟩ := hT
  unfold scriptOf
  generalize (rangeOf x).getD default = y at hr ⊢
  obtain ⟨v0, v1, v2, v3, v4, v5⟩ := y
  simp only [encRg] at hr ⊢
  have HF := Lib.hid hr
  clear hr
  have hfld : ∀ w, (Instr.field 69 (.agg #[.int .i32 v0, .int .i32 v1, .int .i64 v2, .int .i64 v3, .int .i64 v4, .int .i64 v5]) 5).run Tryz.prog w = .ok (.int .i64 v5) w := fun _ => by kernel_rfl
  go_enter Tryz.func142, Tryz.ntmps142
  go_wp2_with fail
  refine (HF.out _ ((Below.refl _ w).alloc (Nat.le_refl _) _)).mono ?_
  rintro e w1 ⟨rfl, hb1⟩
  have HB := Lib.hid (((Below.refl _ w).alloc (Nat.le_refl _) _).trans (hb1.mono (by simp)))
  clear hb1
  go_wp2
  go_ret
  exact ⟨rfl, HB.out⟩
theorem class_rows : ∀ y ∈ classes, 0 ≤ y.lo ∧ y.lo ≤ y.hi ∧ y.hi ≤ 65535 ∧ 0 ≤ y.cls ∧ y.cls ≤ 255 ∧ 0 ≤ y.step ∧ y.step ≤ 1 := by decide +kernel
theorem lower_rows : ∀ y ∈ lowers, 0 ≤ y.lo ∧ y.lo ≤ y.hi ∧ y.hi ≤ 70000 ∧ -9000 ≤ y.far ∧ y.far ≤ 9000 := by decide +kernel
set_option maxHeartbeats 2000000 in
theorem class_any (t : Value) (x : Int) (w : World) (hT : Table w t) :
    Calls Tryz.prog 140 #[t, .int .i32 x] w fun e w' => e = .returned (.int .i64 (clsOf x)) ∧ Below w.heap.size w w' := by
  obtain ⟨b0, b1, b2, b3, rfl, -, l1, -, -⟩ := hT
  unfold clsOf classOf
  have hfind := fun W (h : Below w.heap.size w W) => findCl b1 10 classes x W rfl (l1.below h) classes_rise (by omega)
  unfold FindPostCl at hfind
  cases ho : seek Cl.lo Cl.hi classes x with
  | none =>
    rw [ho] at hfind
    simp only [encCl, Option.getD_none, Option.isSome_none] at hfind ⊢
    have HF := Lib.hid hfind
    clear hfind l1 ho
    go_enter Tryz.func140, Tryz.ntmps140
    go_wp2_with fail
    refine (HF.out _ ((Below.refl _ w).alloc (Nat.le_refl _) _)).mono ?_
    rintro e w1 ⟨rfl, hb1⟩
    have HB := Lib.hid (((Below.refl _ w).alloc (Nat.le_refl _) _).trans (hb1.mono (by simp)))
    clear hb1
    go_wp2
    go_ret
    exact ⟨rfl, below_new HB.out (Nat.le_refl _) _⟩
  | some y =>
    obtain ⟨hy, h1, h2⟩ := seek_some ho
    obtain ⟨g0, g1, g2, g3, g4, g5, g6⟩ := class_rows y hy
    rw [ho] at hfind
    obtain ⟨v0, v1, v2, v3⟩ := y
    simp only [encCl, Option.getD_some, Option.isSome_some] at hfind h1 h2 g0 g1 g2 g3 g4 g5 g6 ⊢
    have HF := Lib.hid hfind
    clear hfind l1 ho hy
    go_enter Tryz.func140, Tryz.ntmps140
    go_wp2_with fail
    refine (HF.out _ ((Below.refl _ w).alloc (Nat.le_refl _) _)).mono ?_
    rintro e w1 ⟨rfl, hb1⟩
    have HB := Lib.hid (((Below.refl _ w).alloc (Nat.le_refl _) _).trans (hb1.mono (by simp)))
    clear hb1
    go_wp2
    go_ret
    have hm : 0 ≤ v3 * (x - v0) ∧ v3 * (x - v0) ≤ 65535 := by
      rcases (show v3 = 0 ∨ v3 = 1 by omega) with rfl | rfl
      · simp
      · omega
    refine ⟨?_, below_new HB.out (Nat.le_refl _) _⟩
    show Ending.returned (.int .i64 (wrap64 (v2 + wrap64 (v3 * (x - v0))))) = _
    rw [IntWalk.wrap64_in (v3 * (x - v0)) (by omega), IntWalk.wrap64_in _ (by omega)]
set_option maxHeartbeats 2000000 in
theorem lower_any (t : Value) (x : Int) (w : World) (hT : Table w t) :
    Calls Tryz.prog 78 #[t, .int .i32 x] w fun e w' => e = .returned (.int .i32 (lowOf x)) ∧ Below w.heap.size w w' := by
  obtain ⟨b0, b1, b2, b3, rfl, -, -, l2, -⟩ := hT
  unfold lowOf lowerOf
  have hfind := fun W (h : Below w.heap.size w W) => findLw b2 11 lowers x W rfl (l2.below h) lowers_rise (by omega)
  unfold FindPostLw at hfind
  cases ho : seek Lw.lo Lw.hi lowers x with
  | none =>
    rw [ho] at hfind
    simp only [encLw, Option.getD_none, Option.isSome_none] at hfind ⊢
    have HF := Lib.hid hfind
    clear hfind l2 ho
    go_enter Tryz.func78, Tryz.ntmps78
    go_wp2_with fail
    refine (HF.out _ ((Below.refl _ w).alloc (Nat.le_refl _) _)).mono ?_
    rintro e w1 ⟨rfl, hb1⟩
    have HB := Lib.hid (((Below.refl _ w).alloc (Nat.le_refl _) _).trans (hb1.mono (by simp)))
    clear hb1
    go_wp2
    go_ret
    exact ⟨rfl, below_new HB.out (Nat.le_refl _) _⟩
  | some y =>
    obtain ⟨hy, h1, h2⟩ := seek_some ho
    obtain ⟨g0, g1, g2, g3, g4⟩ := lower_rows y hy
    rw [ho] at hfind
    obtain ⟨v0, v1, v2⟩ := y
    simp only [encLw, Option.getD_some, Option.isSome_some] at hfind h1 h2 g0 g1 g2 g3 g4 ⊢
    have HF := Lib.hid hfind
    clear hfind l2 ho hy
    go_enter Tryz.func78, Tryz.ntmps78
    go_wp2_with fail
    refine (HF.out _ ((Below.refl _ w).alloc (Nat.le_refl _) _)).mono ?_
    rintro e w1 ⟨rfl, hb1⟩
    have HB := Lib.hid (((Below.refl _ w).alloc (Nat.le_refl _) _).trans (hb1.mono (by simp)))
    clear hb1
    go_wp2
    go_ret
    exact ⟨rfl, below_new HB.out (Nat.le_refl _) _⟩
theorem splitBox (w : World) (a : Obj) {w1 : World} (hb1 : Below ((w.alloc a).alloc (.cells #[.int .i32 0, .int .i32 0, .int .i32 0, .bool false, .bool false] 60)).heap.size ((w.alloc a).alloc (.cells #[.int .i32 0, .int .i32 0, .int .i32 0, .bool false, .bool false] 60)) w1) :
    w.heap.size + 1 < w1.heap.size ∧ (∀ i, w1.frozen? ⟨w.heap.size + 1, i, none⟩ = false) ∧ w1.cell? ⟨w.heap.size + 1, 0, none⟩ = some (.int .i32 0) ∧ w1.cell? ⟨w.heap.size + 1, 1, none⟩ = some (.int .i32 0) ∧ w1.cell? ⟨w.heap.size + 1, 2, none⟩ = some (.int .i32 0) ∧ w1.cell? ⟨w.heap.size + 1, 3, none⟩ = some (.bool false) ∧ w1.cell? ⟨w.heap.size + 1, 4, none⟩ = some (.bool false) := by
  have hc : ∀ i, w1.cell? ⟨w.heap.size + 1, i, none⟩ = _ := fun i => hb1.cell (p := ⟨w.heap.size + 1, i, none⟩) (show w.heap.size + 1 < _ by simp)
  exact ⟨by have := hb1.size; simp at this; omega, fun i => (hb1.frozen (p := ⟨w.heap.size + 1, i, none⟩) (show w.heap.size + 1 < _ by simp)).trans (by go_simp),
    (hc 0).trans (by go_simp), (hc 1).trans (by go_simp), (hc 2).trans (by go_simp), (hc 3).trans (by go_simp), (hc 4).trans (by go_simp)⟩
def TellsSp (o : Option Sp) (w : World) (e : Ending) (w' : World) : Prop :=
  e = .returned (.tuple #[.agg (encSp (o.getD default)).toArray, .bool o.isSome]) ∧ Below w.heap.size w w'
set_option maxHeartbeats 2000000 in
theorem split_any (t : Value) (x : Int) (w : World) (hT : Table w t) :
    Calls Tryz.prog 72 #[t, .int .i32 x] w (TellsSp (splitOf x) w) := by
  obtain ⟨b0, b1, b2, b3, rfl, -, -, -, l3⟩ := hT
  have hfind := fun W (h : Below w.heap.size w W) => findSp b3 42 splits x W rfl (l3.below h) splits_rise (by omega)
  unfold FindPostSp at hfind
  have hsp : splitOf x = match seek Sp.rune Sp.rune splits x with | some x => some x | none => if wideOf x then some ⟨x, x - 65248, 0, true, true⟩ else none := rfl
  cases ho : seek Sp.rune Sp.rune splits x with
  | some y =>
    rw [hsp, ho]
    rw [ho] at hfind
    obtain ⟨v0, v1, v2, v3, v4⟩ := y
    simp only [encSp, Option.getD_some, Option.isSome_some] at hfind ⊢
    have HF := Lib.hid hfind
    clear hfind l3 ho hsp
    go_enter Tryz.func72, Tryz.ntmps72
    go_wp2_with fail
    refine (HF.out _ (below_pair _ _ _)).mono ?_
    rintro e w1 ⟨rfl, hb1⟩
    obtain ⟨hz, fz, d0, d1, d2, d3, d4⟩ := splitBox _ _ hb1
    have HB := Lib.hid ((below_pair _ _ _).trans (hb1.mono (by simp; omega)))
    clear hb1
    go_wp2
    refine bodyPost_ret (v := .tuple #[.agg #[.int .i32 v0, .int .i32 v1, .int .i32 v2, .bool v3, .bool v4], .bool true]) (by simp [results, Tryz.results72, go_sem, d0, d1, d2, d3, d4, hz]) rfl ⟨rfl, ?_⟩
    exact below_new (belowSp HB.out (by omega) _ _ _ _ _) (Nat.le_refl _) _
  | none =>
    rw [hsp, ho]
    rw [ho] at hfind
    have hd : (default : Sp) = ⟨0, 0, 0, false, false⟩ := rfl
    simp only [encSp, Option.getD_none, Option.isSome_none, hd] at hfind ⊢
    have HF := Lib.hid hfind
    clear hfind l3 ho hsp hd
    by_cases h1 : 65281 ≤ x
    · by_cases h2 : x ≤ 65374
      · rw [if_pos (by simp [wideOf, h1, h2])]
        go_enter Tryz.func72, Tryz.ntmps72
        go_wp2_with fail
        refine (HF.out _ (below_pair _ _ _)).mono ?_
        rintro e w1 ⟨rfl, hb1⟩
        obtain ⟨hz, fz, d0, d1, d2, d3, d4⟩ := splitBox _ _ hb1
        have HB := Lib.hid ((below_pair _ _ _).trans (hb1.mono (by simp; omega)))
        clear hb1
        go_wp2
        refine bodyPost_ret (v := .tuple #[.agg #[.int .i32 x, .int .i32 (x - 65248), .int .i32 0, .bool true, .bool true], .bool true]) (by simp [results, Tryz.results72, go_sem, d0, d1, d2, d3, d4, hz]) rfl ⟨rfl, ?_⟩
        exact below_new (belowSp HB.out (by omega) _ _ _ _ _) (Nat.le_refl _) _
      · rw [if_neg (by simp [wideOf, h2])]
        go_enter Tryz.func72, Tryz.ntmps72
        go_wp2_with fail
        refine (HF.out _ (below_pair _ _ _)).mono ?_
        rintro e w1 ⟨rfl, hb1⟩
        obtain ⟨hz, fz, d0, d1, d2, d3, d4⟩ := splitBox _ _ hb1
        have HB := Lib.hid ((below_pair _ _ _).trans (hb1.mono (by simp; omega)))
        clear hb1
        go_wp2
        refine bodyPost_ret (v := .tuple #[.agg #[.int .i32 0, .int .i32 0, .int .i32 0, .bool false, .bool false], .bool false]) (by simp [results, Tryz.results72, go_sem, d0, d1, d2, d3, d4, hz]) rfl ⟨rfl, ?_⟩
        exact below_new (belowSp HB.out (by omega) _ _ _ _ _) (Nat.le_refl _) _
    · rw [if_neg (by simp [wideOf, h1])]
      go_enter Tryz.func72, Tryz.ntmps72
      go_wp2_with fail
      refine (HF.out _ (below_pair _ _ _)).mono ?_
      rintro e w1 ⟨rfl, hb1⟩
      obtain ⟨hz, fz, d0, d1, d2, d3, d4⟩ := splitBox _ _ hb1
      have HB := Lib.hid ((below_pair _ _ _).trans (hb1.mono (by simp; omega)))
      clear hb1
      go_wp2
      refine bodyPost_ret (v := .tuple #[.agg #[.int .i32 0, .int .i32 0, .int .i32 0, .bool false, .bool false], .bool false]) (by simp [results, Tryz.results72, go_sem, d0, d1, d2, d3, d4, hz]) rfl ⟨rfl, ?_⟩
      exact below_new (belowSp HB.out (by omega) _ _ _ _ _) (Nat.le_refl _) _
end Go.Proofs.YtmbammhkkcnoaaaGreat
namespace Go.Proofs.YtmbammhkkcnoaaaGreat
open Go.RowKit
set_option maxHeartbeats 1000000 in
theorem pairClosure (ba bb : Nat) (a b : Int) (y : Sp) (W : World) (ha : W.cell? ⟨ba, 0, none⟩ = some (.int .i32 a)) (hb : W.cell? ⟨bb, 0, none⟩ = some (.int .i32 b)) (la : ba < W.heap.size) (lb : bb < W.heap.size) :
    Calls Tryz.prog 180 (#[.agg (encSp y).toArray] ++ #[.pointer (some ⟨ba, 0, none⟩), .pointer (some ⟨bb, 0, none⟩)]) W fun e w' => e = .returned (.bool (makes a b y)) ∧ Below W.heap.size W w' := by
  obtain ⟨v0, v1, v2, v3, v4⟩ := y
  unfold makes
  simp only [encSp]
  show Calls Tryz.prog 180 #[.agg #[.int .i32 v0, .int .i32 v1, .int .i32 v2, .bool v3, .bool v4], .pointer (some ⟨ba, 0, none⟩), .pointer (some ⟨bb, 0, none⟩)] W _
  cases v3 <;> cases v4 <;> cases h1 : (v1 == a) <;> cases h2 : (v2 == b)
  all_goals
    go_enter Tryz.func180, Tryz.ntmps180
    go_wp2
    go_ret
    exact ⟨rfl, below_new (Below.refl _ _) (Nat.le_refl _) _⟩
def IndexPost (p : Sp → Bool) (n : Nat) (rows : List Sp) (w : World) (e : Ending) (w' : World) : Prop :=
  ∃ k : Nat, k ≤ n ∧ (∀ j, j < k → p rows[j]! = false) ∧ ((k < n ∧ p rows[k]! = true ∧ e = .returned (.int .i64 k)) ∨ (k = n ∧ e = .returned (.int .i64 (-1)))) ∧ Below w.heap.size w w'
set_option maxHeartbeats 2000000 in
theorem index_any (g : Nat) (cb : Array Value) (b n : Nat) (rows : List Sp) (p : Sp → Bool) (w : World) (hn : n = rows.length) (hl : Lies encSp 5 rows b w) (hsz : n < 4611686018427387904)
    (eg : ∀ args w, (callFunc g args).run Tryz.prog w = .ok (.enter g args) w)
    (hf : ∀ (W : World) (y : Sp), Below w.heap.size w W → Calls Tryz.prog g (#[.agg (encSp y).toArray] ++ cb) W fun e w' => e = .returned (.bool (p y)) ∧ Below W.heap.size W w') :
    Calls Tryz.prog 179 #[.slice (some ⟨b, 0, none⟩) n n, .func (.func g) #[] cb] w (IndexPost p n rows w) := by
  have HF := Lib.hid hf
  have HL := Lib.hid hl
  have HN := Lib.hid hn
  clear hf hl hn
  go_enter Tryz.func179, Tryz.ntmps179
  go_wp2
  go_loopg [5, 8] n (fun gg _ s8 wr => ∃ k : Nat, k ≤ n ∧ n - k ≤ gg ∧ s8 = .int .i64 k ∧ Hid (Below w.heap.size w wr) ∧ Hid (∀ j, j < k → p rows[j]! = false))
  case atStart => exact ⟨0, Nat.zero_le _, by omega, rfl, Below.refl _ w, fun j hj => absurd hj (Nat.not_lt_zero _)⟩
  case round =>
    obtain ⟨k, hk, hg, rfl, BW, A⟩ := hrel
    by_cases hlt : k < n
    · have hkz : (k : Int) < (n : Int) := by omega
      obtain ⟨e0, e1, e2, e3, e4⟩ := rowSp (HL.out.below BW.out) k (by have := HN.out; omega) rows[k]! rfl
      have hcall := HF.out wr rows[k]! BW.out
      generalize hy : rows[k]! = y at e0 e1 e2 e3 e4 hcall
      have HY := Lib.hid hy
      clear hy
      obtain ⟨v0, v1, v2, v3, v4⟩ := y
      simp only [encSp] at hcall e0 e1 e2 e3 e4
      cases hp : p ⟨v0, v1, v2, v3, v4⟩ with
      | true =>
        rw [hp] at hcall
        have HP := Lib.hid hp
        have HC := Lib.hid hcall
        clear hp hcall
        go_wp2_with fail
        refine HC.out.mono ?_
        rintro e w2 ⟨rfl, hb'⟩
        have HB2 := Lib.hid (BW.out.trans (hb'.mono BW.out.size))
        clear hb'
        go_wp2
        go_ret
        exact ⟨k, hk, A.out, .inl ⟨hlt, by rw [HY.out]; exact HP.out, rfl⟩, HB2.out⟩
      | false =>
        rw [hp] at hcall
        have HP := Lib.hid hp
        have HC := Lib.hid hcall
        clear hp hcall
        go_wp2_with fail
        refine HC.out.mono ?_
        rintro e w2 ⟨rfl, hb'⟩
        have HB2 := Lib.hid (BW.out.trans (hb'.mono BW.out.size))
        clear hb'
        go_wp2
        go_roundg (n - (k + 1))
        case measure => omega
        case rel =>
          refine ⟨k + 1, by omega, by omega, by go_num, HB2, (show Hid _ from fun j hj => ?_)⟩
          by_cases e : j = k
          · subst e
            rw [HY.out]; exact HP.out
          · exact A.out j (by omega)
    · have hkz : ¬ (k : Int) < (n : Int) := by omega
      go_wp2
      go_ret
      exact ⟨k, hk, A.out, .inr ⟨by omega, rfl⟩, BW.out⟩
theorem find_hit {α : Type} [Inhabited α] (p : α → Bool) : ∀ (l : List α) (k : Nat), k < l.length → (∀ j, j < k → p l[j]! = false) → p l[k]! = true → l.find? p = some l[k]!
  | [], _, h, _, _ => by simp at h
  | x :: t, 0, _, _, h => by simp only [List.getElem!_cons_zero] at h ⊢; simp [h]
  | x :: t, k + 1, hk, h0, h1 => by
    have hx := h0 0 (by omega)
    simp only [List.getElem!_cons_zero, List.getElem!_cons_succ] at hx h1 ⊢
    rw [List.find?_cons_of_neg (by simp [hx])]
    exact find_hit p t k (by simpa using hk) (fun j hj => by have := h0 (j + 1) (by omega); simpa using this) h1
theorem find_miss {α : Type} [Inhabited α] (p : α → Bool) : ∀ (l : List α), (∀ j, j < l.length → p l[j]! = false) → l.find? p = none
  | [], _ => rfl
  | x :: t, h => by
    have hx := h 0 (by simp)
    simp only [List.getElem!_cons_zero] at hx
    rw [List.find?_cons_of_neg (by simp [hx])]
    exact find_miss p t (fun j hj => by have := h (j + 1) (by simpa using hj); simpa using this)
def TellsRune (o : Option Int) (w : World) (e : Ending) (w' : World) : Prop :=
  e = .returned (.tuple #[.int .i32 (o.getD 0), .bool o.isSome]) ∧ Below w.heap.size w w'
theorem below_three (w : World) (a b c : Obj) : Below w.heap.size w (((w.alloc a).alloc b).alloc c) := (((Below.refl _ w).alloc (Nat.le_refl _) _).alloc (by simp) _).alloc (by simp; omega) _
set_option maxHeartbeats 2000000 in
theorem pair_any (t : Value) (a b : Int) (w : World) (hT : Table w t) :
    Calls Tryz.prog 169 #[t, .int .i32 a, .int .i32 b] w (TellsRune (pairOf a b) w) := by
  obtain ⟨b0, b1, b2, b3, rfl, -, -, -, l3⟩ := hT
  unfold pairOf
  by_cases hb0 : b = 0
  · rw [if_pos hb0]
    subst hb0
    clear l3
    go_enter Tryz.func169, Tryz.ntmps169
    go_wp2
    go_ret2
    exact ⟨rfl, below_three _ _ _ _⟩
  · rw [if_neg hb0]
    have hbb : (b == 0) = false := by simpa using hb0
    obtain ⟨W0, hW0⟩ : ∃ W0, W0 = ((w.alloc (.cells #[.slice (some ⟨b0, 0, none⟩) 74 74, .slice (some ⟨b1, 0, none⟩) 10 10, .slice (some ⟨b2, 0, none⟩) 11 11, .slice (some ⟨b3, 0, none⟩) 42 42] 28)).alloc (.cells #[.int .i32 a] 21)).alloc (.cells #[.int .i32 b] 21) := ⟨_, rfl⟩
    have hB0 : Below w.heap.size w W0 := by rw [hW0]; exact below_three _ _ _ _
    have hS : W0.heap.size = w.heap.size + 1 + 1 + 1 := by rw [hW0]; simp
    have c0 : W0.cell? ⟨w.heap.size, 3, none⟩ = some (.slice (some ⟨b3, 0, none⟩) 42 42) := by rw [hW0]; go_simp
    have c1 : W0.cell? ⟨w.heap.size + 1, 0, none⟩ = some (.int .i32 a) := by rw [hW0]; go_simp
    have c2 : W0.cell? ⟨w.heap.size + 1 + 1, 0, none⟩ = some (.int .i32 b) := by rw [hW0]; go_simp
    have eg : ∀ args w, (callFunc 180 args).run Tryz.prog w = .ok (.enter 180 args) w := enters_of Tryz.func180 (by kernel_rfl) rfl
    have hI := index_any 180 #[.pointer (some ⟨w.heap.size + 1, 0, none⟩), .pointer (some ⟨w.heap.size + 1 + 1, 0, none⟩)] b3 42 splits (makes a b) W0 rfl (l3.below hB0) (by omega) eg
      (fun W y hb => pairClosure (w.heap.size + 1) (w.heap.size + 1 + 1) a b y W ((hb.cell (p := ⟨w.heap.size + 1, 0, none⟩) (show w.heap.size + 1 < W0.heap.size by omega)).trans c1) ((hb.cell (p := ⟨w.heap.size + 1 + 1, 0, none⟩) (show w.heap.size + 1 + 1 < W0.heap.size by omega)).trans c2) (by have := hb.size; omega) (by have := hb.size; omega))
    have HL := Lib.hid (l3.below hB0)
    have HB0 := Lib.hid hB0
    have C0 := Lib.hid c0
    have HS := Lib.hid hS
    have HI := Lib.hid hI
    clear l3 hB0 hS c0 c1 c2 eg hI
    go_enter Tryz.func169, Tryz.ntmps169
    go_wp2_with fail
    rw [← hW0]
    clear hW0
    refine HI.out.mono ?_
    rintro e w1 ⟨k, hk, k1, k2, hb1⟩
    have a0 := (hb1.cell (p := ⟨w.heap.size, 3, none⟩) (show w.heap.size < W0.heap.size by have := HS.out; omega)).trans C0.out
    have HB1 := Lib.hid hb1
    rcases k2 with ⟨hlt, kp, rfl⟩ | ⟨rfl, rfl⟩
    · have HK := Lib.hid (find_hit (makes a b) splits k hlt k1 kp)
      obtain ⟨e0, -⟩ := rowSp (HL.out.below hb1) k hlt splits[k]! rfl
      clear k1 kp hb1
      generalize splits[k]! = y at HK e0
      obtain ⟨v0, v1, v2, v3, v4⟩ := y
      simp only at e0
      go_wp2
      go_ret2
      refine ⟨?_, HB0.out.trans (HB1.out.mono HB0.out.size)⟩
      rw [HK.out]
      rfl
    · have HK := Lib.hid (find_miss (makes a b) splits k1)
      clear k1 hb1
      go_wp2
      go_ret2
      refine ⟨?_, HB0.out.trans (HB1.out.mono HB0.out.size)⟩
      rw [HK.out]
      rfl
end Go.Proofs.YtmbammhkkcnoaaaGreat
namespace Go.Proofs.YtmbammhkkcnoaaaGreat
open Go.RowKit
theorem findBox (w : World) {w1 : World} (hb1 : Below (w.alloc (.cells #[.int .i32 0, .int .i32 0, .int .i64 0, .int .i64 0, .int .i64 0, .int .i64 0] 69)).heap.size (w.alloc (.cells #[.int .i32 0, .int .i32 0, .int .i64 0, .int .i64 0, .int .i64 0, .int .i64 0] 69)) w1) :
    (∀ i, w1.frozen? ⟨w.heap.size, i, none⟩ = false) ∧ w1.cell? ⟨w.heap.size, 0, none⟩ = some (.int .i32 0) ∧ w1.cell? ⟨w.heap.size, 1, none⟩ = some (.int .i32 0) ∧ w1.cell? ⟨w.heap.size, 2, none⟩ = some (.int .i64 0) ∧ w1.cell? ⟨w.heap.size, 3, none⟩ = some (.int .i64 0) ∧ w1.cell? ⟨w.heap.size, 4, none⟩ = some (.int .i64 0) ∧ w1.cell? ⟨w.heap.size, 5, none⟩ = some (.int .i64 0) := by
  have hc : ∀ i, w1.cell? ⟨w.heap.size, i, none⟩ = _ := fun i => hb1.cell (p := ⟨w.heap.size, i, none⟩) (show w.heap.size < _ by simp)
  exact ⟨fun i => (hb1.frozen (p := ⟨w.heap.size, i, none⟩) (show w.heap.size < _ by simp)).trans (by go_simp),
    (hc 0).trans (by go_simp), (hc 1).trans (by go_simp), (hc 2).trans (by go_simp), (hc 3).trans (by go_simp), (hc 4).trans (by go_simp), (hc 5).trans (by go_simp)⟩
theorem step_no {α : Type} [Inhabited α] {q : α → Prop} {rows : List α} {k : Nat} (A : ∀ j, j < k → ¬ q rows[j]!) {y : α} (hy : rows[k]! = y) (h : ¬ q y) : ∀ j, j < k + 1 → ¬ q rows[j]! := fun j hj => by
  by_cases e : j = k
  · subst e; rw [hy]; exact h
  · exact A j (by omega)
def TellsRg (o : Option Rg) (w : World) (e : Ending) (w' : World) : Prop :=
  e = .returned (.tuple #[.agg (encRg (o.getD default)).toArray, .bool o.isSome]) ∧ Below w.heap.size w w'
set_option maxHeartbeats 4000000 in
theorem refFind_any (x : Int) (w : World) : Calls Tryz.prog 74 #[.int .i32 x] w (TellsRg (rangeOf x) w) := by
  go_enter Tryz.func74, Tryz.ntmps74
  go_wp2_with fail
  refine (tabRg _).mono ?_
  rintro e w1 ⟨b, rfl, n0, l0, hb1⟩
  obtain ⟨fz, d0, d1, d2, d3, d4, d5⟩ := findBox w hb1
  have HL := Lib.hid l0
  have HB := Lib.hid (((Below.refl _ w).alloc (Nat.le_refl _) _).trans (hb1.mono (by simp)))
  have hne : b ≠ w.heap.size := by simp at n0; omega
  clear l0 hb1 n0
  go_wp2
  go_loop [5] (fun i => ∃ k : Nat, k ≤ 74 ∧ i = .int .i64 k ∧ Hid (∀ j, j < k → ¬ (ranges[j]!.lo ≤ x ∧ x ≤ ranges[j]!.hi))) (fun i => 74 - (intOf i).toNat)
  case atStart => exact ⟨0, Nat.zero_le _, rfl, fun j hj => absurd hj (Nat.not_lt_zero _)⟩
  case round =>
    obtain ⟨k, hk, rfl, A⟩ := hrel
    by_cases hlt : k < 74
    · have hkz : (k : Int) < 74 := by omega
      obtain ⟨e0, e1, e2, e3, e4, e5⟩ := rowRg HL.out k hlt ranges[k]! rfl
      generalize hy : ranges[k]! = y at e0 e1 e2 e3 e4 e5
      obtain ⟨v0, v1, v2, v3, v4, v5⟩ := y
      have HY := Lib.hid hy
      clear hy
      simp only at e0 e1 e2 e3 e4 e5
      by_cases h1 : v0 ≤ x
      · by_cases h2 : x ≤ v1
        · go_wp2
          refine bodyPost_ret (v := .tuple #[.agg #[.int .i32 v0, .int .i32 v1, .int .i64 v2, .int .i64 v3, .int .i64 v4, .int .i64 v5], .bool true]) (by simp [results, Tryz.results74, go_sem, d0, d1, d2, d3, d4, d5]) rfl ⟨?_, belowRg HB.out (Nat.le_refl _) _ _ _ _ _ _⟩
          unfold rangeOf
          rw [seek_hit x ranges_rise k hlt (by rw [HY.out]; exact h1) (by rw [HY.out]; exact h2), HY.out]
          rfl
        · have H2 := Lib.hid h2
          have h2' : decide (x ≤ v1) = false := by simpa using h2
          go_wp2
          exact ⟨⟨k + 1, by omega, by go_num, Lib.hid (step_no (q := fun y => y.lo ≤ x ∧ x ≤ y.hi) A.out HY.out (fun h => H2.out h.2))⟩, by simp [intOf]; omega⟩
      · have H1 := Lib.hid h1
        have h1' : decide (v0 ≤ x) = false := by simpa using h1
        go_wp2
        exact ⟨⟨k + 1, by omega, by go_num, Lib.hid (step_no (q := fun y => y.lo ≤ x ∧ x ≤ y.hi) A.out HY.out (fun h => H1.out h.1))⟩, by simp [intOf]; omega⟩
    · have hkz : ¬ (k : Int) < 74 := by omega
      go_wp2
      refine bodyPost_ret (v := .tuple #[.agg #[.int .i32 0, .int .i32 0, .int .i64 0, .int .i64 0, .int .i64 0, .int .i64 0], .bool false]) (by simp [results, Tryz.results74, go_sem, d0, d1, d2, d3, d4, d5]) rfl ⟨?_, belowRg HB.out (Nat.le_refl _) _ _ _ _ _ _⟩
      unfold rangeOf
      rw [seek_miss x (fun j hj => A.out j (by have : ranges.length = 74 := rfl; omega))]
      rfl
set_option maxHeartbeats 1000000 in
theorem refCat_any (x : Int) (w : World) : Calls Tryz.prog 40 #[.int .i32 x] w fun e w' => e = .returned (.int .i64 (catOf x)) ∧ Below w.heap.size w w' := by
  have hr := refFind_any x w
  unfold TellsRg at hr
  unfold catOf
  generalize (rangeOf x).isSome = is at hr
  generalize (rangeOf x).getD default = y at hr ⊢
  obtain ⟨v0, v1, v2, v3, v4, v5⟩ := y
  simp only [encRg] at hr ⊢
  have HF := Lib.hid hr
  clear hr
  go_enter Tryz.func40, Tryz.ntmps40
  go_wp2_with fail
  refine HF.out.mono ?_
  rintro e w1 ⟨rfl, hb1⟩
  have HB := Lib.hid hb1
  clear hb1
  go_wp2
  go_ret
  exact ⟨rfl, below_new HB.out (Nat.le_refl _) _⟩
set_option maxHeartbeats 1000000 in
theorem refBidi_any (x : Int) (w : World) : Calls Tryz.prog 63 #[.int .i32 x] w fun e w' => e = .returned (.int .i64 (bidiOf x)) ∧ Below w.heap.size w w' := by
  have hr := refFind_any x w
  unfold TellsRg at hr
  unfold bidiOf
  generalize (rangeOf x).isSome = is at hr
  generalize (rangeOf x).getD default = y at hr ⊢
  obtain ⟨v0, v1, v2, v3, v4, v5⟩ := y
  simp only [encRg] at hr ⊢
  have HF := Lib.hid hr
  clear hr
  go_enter Tryz.func63, Tryz.ntmps63
  go_wp2_with fail
  refine HF.out.mono ?_
  rintro e w1 ⟨rfl, hb1⟩
  have HB := Lib.hid hb1
  clear hb1
  go_wp2
  go_ret
  exact ⟨rfl, below_new HB.out (Nat.le_refl _) _⟩
set_option maxHeartbeats 1000000 in
theorem refJoin_any (x : Int) (w : World) : Calls Tryz.prog 145 #[.int .i32 x] w fun e w' => e = .returned (.int .i64 (joinOf x)) ∧ Below w.heap.size w w' := by
  have hr := refFind_any x w
  unfold TellsRg at hr
  unfold joinOf
  generalize (rangeOf x).isSome = is at hr
  generalize (rangeOf x).getD default = y at hr ⊢
  obtain ⟨v0, v1, v2, v3, v4, v5⟩ := y
  simp only [encRg] at hr ⊢
  have HF := Lib.hid hr
  clear hr
  go_enter Tryz.func145, Tryz.ntmps145
  go_wp2_with fail
  refine HF.out.mono ?_
  rintro e w1 ⟨rfl, hb1⟩
  have HB := Lib.hid hb1
  clear hb1
  go_wp2
  go_ret
  exact ⟨rfl, below_new HB.out (Nat.le_refl _) _⟩
set_option maxHeartbeats 1000000 in
theorem refScript_any (x : Int) (w : World) : Calls Tryz.prog 117 #[.int .i32 x] w fun e w' => e = .returned (.int .i64 (scriptOf x)) ∧ Below w.heap.size w w' := by
  have hr := refFind_any x w
  unfold TellsRg at hr
  unfold scriptOf
  generalize (rangeOf x).isSome = is at hr
  generalize (rangeOf x).getD default = y at hr ⊢
  obtain ⟨v0, v1, v2, v3, v4, v5⟩ := y
  simp only [encRg] at hr ⊢
  have HF := Lib.hid hr
  clear hr
  go_enter Tryz.func117, Tryz.ntmps117
  go_wp2_with fail
  refine HF.out.mono ?_
  rintro e w1 ⟨rfl, hb1⟩
  have HB := Lib.hid hb1
  clear hb1
  go_wp2
  go_ret
  exact ⟨rfl, below_new HB.out (Nat.le_refl _) _⟩
set_option maxHeartbeats 4000000 in
theorem refClass_any (x : Int) (w : World) : Calls Tryz.prog 114 #[.int .i32 x] w fun e w' => e = .returned (.int .i64 (clsOf x)) ∧ Below w.heap.size w w' := by
  go_enter Tryz.func114, Tryz.ntmps114
  go_wp2_with fail
  refine (tabCl _).mono ?_
  rintro e w1 ⟨b, rfl, n0, l0, hb1⟩
  have HL := Lib.hid l0
  have HB := Lib.hid hb1
  clear l0 hb1 n0
  go_wp2
  go_loop [4] (fun i => ∃ k : Nat, k ≤ 10 ∧ i = .int .i64 k ∧ Hid (∀ j, j < k → ¬ (classes[j]!.lo ≤ x ∧ x ≤ classes[j]!.hi))) (fun i => 10 - (intOf i).toNat)
  case atStart => exact ⟨0, Nat.zero_le _, rfl, fun j hj => absurd hj (Nat.not_lt_zero _)⟩
  case round =>
    obtain ⟨k, hk, rfl, A⟩ := hrel
    by_cases hlt : k < 10
    · have hkz : (k : Int) < 10 := by omega
      obtain ⟨e0, e1, e2, e3⟩ := rowCl HL.out k hlt classes[k]! rfl
      have hrow := class_rows classes[k]! (by rw [getElem!_pos classes k hlt]; exact List.getElem_mem hlt)
      generalize hy : classes[k]! = y at e0 e1 e2 e3 hrow
      obtain ⟨v0, v1, v2, v3⟩ := y
      have HY := Lib.hid hy
      clear hy
      simp only at e0 e1 e2 e3 hrow
      by_cases h1 : v0 ≤ x
      · by_cases h2 : x ≤ v1
        · have H12 := Lib.hid (And.intro h1 h2)
          obtain ⟨g0, g1, g2, g3, g4, g5, g6⟩ := hrow
          go_wp2
          go_quiet (fail)
          go_wp2
          go_ret
          refine ⟨?_, below_drewN HB.out _⟩
          unfold clsOf classOf
          rw [seek_hit x classes_rise k hlt (by rw [HY.out]; exact H12.out.1) (by rw [HY.out]; exact H12.out.2), HY.out]
          have hm : 0 ≤ v3 * (x - v0) ∧ v3 * (x - v0) ≤ 65535 := by
            have := H12.out
            rcases (show v3 = 0 ∨ v3 = 1 by omega) with rfl | rfl
            · simp
            · omega
          show Ending.returned (.int .i64 (wrap64 (v2 + wrap64 (v3 * (x - v0))))) = _
          rw [IntWalk.wrap64_in (v3 * (x - v0)) (by omega), IntWalk.wrap64_in _ (by omega)]
        · have H2 := Lib.hid h2
          have h2' : decide (x ≤ v1) = false := by simpa using h2
          clear hrow
          go_wp2
          exact ⟨⟨k + 1, by omega, by go_num, Lib.hid (step_no (q := fun y => y.lo ≤ x ∧ x ≤ y.hi) A.out HY.out (fun h => H2.out h.2))⟩, by simp [intOf]; omega⟩
      · have H1 := Lib.hid h1
        have h1' : decide (v0 ≤ x) = false := by simpa using h1
        clear hrow
        go_wp2
        exact ⟨⟨k + 1, by omega, by go_num, Lib.hid (step_no (q := fun y => y.lo ≤ x ∧ x ≤ y.hi) A.out HY.out (fun h => H1.out h.1))⟩, by simp [intOf]; omega⟩
    · have hkz : ¬ (k : Int) < 10 := by omega
      go_wp2
      go_ret
      refine ⟨?_, HB.out⟩
      unfold clsOf classOf
      rw [seek_miss x (fun j hj => A.out j (by have : classes.length = 10 := rfl; omega))]
      rfl
set_option maxHeartbeats 4000000 in
theorem refLower_any (x : Int) (w : World) : Calls Tryz.prog 98 #[.int .i32 x] w fun e w' => e = .returned (.int .i32 (lowOf x)) ∧ Below w.heap.size w w' := by
  go_enter Tryz.func98, Tryz.ntmps98
  go_wp2_with fail
  refine (tabLw _).mono ?_
  rintro e w1 ⟨b, rfl, n0, l0, hb1⟩
  have HL := Lib.hid l0
  have HB := Lib.hid hb1
  clear l0 hb1 n0
  go_wp2
  go_loop [4] (fun i => ∃ k : Nat, k ≤ 11 ∧ i = .int .i64 k ∧ Hid (∀ j, j < k → ¬ (lowers[j]!.lo ≤ x ∧ x ≤ lowers[j]!.hi))) (fun i => 11 - (intOf i).toNat)
  case atStart => exact ⟨0, Nat.zero_le _, rfl, fun j hj => absurd hj (Nat.not_lt_zero _)⟩
  case round =>
    obtain ⟨k, hk, rfl, A⟩ := hrel
    by_cases hlt : k < 11
    · have hkz : (k : Int) < 11 := by omega
      obtain ⟨e0, e1, e2⟩ := rowLw HL.out k hlt lowers[k]! rfl
      have hrow := lower_rows lowers[k]! (by rw [getElem!_pos lowers k hlt]; exact List.getElem_mem hlt)
      generalize hy : lowers[k]! = y at e0 e1 e2 hrow
      obtain ⟨v0, v1, v2⟩ := y
      have HY := Lib.hid hy
      clear hy
      simp only at e0 e1 e2 hrow
      by_cases h1 : v0 ≤ x
      · by_cases h2 : x ≤ v1
        · have H12 := Lib.hid (And.intro h1 h2)
          obtain ⟨g0, g1, g2, g3, g4⟩ := hrow
          go_wp2
          go_ret
          refine ⟨?_, HB.out⟩
          unfold lowOf lowerOf
          rw [seek_hit x lowers_rise k hlt (by rw [HY.out]; exact H12.out.1) (by rw [HY.out]; exact H12.out.2), HY.out]
          rfl
        · have H2 := Lib.hid h2
          have h2' : decide (x ≤ v1) = false := by simpa using h2
          clear hrow
          go_wp2
          exact ⟨⟨k + 1, by omega, by go_num, Lib.hid (step_no (q := fun y => y.lo ≤ x ∧ x ≤ y.hi) A.out HY.out (fun h => H2.out h.2))⟩, by simp [intOf]; omega⟩
      · have H1 := Lib.hid h1
        have h1' : decide (v0 ≤ x) = false := by simpa using h1
        clear hrow
        go_wp2
        exact ⟨⟨k + 1, by omega, by go_num, Lib.hid (step_no (q := fun y => y.lo ≤ x ∧ x ≤ y.hi) A.out HY.out (fun h => H1.out h.1))⟩, by simp [intOf]; omega⟩
    · have hkz : ¬ (k : Int) < 11 := by omega
      go_wp2
      go_ret
      refine ⟨?_, HB.out⟩
      unfold lowOf lowerOf
      rw [seek_miss x (fun j hj => A.out j (by have : lowers.length = 11 := rfl; omega))]
      rfl
set_option maxHeartbeats 1000000 in
theorem refWide_any (x : Int) (w : World) : Calls Tryz.prog 73 #[.int .i32 x] w fun e w' => e = .returned (.bool (wideOf x)) ∧ w = w' := by
  unfold wideOf
  cases h1 : decide (65281 ≤ x) <;> cases h2 : decide (x ≤ 65374)
  all_goals
    go_enter Tryz.func73, Tryz.ntmps73
    go_wp2
    all_goals
      go_ret
      first | exact ⟨rfl, rfl⟩ | (simp at h1 h2; omega)
theorem wide_not (x : Int) (h : wideOf x = true) : splitOf x = some ⟨x, x - 65248, 0, true, true⟩ := by
  unfold splitOf
  cases hr : rowOf x with
  | none => simp [h]
  | some y =>
    exfalso
    obtain ⟨hy, h1, h2⟩ := seek_some hr
    have : ∀ y ∈ splits, y.rune < 65281 ∨ 65374 < y.rune := by decide +kernel
    have := this y hy
    simp only [wideOf, Bool.and_eq_true, decide_eq_true_eq] at h
    omega
end Go.Proofs.YtmbammhkkcnoaaaGreat
namespace Go.Proofs.YtmbammhkkcnoaaaGreat
open Go.RowKit
theorem refSplitBox (w : World) {w1 : World} (hb1 : Below (w.alloc (.cells #[.int .i32 0, .int .i32 0, .int .i32 0, .bool false, .bool false] 60)).heap.size (w.alloc (.cells #[.int .i32 0, .int .i32 0, .int .i32 0, .bool false, .bool false] 60)) w1) :
    (∀ i, w1.frozen? ⟨w.heap.size, i, none⟩ = false) ∧ w1.cell? ⟨w.heap.size, 0, none⟩ = some (.int .i32 0) ∧ w1.cell? ⟨w.heap.size, 1, none⟩ = some (.int .i32 0) ∧ w1.cell? ⟨w.heap.size, 2, none⟩ = some (.int .i32 0) ∧ w1.cell? ⟨w.heap.size, 3, none⟩ = some (.bool false) ∧ w1.cell? ⟨w.heap.size, 4, none⟩ = some (.bool false) := by
  have hc : ∀ i, w1.cell? ⟨w.heap.size, i, none⟩ = _ := fun i => hb1.cell (p := ⟨w.heap.size, i, none⟩) (show w.heap.size < _ by simp)
  exact ⟨fun i => (hb1.frozen (p := ⟨w.heap.size, i, none⟩) (show w.heap.size < _ by simp)).trans (by go_simp),
    (hc 0).trans (by go_simp), (hc 1).trans (by go_simp), (hc 2).trans (by go_simp), (hc 3).trans (by go_simp), (hc 4).trans (by go_simp)⟩
theorem narrow_row (x : Int) (h : wideOf x = false) : splitOf x = rowOf x := by
  unfold splitOf
  cases rowOf x <;> simp [h]
set_option maxHeartbeats 4000000 in
theorem refSplit_any (x : Int) (w : World) : Calls Tryz.prog 39 #[.int .i32 x] w (TellsSp (splitOf x) w) := by
  have hw := fun W => refWide_any x W
  cases h : wideOf x with
  | true =>
    rw [wide_not x h]
    simp only [h] at hw
    have HW := Lib.hid hw
    simp only [wideOf, Bool.and_eq_true, decide_eq_true_eq] at h
    obtain ⟨h1, h2⟩ := h
    clear hw
    go_enter Tryz.func39, Tryz.ntmps39
    go_wp2_with fail
    refine (HW.out _).mono ?_
    rintro e w1 ⟨rfl, rfl⟩
    go_wp2
    refine bodyPost_ret (v := .tuple #[.agg #[.int .i32 x, .int .i32 (x - 65248), .int .i32 0, .bool true, .bool true], .bool true]) (by simp [results, Tryz.results39, go_sem]) rfl ⟨rfl, ?_⟩
    exact (Below.refl _ w).alloc (Nat.le_refl _) _
  | false =>
    rw [narrow_row x h]
    simp only [h] at hw
    have HW := Lib.hid hw
    clear hw h
    go_enter Tryz.func39, Tryz.ntmps39
    go_wp2_with fail
    refine (HW.out _).mono ?_
    rintro e w1 ⟨rfl, rfl⟩
    go_wp2_with fail
    refine (tabSp _).mono ?_
    rintro e w1 ⟨b, rfl, n0, l0, hb1⟩
    obtain ⟨fz, d0, d1, d2, d3, d4⟩ := refSplitBox w hb1
    have HL := Lib.hid l0
    have HB := Lib.hid (((Below.refl _ w).alloc (Nat.le_refl _) _).trans (hb1.mono (by simp)))
    have hne : b ≠ w.heap.size := by simp at n0; omega
    clear l0 hb1 n0
    go_wp2
    go_loop [5] (fun i => ∃ k : Nat, k ≤ 42 ∧ i = .int .i64 k ∧ Hid (∀ j, j < k → ¬ (splits[j]!.rune ≤ x ∧ x ≤ splits[j]!.rune))) (fun i => 42 - (intOf i).toNat)
    case atStart => exact ⟨0, Nat.zero_le _, rfl, fun j hj => absurd hj (Nat.not_lt_zero _)⟩
    case round =>
      obtain ⟨k, hk, rfl, A⟩ := hrel
      by_cases hlt : k < 42
      · have hkz : (k : Int) < 42 := by omega
        obtain ⟨e0, e1, e2, e3, e4⟩ := rowSp HL.out k hlt splits[k]! rfl
        generalize hy : splits[k]! = y at e0 e1 e2 e3 e4
        obtain ⟨v0, v1, v2, v3, v4⟩ := y
        have HY := Lib.hid hy
        clear hy
        simp only at e0 e1 e2 e3 e4
        by_cases h1 : v0 = x
        · have H1 := Lib.hid h1
          have h1' : (v0 == x) = true := by simpa using h1
          clear h1
          go_wp2
          refine bodyPost_ret (v := .tuple #[.agg #[.int .i32 v0, .int .i32 v1, .int .i32 v2, .bool v3, .bool v4], .bool true]) (by simp [results, Tryz.results39, go_sem, d0, d1, d2, d3, d4]) rfl ⟨?_, belowSp HB.out (Nat.le_refl _) _ _ _ _ _⟩
          unfold rowOf
          rw [seek_hit x splits_rise k hlt (by rw [HY.out]; exact Int.le_of_eq H1.out) (by rw [HY.out]; exact Int.le_of_eq H1.out.symm), HY.out]
          rfl
        · have H1 := Lib.hid h1
          have h1' : (v0 == x) = false := by simpa using h1
          clear h1
          go_wp2
          exact ⟨⟨k + 1, by omega, by go_num, Lib.hid (step_no (q := fun y => y.rune ≤ x ∧ x ≤ y.rune) A.out HY.out (fun h => H1.out (Int.le_antisymm h.1 h.2)))⟩, by simp [intOf]; omega⟩
      · have hkz : ¬ (k : Int) < 42 := by omega
        go_wp2
        refine bodyPost_ret (v := .tuple #[.agg #[.int .i32 0, .int .i32 0, .int .i32 0, .bool false, .bool false], .bool false]) (by simp [results, Tryz.results39, go_sem, d0, d1, d2, d3, d4]) rfl ⟨?_, belowSp HB.out (Nat.le_refl _) _ _ _ _ _⟩
        unfold rowOf
        rw [seek_miss x (fun j hj => A.out j (by have : splits.length = 42 := rfl; omega))]
        rfl
theorem step_makes {p : Sp → Bool} {rows : List Sp} {k : Nat} (A : ∀ j, j < k → p rows[j]! = false) {y : Sp} (hy : rows[k]! = y) (h : p y = false) : ∀ j, j < k + 1 → p rows[j]! = false := fun j hj => by
  by_cases e : j = k
  · subst e; rw [hy]; exact h
  · exact A j (by omega)
set_option maxRecDepth 100000 in
set_option maxHeartbeats 8000000 in
theorem refPair_any (a b : Int) (w : World) : Calls Tryz.prog 158 #[.int .i32 a, .int .i32 b] w (TellsRune (pairOf a b) w) := by
  go_enter Tryz.func158, Tryz.ntmps158
  go_wp2_with fail
  refine (tabSp _).mono ?_
  rintro e w1 ⟨c, rfl, n0, l0, hb1⟩
  have HL := Lib.hid l0
  have HB := Lib.hid hb1
  clear l0 hb1 n0
  go_wp2
  go_loop [7] (fun i => ∃ k : Nat, k ≤ 42 ∧ i = .int .i64 k ∧ Hid (∀ j, j < k → makes a b splits[j]! = false)) (fun i => 42 - (intOf i).toNat)
  case atStart => exact ⟨0, Nat.zero_le _, rfl, fun j hj => absurd hj (Nat.not_lt_zero _)⟩
  case round =>
    obtain ⟨k, hk, rfl, A⟩ := hrel
    by_cases hb0 : b = 0
    · have hbb : (b != 0) = false := by simpa using hb0
      have HZ := Lib.hid hb0
      clear hb0
      by_cases hlt : k < 42
      · have hkz : (k : Int) < 42 := by omega
        go_wp2
        go_ret2
        refine ⟨?_, HB.out⟩
        unfold pairOf; rw [if_pos HZ.out]
        rfl
      · have hkz : decide ((k : Int) < 42) = false := by simp; omega
        go_wp2
        go_ret2
        refine ⟨?_, HB.out⟩
        unfold pairOf; rw [if_pos HZ.out]
        rfl
    · have hbb : (b != 0) = true := by simpa using hb0
      have HZ := Lib.hid hb0
      clear hb0
      by_cases hlt : k < 42
      · have hkz : (k : Int) < 42 := by omega
        obtain ⟨e0, e1, e2, e3, e4⟩ := rowSp HL.out k hlt splits[k]! rfl
        generalize hy : splits[k]! = y at e0 e1 e2 e3 e4
        obtain ⟨v0, v1, v2, v3, v4⟩ := y
        have HY := Lib.hid hy
        clear hy
        simp only at e0 e1 e2 e3 e4
        have hm : makes a b ⟨v0, v1, v2, v3, v4⟩ = (!v3 && !v4 && (v1 == a) && (v2 == b)) := rfl
        cases v3 <;> cases v4 <;> cases h1 : (v1 == a) <;> cases h2 : (v2 == b)
        all_goals
          rw [h1, h2] at hm
          have HM := Lib.hid hm
          clear hm
          go_wp2
          first
            | exact ⟨⟨k + 1, by omega, by go_num, Lib.hid (step_makes A.out HY.out HM.out)⟩, by simp [intOf]; omega⟩
            | (go_ret2
               refine ⟨?_, HB.out⟩
               unfold pairOf; rw [if_neg HZ.out, find_hit (makes a b) splits k hlt A.out (by rw [HY.out]; exact HM.out), HY.out]
               rfl)
      · have hkz : decide ((k : Int) < 42) = false := by simp; omega
        go_wp2
        go_ret2
        refine ⟨?_, HB.out⟩
        unfold pairOf; rw [if_neg HZ.out, find_miss (makes a b) splits (fun j hj => A.out j (by have : splits.length = 42 := rfl; omega))]
        rfl
end Go.Proofs.YtmbammhkkcnoaaaGreat
namespace Go.Proofs.YtmbammhkkcnoaaaGreat
open Go.RowKit
/-- A table's value, by the blocks of its four slices. -/
def tbl (b0 b1 b2 b3 : Nat) : Value := .agg #[.slice (some ⟨b0, 0, none⟩) 74 74, .slice (some ⟨b1, 0, none⟩) 10 10, .slice (some ⟨b2, 0, none⟩) 11 11, .slice (some ⟨b3, 0, none⟩) 42 42]
/-- Block S holds the table's four slices. -/
def Held (S b0 b1 b2 b3 : Nat) (w : World) : Prop :=
  S < w.heap.size ∧ w.cell? ⟨S, 0, none⟩ = some (.slice (some ⟨b0, 0, none⟩) 74 74) ∧ w.cell? ⟨S, 1, none⟩ = some (.slice (some ⟨b1, 0, none⟩) 10 10) ∧ w.cell? ⟨S, 2, none⟩ = some (.slice (some ⟨b2, 0, none⟩) 11 11) ∧ w.cell? ⟨S, 3, none⟩ = some (.slice (some ⟨b3, 0, none⟩) 42 42)
theorem Held.below {S b0 b1 b2 b3 : Nat} {w w' : World} (h : Held S b0 b1 b2 b3 w) (hb : Below w.heap.size w w') : Held S b0 b1 b2 b3 w' :=
  ⟨Nat.lt_of_lt_of_le h.1 hb.size, (hb.cell (p := ⟨S, 0, none⟩) h.1).trans h.2.1, (hb.cell (p := ⟨S, 1, none⟩) h.1).trans h.2.2.1, (hb.cell (p := ⟨S, 2, none⟩) h.1).trans h.2.2.2.1, (hb.cell (p := ⟨S, 3, none⟩) h.1).trans h.2.2.2.2⟩
theorem held_new (w : World) (b0 b1 b2 b3 : Nat) (T : TypeId) : Held w.heap.size b0 b1 b2 b3 (w.alloc (.cells #[.slice (some ⟨b0, 0, none⟩) 74 74, .slice (some ⟨b1, 0, none⟩) 10 10, .slice (some ⟨b2, 0, none⟩) 11 11, .slice (some ⟨b3, 0, none⟩) 42 42] T)) :=
  ⟨by simp, by simp, by simp, by simp, by simp⟩
/-- What is kept from call to call: nothing that lay has turned, and the table stands in its block. -/
structure Kept (w0 : World) (S b0 b1 b2 b3 : Nat) (w : World) : Prop where
  below : Below w0.heap.size w0 w
  held : Held S b0 b1 b2 b3 w
  table : Table w (tbl b0 b1 b2 b3)
theorem Kept.next {w0 : World} {S b0 b1 b2 b3 : Nat} {w w' : World} (h : Kept w0 S b0 b1 b2 b3 w) (hb : Below w.heap.size w w') : Kept w0 S b0 b1 b2 b3 w' :=
  ⟨h.below.trans (hb.mono h.below.size), h.held.below hb, h.table.below hb⟩
theorem Kept.alloc {w0 : World} {S b0 b1 b2 b3 : Nat} {w : World} (h : Kept w0 S b0 b1 b2 b3 w) (o : Obj) : Kept w0 S b0 b1 b2 b3 (w.alloc o) := h.next ((Below.refl _ w).alloc (Nat.le_refl _) o)
theorem Kept.drew {w0 : World} {S b0 b1 b2 b3 : Nat} {w : World} (h : Kept w0 S b0 b1 b2 b3 w) : Kept w0 S b0 b1 b2 b3 w.drew := h.next ((Below.refl _ w).drew)
/-- A cell of what lay at some time. -/
theorem cell_kept {w w' : World} {b o : Nat} {v : Value} (hc : w.cell? ⟨b, o, none⟩ = some v) (hb : Below w.heap.size w w') : w'.cell? ⟨b, o, none⟩ = some v :=
  (hb.cell (p := ⟨b, o, none⟩) (World.block_lt_of_cell? _ _ hc)).trans hc
theorem kept_new {w0 w1 : World} {b0 b1 b2 b3 : Nat} (hb : Below w0.heap.size w0 w1) (hT : Table w1 (tbl b0 b1 b2 b3)) (T : TypeId) :
    Kept w0 w1.heap.size b0 b1 b2 b3 (w1.alloc (.cells #[.slice (some ⟨b0, 0, none⟩) 74 74, .slice (some ⟨b1, 0, none⟩) 10 10, .slice (some ⟨b2, 0, none⟩) 11 11, .slice (some ⟨b3, 0, none⟩) 42 42] T)) :=
  ⟨hb.alloc hb.size _, held_new _ _ _ _ _ _, hT.below ((Below.refl _ _).alloc (Nat.le_refl _) _)⟩
theorem cat_at {w0 : World} {S b0 b1 b2 b3 : Nat} {w : World} (h : Kept w0 S b0 b1 b2 b3 w) {x : Int} {v : Int} (hv : catOf x = v) :
    Calls Tryz.prog 71 #[.agg #[.slice (some ⟨b0, 0, none⟩) 74 74, .slice (some ⟨b1, 0, none⟩) 10 10, .slice (some ⟨b2, 0, none⟩) 11 11, .slice (some ⟨b3, 0, none⟩) 42 42], .int .i32 x] w fun e w' => e = .returned (.int .i64 v) ∧ Hid (Kept w0 S b0 b1 b2 b3 w') ∧ Hid (Below w.heap.size w w') := by
  subst hv
  exact (cat_any _ x w h.table).mono fun _ _ ⟨he, hb⟩ => ⟨he, h.next hb, hb⟩
theorem bidi_at {w0 : World} {S b0 b1 b2 b3 : Nat} {w : World} (h : Kept w0 S b0 b1 b2 b3 w) {x : Int} {v : Int} (hv : bidiOf x = v) :
    Calls Tryz.prog 95 #[.agg #[.slice (some ⟨b0, 0, none⟩) 74 74, .slice (some ⟨b1, 0, none⟩) 10 10, .slice (some ⟨b2, 0, none⟩) 11 11, .slice (some ⟨b3, 0, none⟩) 42 42], .int .i32 x] w fun e w' => e = .returned (.int .i64 v) ∧ Hid (Kept w0 S b0 b1 b2 b3 w') ∧ Hid (Below w.heap.size w w') := by
  subst hv
  exact (bidi_any _ x w h.table).mono fun _ _ ⟨he, hb⟩ => ⟨he, h.next hb, hb⟩
theorem join_at {w0 : World} {S b0 b1 b2 b3 : Nat} {w : World} (h : Kept w0 S b0 b1 b2 b3 w) {x : Int} {v : Int} (hv : joinOf x = v) :
    Calls Tryz.prog 159 #[.agg #[.slice (some ⟨b0, 0, none⟩) 74 74, .slice (some ⟨b1, 0, none⟩) 10 10, .slice (some ⟨b2, 0, none⟩) 11 11, .slice (some ⟨b3, 0, none⟩) 42 42], .int .i32 x] w fun e w' => e = .returned (.int .i64 v) ∧ Hid (Kept w0 S b0 b1 b2 b3 w') ∧ Hid (Below w.heap.size w w') := by
  subst hv
  exact (join_any _ x w h.table).mono fun _ _ ⟨he, hb⟩ => ⟨he, h.next hb, hb⟩
theorem script_at {w0 : World} {S b0 b1 b2 b3 : Nat} {w : World} (h : Kept w0 S b0 b1 b2 b3 w) {x : Int} {v : Int} (hv : scriptOf x = v) :
    Calls Tryz.prog 142 #[.agg #[.slice (some ⟨b0, 0, none⟩) 74 74, .slice (some ⟨b1, 0, none⟩) 10 10, .slice (some ⟨b2, 0, none⟩) 11 11, .slice (some ⟨b3, 0, none⟩) 42 42], .int .i32 x] w fun e w' => e = .returned (.int .i64 v) ∧ Hid (Kept w0 S b0 b1 b2 b3 w') ∧ Hid (Below w.heap.size w w') := by
  subst hv
  exact (script_any _ x w h.table).mono fun _ _ ⟨he, hb⟩ => ⟨he, h.next hb, hb⟩
theorem class_at {w0 : World} {S b0 b1 b2 b3 : Nat} {w : World} (h : Kept w0 S b0 b1 b2 b3 w) {x : Int} {v : Int} (hv : clsOf x = v) :
    Calls Tryz.prog 140 #[.agg #[.slice (some ⟨b0, 0, none⟩) 74 74, .slice (some ⟨b1, 0, none⟩) 10 10, .slice (some ⟨b2, 0, none⟩) 11 11, .slice (some ⟨b3, 0, none⟩) 42 42], .int .i32 x] w fun e w' => e = .returned (.int .i64 v) ∧ Hid (Kept w0 S b0 b1 b2 b3 w') ∧ Hid (Below w.heap.size w w') := by
  subst hv
  exact (class_any _ x w h.table).mono fun _ _ ⟨he, hb⟩ => ⟨he, h.next hb, hb⟩
theorem lower_at {w0 : World} {S b0 b1 b2 b3 : Nat} {w : World} (h : Kept w0 S b0 b1 b2 b3 w) {x : Int} {v : Int} (hv : lowOf x = v) :
    Calls Tryz.prog 78 #[.agg #[.slice (some ⟨b0, 0, none⟩) 74 74, .slice (some ⟨b1, 0, none⟩) 10 10, .slice (some ⟨b2, 0, none⟩) 11 11, .slice (some ⟨b3, 0, none⟩) 42 42], .int .i32 x] w fun e w' => e = .returned (.int .i32 v) ∧ Hid (Kept w0 S b0 b1 b2 b3 w') ∧ Hid (Below w.heap.size w w') := by
  subst hv
  exact (lower_any _ x w h.table).mono fun _ _ ⟨he, hb⟩ => ⟨he, h.next hb, hb⟩
theorem split_at' {w0 : World} {S b0 b1 b2 b3 : Nat} {w : World} (h : Kept w0 S b0 b1 b2 b3 w) {x v0 v1 v2 : Int} {v3 v4 is : Bool} {o : Option Sp} (ho : splitOf x = o) (hv : o.getD default = ⟨v0, v1, v2, v3, v4⟩) (hi : o.isSome = is) :
    Calls Tryz.prog 72 #[.agg #[.slice (some ⟨b0, 0, none⟩) 74 74, .slice (some ⟨b1, 0, none⟩) 10 10, .slice (some ⟨b2, 0, none⟩) 11 11, .slice (some ⟨b3, 0, none⟩) 42 42], .int .i32 x] w fun e w' => e = .returned (.tuple #[.agg #[.int .i32 v0, .int .i32 v1, .int .i32 v2, .bool v3, .bool v4], .bool is]) ∧ Hid (Kept w0 S b0 b1 b2 b3 w') ∧ Hid (Below w.heap.size w w') := by
  subst ho
  exact (split_any _ x w h.table).mono fun _ _ ⟨he, hb⟩ => ⟨by rw [he, hv, hi]; rfl, h.next hb, hb⟩
theorem pair_at {w0 : World} {S b0 b1 b2 b3 : Nat} {w : World} (h : Kept w0 S b0 b1 b2 b3 w) {a b v : Int} {is : Bool} {o : Option Int} (ho : pairOf a b = o) (hv : o.getD 0 = v) (hi : o.isSome = is) :
    Calls Tryz.prog 169 #[.agg #[.slice (some ⟨b0, 0, none⟩) 74 74, .slice (some ⟨b1, 0, none⟩) 10 10, .slice (some ⟨b2, 0, none⟩) 11 11, .slice (some ⟨b3, 0, none⟩) 42 42], .int .i32 a, .int .i32 b] w fun e w' => e = .returned (.tuple #[.int .i32 v, .bool is]) ∧ Hid (Kept w0 S b0 b1 b2 b3 w') ∧ Hid (Below w.heap.size w w') := by
  subst ho
  exact (pair_any _ a b w h.table).mono fun _ _ ⟨he, hb⟩ => ⟨by rw [he, hv, hi], h.next hb, hb⟩
theorem split_0xff21 : splitOf 65313 = some ⟨65313, 65, 0, true, true⟩ := by kernel_rfl
theorem pair_A_308 : pairOf 65 776 = some 196 := by decide +kernel
theorem pair_c5_0 : pairOf 197 0 = none := by decide +kernel
end Go.Proofs.YtmbammhkkcnoaaaGreat
