/-
  Proved here: a framer's line is taken off its rest. Conditions: the rest ends with a line's end; the library's tables are laid.
-/
import Derived.Test.YtkcabnodhdhaaaaDoorLinAny
import Derived.Deep.DeepCutAuto
import Derived.Deep.RegionWith
import Derived.Deep.RegionHeld3
namespace Go.Proofs.YtkcabnodhdhaaaaDoor
open Go.RowKit
/-- The library's tables are laid, below block N. -/
structure LT (N : Nat) (w : World) : Prop where
  tabs : LTabs w
  lt0 : 0 < N
  lt1 : 1 < N
  lt2 : 2 < N
theorem LT.of {w : World} (h : LTabs w) : LT w.heap.size w := by
  obtain ⟨⟨h1, h2⟩, m, h3⟩ := h
  exact ⟨⟨⟨h1, h2⟩, m, h3⟩, World.block_lt_of_cell? _ _ h3, World.block_lt_of_cell? _ _ (h1 0 (by omega)), World.block_lt_of_cell? _ _ (h2 0 (by omega)).1⟩
theorem LT.keep {N : Nat} {w w' : World} (h : LT N w) (b : Below N w w') : LT N w' := by
  obtain ⟨⟨⟨h1, h2⟩, m, h3⟩, l0, l1, l2⟩ := h
  refine ⟨⟨⟨fun c hc => ?_, fun i hi => ⟨?_, ?_⟩⟩, m, ?_⟩, l0, l1, l2⟩
  · exact (World.cell?_of_block (b.block _ l1)).trans (h1 c hc)
  · exact (World.cell?_of_block (b.block _ l2)).trans (h2 i hi).1
  · exact (World.cell?_of_block (b.block _ l2)).trans (h2 i hi).2
  · exact (World.cell?_of_block (b.block _ l0)).trans h3
section
variable {P : Program} {md : Region.Mode} {ops : Array Oper} {Q : Exit → Act → World → Prop} {S : World → Prop}
theorem takeL (i : Nat) (d : Tmp) {oi : Oper} {v : Value} {fuel : Nat} {listed : Array Bool} {a : Act} {w : World} (hi : ops[i]? = some oi) (hd : oi.dst = some d)
    (hs : Region.noSelect ops = true) (hf : Region.free md ops listed i = true) (hr : (Region.ready md ops listed).contains i = true)
    (hQ : ∀ c a w, Q (.panic c) (a.put oi.dst v) w → Q (.panic c) a w) (hy : YieldsIf P ops S oi v a) (hS : S w)
    (h : wpAnyH P md ops Q S fuel (listed.setIfInBounds i true) (a.put (some d) v) w) : wpAnyH P md ops Q S (fuel + 1) listed a w :=
  wpAnyH_take hi hs hf hr hQ hy hS (by rw [hd]; exact h)
end
/-- A line in block g. -/
def LAt (g : Nat) (k : Lin.Fr) (w : World) : Prop := w.heap[g]? = some (.cells #[.string ⟨k.text.toArray⟩, .bool k.long, .bool k.bare] 42 (0, 0))
theorem LAt.lt {g : Nat} {k : Lin.Fr} {w : World} (h : LAt g k w) : g < w.heap.size := (Array.getElem?_eq_some_iff.1 h).1
theorem LAt.c0 {g : Nat} {k : Lin.Fr} {w : World} (h : LAt g k w) : w.cell? ⟨g, 0, none⟩ = some (.string ⟨k.text.toArray⟩) := by unfold LAt at h; simp [World.cell?, h]
theorem LAt.c1 {g : Nat} {k : Lin.Fr} {w : World} (h : LAt g k w) : w.cell? ⟨g, 1, none⟩ = some (.bool k.long) := by unfold LAt at h; simp [World.cell?, h]
theorem LAt.c2 {g : Nat} {k : Lin.Fr} {w : World} (h : LAt g k w) : w.cell? ⟨g, 2, none⟩ = some (.bool k.bare) := by unfold LAt at h; simp [World.cell?, h]
theorem LAt.free {g : Nat} {k : Lin.Fr} {w : World} (h : LAt g k w) (j : Nat) : w.frozen? ⟨g, j, none⟩ = false := by unfold LAt at h; simp [World.frozen?, h]
theorem LAt.keep {g : Nat} {k : Lin.Fr} {w w' : World} (h : LAt g k w) (hb : Below w.heap.size w w') : LAt g k w' := (hb.block g h.lt).trans h
theorem LAt.set0 {g : Nat} {k : Lin.Fr} {w : World} (h : LAt g k w) (x : List UInt8) : LAt g ⟨x, k.long, k.bare⟩ (w.setCell ⟨g, 0, none⟩ (.string ⟨x.toArray⟩)) := by
  unfold LAt at h ⊢
  simp [World.setCell, Array.getElem?_modify, h]
theorem LAt.all {g : Nat} {k : Lin.Fr} {w : World} (h : LAt g k w) (x : List UInt8) (a b : Bool) : LAt g ⟨x, a, b⟩ (((w.setCell ⟨g, 0, none⟩ (.string ⟨x.toArray⟩)).setCell ⟨g, 1, none⟩ (.bool a)).setCell ⟨g, 2, none⟩ (.bool b)) := by
  unfold LAt at h ⊢
  simp [World.setCell, Array.getElem?_modify, h]
theorem Fed.new {B : Nat} {v v' : Value} {w w' : World} (h : Fed B v v' w w') {g i : Nat} (hg : w.heap.size ≤ g) (x : Value) : Fed B v v' w (w'.setCell ⟨g, i, none⟩ x) := by
  have hb : Below g w' (w'.setCell ⟨g, i, none⟩ x) := (Below.refl g w').setCell (p := ⟨g, i, none⟩) (Nat.le_refl _) x
  exact ⟨hb.os.trans h.os, hb.tape.trans h.tape, hb.output.trans h.output, Nat.le_trans h.size hb.size, fun k hk h1 h2 => (hb.block k (by omega)).trans (h.block k hk h1 h2), h.place⟩
theorem FAt.nil_other {base B g i : Nat} {m0 : Int} {w : World} (h : FAt base B m0 (.slice none 0 0) [] w) (hne : B ≠ g) (x : Value) : FAt base B m0 (.slice none 0 0) [] (w.setCell ⟨g, i, none⟩ x) :=
  ⟨(Below.heap_setCell _ _ _ _ hne).trans h.blk, OwnB.nil _ _⟩
theorem LAt.other {g g' i : Nat} {k : Lin.Fr} {v : Value} {w : World} (h : LAt g k w) (hne : g ≠ g') : LAt g k (w.setCell ⟨g', i, none⟩ v) := (Below.heap_setCell _ _ _ _ hne).trans h
theorem lcell {W w1 : World} (hb : Below W.heap.size W w1) : (∀ b o, b < W.heap.size → w1.cell? ⟨b, o, none⟩ = W.cell? ⟨b, o, none⟩) ∧ (∀ b o, b < W.heap.size → w1.frozen? ⟨b, o, none⟩ = W.frozen? ⟨b, o, none⟩) :=
  ⟨fun b o h => hb.cell (p := ⟨b, o, none⟩) h, fun b o h => hb.frozen (p := ⟨b, o, none⟩) h⟩
set_option maxHeartbeats 2000000 in
set_option maxRecDepth 100000 in
theorem take16_any (base B : Nat) (m0 : Int) (v : Value) (t : List UInt8) (c d : UInt8) (w : World) (hF : FAt base B m0 v (t ++ [c, d]) w) (hB : base ≤ B) (hbase : base ≤ w.heap.size) (hL : LT base w) (hn : t.length ≤ 1900000) :
    Calls Tryd.prog 21 #[.pointer (some ⟨B, 0, none⟩)] w fun e w' => e = .returned (Lin.frame m0 t).v ∧ FAt base B m0 (.slice none 0 0) [] w' ∧ Fed B v (.slice none 0 0) w w' := by
  obtain ⟨g, cap, rfl, hgb, hgl, hlc, hcell⟩ : ∃ g cap, v = .slice (some ⟨g, 0, none⟩) (t.length + 2) cap ∧ base ≤ g ∧ g < w.heap.size ∧ t.length + 2 ≤ cap ∧ ∀ k, k < t.length → w.cell? ⟨g, k, none⟩ = some (.int .u8 (t[k]!.toNat : Int)) := by
    have hl := hF.own.1
    have hlt := World.ownsRow.lt hF.own
    rcases hF.own.2 with ⟨-, h0⟩ | ⟨g, cap, cur, hv, hb, hg, hnc, -⟩
    · rw [List.length_append] at h0; simp at h0
    · rw [List.length_append] at hnc hv
      refine ⟨g, cap, hv, hb, (hlt g (by rw [hv]; rfl)).2, hnc, fun k hk => ?_⟩
      have := World.ownsRow.cells (g := g) hF.own (by rw [hv]; rfl) k (byteV t[k]!) (by rw [List.getElem?_map, List.getElem?_append_left hk, List.getElem?_eq_getElem hk, getElem!_pos t k hk]; rfl)
      have e : (⟨g, 0, none⟩ : Addr).add k = ⟨g, k, none⟩ := by unfold Addr.add; split <;> simp_all
      rw [e] at this
      exact this
  have h2 := hF.c1
  have c0 := hF.c0
  have f1 := hF.free 1
  have hBl := hF.lt
  have hb1 := below_one w (.cells #[.string ⟨#[]⟩, .bool false, .bool false] 42)
  have R := Lib.hid fun W (h : FAt base B m0 (.slice (some ⟨g, 0, none⟩) (t.length + 2) cap) (t ++ [c, d]) W) => reset_any base B m0 _ _ W h
  have HF := Lib.hid hF
  have HC := Lib.hid hcell
  have HL := Lib.hid hL
  clear hF hcell hL
  generalize hlen : t.length = n at *
  have HN := Lib.hid hlen
  clear hlen
  go_enter Tryd.func21, Tryd.ntmps21
  go_wp2
  go_quiet (fail)
  obtain ⟨W0, hW0⟩ : ∃ W0, (w.alloc (.cells #[.string ⟨#[]⟩, .bool false, .bool false] 42)).drewN nq = W0 := ⟨_, rfl⟩
  have B0 : Below w.heap.size w W0 := by rw [← hW0]; exact below_drewN hb1 nq
  have L0 : LAt w.heap.size ⟨[], false, false⟩ W0 := by rw [← hW0]; exact heap_alloc_new w _
  rw [hW0]
  clear hW0 hb1 h2 c0 f1
  obtain ⟨w1, hw1⟩ : ∃ w1, W0.setCell ⟨B, 1, none⟩ (.slice none 0 0) = w1 := ⟨_, rfl⟩
  have F0 := HF.out.keep B0
  have hne : g ≠ B := fun e => F0.ne (by rw [← e]; rfl)
  have F1 : FAt base B m0 (.slice none 0 0) [] w1 := by rw [← hw1]; exact F0.set_nil
  have O1 : ∀ k, k ≠ B → w1.heap[k]? = W0.heap[k]? := fun k hk => by rw [← hw1]; exact Below.heap_setCell _ _ _ _ hk
  have D1 : Fed B (.slice (some ⟨g, 0, none⟩) (n + 2) cap) (.slice none 0 0) w w1 := (Fed.of_below B0 B _).trans (by rw [← hw1]; exact (Fed.put B 1 _ _ W0).drop)
  have L1 : LAt w.heap.size ⟨[], false, false⟩ w1 := by rw [← hw1]; exact L0.other (by omega)
  have B1 : Below base w w1 := D1.below hbase hB (fun k hk => by change some g = some k at hk; injection hk with hk; omega)
  have K : Hid (∀ W, Below w1.heap.size w1 W → Calls Tryd.prog 25 #[.slice (some ⟨g, 0, none⟩) n cap, .string ⟨#[13, 10]⟩] W fun e w' => e = .returned (.bool (Lin.bare t)) ∧ Below W.heap.size W w' ∧ Below w1.heap.size w1 w') := Lib.hid fun W hb => by
    have := bareAny_any t g cap W ((HL.out.keep B1).keep (hb.mono (Nat.le_trans hbase D1.size))).tabs (by rw [HN.out]; omega) (by rw [HN.out]; omega) (Nat.lt_of_lt_of_le hgl (Nat.le_trans D1.size hb.size)) (fun k hk => by
      rw [HN.out] at hk
      have e1 := (World.cell?_of_block (a := ⟨g, k, none⟩) (hb.block g (Nat.lt_of_lt_of_le hgl D1.size)))
      have e2 := (World.cell?_of_block (a := ⟨g, k, none⟩) (O1 g hne))
      have e3 := B0.cell (p := ⟨g, k, none⟩) hgl
      rw [e1, e2, e3]
      exact HC.out k hk)
    rw [HN.out] at this
    exact this.mono fun e w' ⟨h1, h2⟩ => ⟨h1, h2, hb.trans (h2.mono hb.size)⟩
  have T1 : Hid (∀ W, Below w1.heap.size w1 W → (convert 43 9 (.slice (some ⟨g, 0, none⟩) n cap)).run Tryd.prog W = .ok (.string ⟨t.toArray⟩) W) := Lib.hid fun W hb => by
    refine string_of ⟨some ⟨g, 0, none⟩, cap, by rw [List.length_map, HN.out], by rw [List.length_map, HN.out]; omega, fun h => (by cases h), fun _ => ⟨_, rfl, Nat.lt_of_lt_of_le hgl (Nat.le_trans D1.size hb.size), fun j u hu => ?_⟩⟩
    obtain ⟨hj, hu⟩ := List.getElem?_eq_some_iff.1 hu
    rw [List.length_map, HN.out] at hj
    have e : (⟨g, 0, none⟩ : Addr).add j = ⟨g, j, none⟩ := by unfold Addr.add; split <;> simp_all
    have e1 := (World.cell?_of_block (a := ⟨g, j, none⟩) (hb.block g (Nat.lt_of_lt_of_le hgl D1.size)))
    have e2 := (World.cell?_of_block (a := ⟨g, j, none⟩) (O1 g hne))
    have e3 := B0.cell (p := ⟨g, j, none⟩) hgl
    rw [e, e1, e2, e3, HC.out j hj, ← hu, List.getElem_map, getElem!_pos t j (by rw [HN.out]; exact hj)]
    rfl
  have RR := Lib.hid (R.out W0 F0)
  have c0 := F1.c0
  have HF1 := Lib.hid F1
  have HD1 := Lib.hid D1
  have HL1 := Lib.hid L1
  have HW1 := Lib.hid hw1
  have hs0 := D1.size
  have hB1 : B < w1.heap.size := F1.lt
  clear F0 hne F1 O1 D1 L1 B1 B0 L0 hw1 R HF HC HL
  go_wp2_with fail
  refine RR.out.mono ?_
  rintro e w1' ⟨rfl, rfl⟩
  rw [HW1.out]
  clear RR HW1
  obtain ⟨br, hbr⟩ : ∃ br, Lin.bare t = br := ⟨_, rfl⟩
  obtain ⟨lg, hlg⟩ : ∃ lg, decide (m0 < (n : Int)) = lg := ⟨_, rfl⟩
  rw [hbr] at K
  have HBR := Lib.hid hbr
  have HLG := Lib.hid hlg
  clear hbr
  go_upto_region 3 with (fail)
  go_cut [4] (fun s4 wx => ∃ N4, s4 = .pointer (some ⟨N4, 0, none⟩) ∧ Hid (w1.heap.size ≤ N4 ∧ LAt N4 ⟨[], lg, br⟩ wx ∧ Below w1.heap.size w1 wx))
  case first =>
    refine wp_region_held_drew (S := (fun w' : World => w'.cell? ⟨B, 0, none⟩ = some (.int .i64 m0))) (by kernel_rfl) ?_ (fun hHeld => ?_)
    · exact c0
    have B2 : Hid (Below w1.heap.size w1 w1.drew) := Lib.hid (Below.refl _ _).drew
    generalize w1.drew = d1 at B2 hHeld ⊢
    refine takeL 0 18 (v := ?_) rfl rfl (by kernel_rfl) (by kernel_rfl) (by kernel_rfl) (fun _ _ _ h => h) (Or.inl ⟨by rfl, ?_⟩) (by assumption) ?_
    rotate_left
    · intro w hSw
      (try dsimp only at hSw)
      go_simp
      first | done | with_reducible rfl
    simp only [Act.put, List.setIfInBounds_toArray, List.set_cons_zero, List.set_cons_succ]
    refine takeL 1 19 (v := ?_) rfl rfl (by kernel_rfl) (by kernel_rfl) (by kernel_rfl) (fun _ _ _ h => h) (Or.inl ⟨by rfl, ?_⟩) (by assumption) ?_
    rotate_left
    · intro w hSw
      (try dsimp only at hSw)
      go_simp
      first | done | with_reducible rfl
    simp only [Act.put, List.setIfInBounds_toArray, List.set_cons_zero, List.set_cons_succ]
    refine takeL 2 20 (v := ?_) rfl rfl (by kernel_rfl) (by kernel_rfl) (by kernel_rfl) (fun _ _ _ h => h) (Or.inl ⟨by rfl, ?_⟩) (by assumption) ?_
    rotate_left
    · intro w hSw
      (try dsimp only at hSw)
      go_simp
      first | done | with_reducible rfl
    simp only [Act.put, List.setIfInBounds_toArray, List.set_cons_zero, List.set_cons_succ]
    refine takeL 3 21 (v := ?_) rfl rfl (by kernel_rfl) (by kernel_rfl) (by kernel_rfl) (fun _ _ _ h => h) (Or.inl ⟨by rfl, ?_⟩) (by assumption) ?_
    rotate_left
    · intro w hSw
      (try dsimp only at hSw)
      go_simp
      first | done | with_reducible rfl
    simp only [Act.put, List.setIfInBounds_toArray, List.set_cons_zero, List.set_cons_succ]
    refine takeL 4 22 (v := ?_) rfl rfl (by kernel_rfl) (by kernel_rfl) (by kernel_rfl) (fun _ _ _ h => h) (Or.inl ⟨by rfl, ?_⟩) (by assumption) ?_
    rotate_left
    · intro w hSw
      (try dsimp only at hSw)
      go_simp
      first | done | with_reducible rfl
    simp only [Act.put, List.setIfInBounds_toArray, List.set_cons_zero, List.set_cons_succ]
    refine takeL 5 23 (v := ?_) rfl rfl (by kernel_rfl) (by kernel_rfl) (by kernel_rfl) (fun _ _ _ h => h) (Or.inl ⟨by rfl, ?_⟩) (by assumption) ?_
    rotate_left
    · intro w hSw
      (try dsimp only at hSw)
      go_simp
      first | done | with_reducible rfl
    simp only [Act.put, List.setIfInBounds_toArray, List.set_cons_zero, List.set_cons_succ]
    refine takeL 6 24 (v := ?_) rfl rfl (by kernel_rfl) (by kernel_rfl) (by kernel_rfl) (fun _ _ _ h => h) (Or.inl ⟨by rfl, ?_⟩) (by assumption) ?_
    rotate_left
    · intro w hSw
      (try dsimp only at hSw)
      go_simp
      first | done | with_reducible rfl
    simp only [Act.put, List.setIfInBounds_toArray, List.set_cons_zero, List.set_cons_succ]
    refine takeL 7 25 (v := ?_) rfl rfl (by kernel_rfl) (by kernel_rfl) (by kernel_rfl) (fun _ _ _ h => h) (Or.inl ⟨by rfl, ?_⟩) (by assumption) ?_
    rotate_left
    · intro w hSw
      (try dsimp only at hSw)
      go_simp
      first | done | with_reducible rfl
    simp only [Act.put, List.setIfInBounds_toArray, List.set_cons_zero, List.set_cons_succ]
    refine wpAnyH_ready (rs := [8, 10]) (by kernel_rfl) (by simp) ?_
    refine AllReadyH.cons (o := { dst := some 26, op := .call { callee := .value (.func 25), args := #[.tmp 25, .const (.string { data := #[13, 10] })], argTypes := #[43, 9] }, type := _, pos := "line.go:84", after := _, guard := none }) rfl (fun K_ hK => ?_) (AllReadyH.cons (o := { dst := some 4, op := .alloc 42, type := _, pos := "line.go:84", after := _, guard := none }) rfl (fun K_ hK => ?_) AllReadyH.nil)
    · skip
      (try go_simp)
      go_at_call 25
      refine (K.out _ B2.out).mono ?_
      rintro e w' ⟨rfl, hb, hb1⟩
      replace B2 := Lib.hid hb1
      go_wp2_with fail
      clear hHeld hb hb1
      refine hK.out _ _ ?_ (fun hHeld => ?_)
      · exact (B2.out.cell (p := ⟨B, 0, none⟩) hB1).trans c0
      clear hK K_
      refine takeL 9 27 (v := ?_) rfl rfl (by kernel_rfl) (by kernel_rfl) (by kernel_rfl) (fun _ _ _ h => h) (Or.inl ⟨by rfl, ?_⟩) (by assumption) ?_
      rotate_left
      · intro w hSw
        (try dsimp only at hSw)
        go_simp
        first | done | with_reducible rfl
      simp only [Act.put, List.setIfInBounds_toArray, List.set_cons_zero, List.set_cons_succ]
      refine wpAnyH_ready (rs := [10]) (by kernel_rfl) (by simp) ?_
      refine AllReadyH.cons (o := { dst := some 4, op := .alloc 42, type := _, pos := "line.go:84", after := _, guard := none }) rfl (fun K_ hK => ?_) AllReadyH.nil
      (try go_simp)
      go_wp2_with fail
      clear hHeld
      refine hK.out _ _ ?_ (fun hHeld => ?_)
      · exact ((B2.out.trans ((below_one w' _).mono B2.out.size)).cell (p := ⟨B, 0, none⟩) hB1).trans c0
      clear hK K_
      refine wpAnyH_ready (rs := [11]) (by kernel_rfl) (by simp) ?_
      refine AllReadyH.cons (o := { dst := none, op := .store 42 (.tmp 4) (.tmp 27), type := _, pos := "line.go:84", after := _, guard := none }) rfl (fun K_ hK => ?_) AllReadyH.nil
      have N0 : LAt w'.heap.size ⟨[], false, false⟩ (w'.alloc (.cells #[.string ⟨#[]⟩, .bool false, .bool false] 42)) := heap_alloc_new w' _
      have a0 := N0.c0
      have a1 := N0.c1
      have a2 := N0.c2
      have f0 := N0.free 0
      have f1 := N0.free 1
      have f2 := N0.free 2
      (try go_simp)
      go_wp2_with fail
      clear hHeld
      refine hK.out _ _ ?_ (fun hHeld => ?_)
      · exact ((B2.out.trans ((below_one w' _).mono B2.out.size)).cell (p := ⟨B, 0, none⟩) hB1).trans c0
      clear hK K_
      refine wpAnyH_done (by kernel_rfl) ?_ _
      go_wp2_with fail
      go_meet
      exact ⟨_, rfl, Lib.hid ⟨B2.out.size, heap_alloc_new w' _, B2.out.trans ((below_one w' _).mono B2.out.size)⟩⟩
    · skip
      (try go_simp)
      go_wp2_with fail
      have N0 : LAt d1.heap.size ⟨[], false, false⟩ (d1.alloc (.cells #[.string ⟨#[]⟩, .bool false, .bool false] 42)) := heap_alloc_new d1 _
      have hsz := B2.out.size
      obtain ⟨N4, hN4⟩ : ∃ N4, d1.heap.size = N4 := ⟨_, rfl⟩
      replace B2 := Lib.hid (B2.out.trans ((below_one d1 (.cells #[.string ⟨#[]⟩, .bool false, .bool false] 42)).mono B2.out.size))
      rw [hN4] at N0 hsz ⊢
      generalize d1.alloc (.cells #[.string ⟨#[]⟩, .bool false, .bool false] 42) = d2 at N0 B2 ⊢
      clear hN4 hHeld
      refine hK.out _ _ ?_ (fun hHeld => ?_)
      · exact (B2.out.cell (p := ⟨B, 0, none⟩) hB1).trans c0
      clear hK K_
      refine wpAnyH_ready (rs := [8]) (by kernel_rfl) (by simp) ?_
      refine AllReadyH.cons (o := { dst := some 26, op := .call { callee := .value (.func 25), args := #[.tmp 25, .const (.string { data := #[13, 10] })], argTypes := #[43, 9] }, type := _, pos := "line.go:84", after := _, guard := none }) rfl (fun K_ hK => ?_) AllReadyH.nil
      (try go_simp)
      go_at_call 25
      refine (K.out _ B2.out).mono ?_
      rintro e w' ⟨rfl, hb, hb1⟩
      replace B2 := Lib.hid hb1
      replace N0 := N0.keep hb
      go_wp2_with fail
      clear hHeld hb hb1
      refine hK.out _ _ ?_ (fun hHeld => ?_)
      · exact (B2.out.cell (p := ⟨B, 0, none⟩) hB1).trans c0
      clear hK K_
      refine takeL 9 27 (v := ?_) rfl rfl (by kernel_rfl) (by kernel_rfl) (by kernel_rfl) (fun _ _ _ h => h) (Or.inl ⟨by rfl, ?_⟩) (by assumption) ?_
      rotate_left
      · intro w hSw
        (try dsimp only at hSw)
        go_simp
        first | done | with_reducible rfl
      simp only [Act.put, List.setIfInBounds_toArray, List.set_cons_zero, List.set_cons_succ]
      refine wpAnyH_ready (rs := [11]) (by kernel_rfl) (by simp) ?_
      refine AllReadyH.cons (o := { dst := none, op := .store 42 (.tmp 4) (.tmp 27), type := _, pos := "line.go:84", after := _, guard := none }) rfl (fun K_ hK => ?_) AllReadyH.nil
      have a0 := N0.c0
      have a1 := N0.c1
      have a2 := N0.c2
      have f0 := N0.free 0
      have f1 := N0.free 1
      have f2 := N0.free 2
      (try go_simp)
      go_wp2_with fail
      have B3 := Lib.hid (((B2.out.setCell (p := ⟨N4, 0, none⟩) hsz (.string ⟨#[]⟩)).setCell (p := ⟨N4, 1, none⟩) hsz (.bool lg)).setCell (p := ⟨N4, 2, none⟩) hsz (.bool br))
      clear hHeld
      refine hK.out _ _ ?_ (fun hHeld => ?_)
      · exact (B3.out.cell (p := ⟨B, 0, none⟩) hB1).trans c0
      clear hK K_
      refine wpAnyH_done (by kernel_rfl) ?_ _
      go_wp2_with fail
      go_meet
      exact ⟨_, rfl, Lib.hid ⟨hsz, N0.all [] lg br, B3.out⟩⟩
  case rest =>
    obtain ⟨N4, rfl, R4⟩ := hcut
    have a0 := R4.out.2.1.c0
    have a1 := R4.out.2.1.c1
    have a2 := R4.out.2.1.c2
    have f0 := R4.out.2.1.free 0
    have RL : LAt w.heap.size ⟨[], false, false⟩ wc := HL1.out.keep R4.out.2.2
    have r0 := RL.free 0
    have r1 := RL.free 1
    have r2 := RL.free 2
    have q0 := RL.c0
    have q1 := RL.c1
    have q2 := RL.c2
    have hNe : N4 ≠ w.heap.size := by have := R4.out.1; have := HL1.out.lt; omega
    have HRL := Lib.hid RL
    have hwle : w.heap.size ≤ w1.heap.size := hs0
    clear RL
    have HX : Hid (∀ V, LAt w.heap.size ⟨[], false, false⟩ V → FAt base B m0 (.slice none 0 0) [] V → Fed B (.slice (some ⟨g, 0, none⟩) (n + 2) cap) (.slice none 0 0) w V → ∀ (x : List UInt8) (a b : Bool) W, W = ((V.setCell ⟨w.heap.size, 0, none⟩ (.string ⟨x.toArray⟩)).setCell ⟨w.heap.size, 1, none⟩ (.bool a)).setCell ⟨w.heap.size, 2, none⟩ (.bool b) → LAt w.heap.size ⟨x, a, b⟩ W ∧ FAt base B m0 (.slice none 0 0) [] W ∧ Fed B (.slice (some ⟨g, 0, none⟩) (n + 2) cap) (.slice none 0 0) w W) := Lib.hid fun V hV1 hV2 hV3 x a b W e => by
      subst e
      refine ⟨hV1.all x a b, ?_, ?_⟩
      · exact ((hV2.nil_other (by omega) _).nil_other (by omega) _).nil_other (by omega) _
      · exact ((hV3.new (Nat.le_refl _) _).new (Nat.le_refl _) _).new (Nat.le_refl _) _
    have HF2 := Lib.hid (HF1.out.keep R4.out.2.2)
    have HD2 := Lib.hid (HD1.out.trans (Fed.of_below R4.out.2.2 B _))
    have HFR : Hid (Lin.frame m0 t = if br || lg then ⟨[], lg, br⟩ else ⟨t, false, false⟩) := Lib.hid (by
      unfold Lin.frame
      rw [HBR.out, HN.out, HLG.out])
    clear HLG HBR
    cases lg with
    | true =>
      go_wp2_with fail
      obtain ⟨F, hF⟩ : ∃ F, ((wc.setCell ⟨w.heap.size, 0, none⟩ (.string ⟨[].toArray⟩)).setCell ⟨w.heap.size, 1, none⟩ (.bool true)).setCell ⟨w.heap.size, 2, none⟩ (.bool br) = F := ⟨_, rfl⟩
      obtain ⟨x1, x2, x3⟩ := HX.out wc HRL.out HF2.out HD2.out [] true br F hF.symm
      have y0 := x1.c0
      have y1 := x1.c1
      have y2 := x1.c2
      change bodyPost _ _ _ _ _ (((wc.setCell ⟨w.heap.size, 0, none⟩ (.string ⟨[].toArray⟩)).setCell ⟨w.heap.size, 1, none⟩ (.bool true)).setCell ⟨w.heap.size, 2, none⟩ (.bool br))
      rw [hF]
      refine bodyPost_ret (v := .agg #[.string ⟨#[]⟩, .bool true, .bool br]) (by simp [results, Tryd.results21, go_sem, y0, y1, y2]) rfl ⟨?_, x2, x3⟩
      rw [HFR.out, Bool.or_true]
      rfl
    | false =>
      cases br with
      | true =>
        go_wp2_with fail
        obtain ⟨F, hF⟩ : ∃ F, ((wc.setCell ⟨w.heap.size, 0, none⟩ (.string ⟨[].toArray⟩)).setCell ⟨w.heap.size, 1, none⟩ (.bool false)).setCell ⟨w.heap.size, 2, none⟩ (.bool true) = F := ⟨_, rfl⟩
        obtain ⟨x1, x2, x3⟩ := HX.out wc HRL.out HF2.out HD2.out [] false true F hF.symm
        have y0 := x1.c0
        have y1 := x1.c1
        have y2 := x1.c2
        change bodyPost _ _ _ _ _ (((wc.setCell ⟨w.heap.size, 0, none⟩ (.string ⟨[].toArray⟩)).setCell ⟨w.heap.size, 1, none⟩ (.bool false)).setCell ⟨w.heap.size, 2, none⟩ (.bool true))
        rw [hF]
        refine bodyPost_ret (v := .agg #[.string ⟨#[]⟩, .bool false, .bool true]) (by simp [results, Tryd.results21, go_sem, y0, y1, y2]) rfl ⟨?_, x2, x3⟩
        rw [HFR.out]
        rfl
      | false =>
        have hcv := T1.out wc R4.out.2.2
        have LD := R4.out.2.1.set0 t
        have D0 : LAt w.heap.size ⟨[], false, false⟩ (wc.setCell ⟨N4, 0, none⟩ (.string ⟨t.toArray⟩)) := HRL.out.other (Ne.symm hNe)
        have FD := HF2.out.nil_other (g := N4) (i := 0) (by have := HF1.out.lt; have := R4.out.1; omega) (.string ⟨t.toArray⟩)
        have DD := HD2.out.new (g := N4) (i := 0) (by have := R4.out.1; omega) (.string ⟨t.toArray⟩)
        obtain ⟨V, hV⟩ : ∃ V, wc.setCell ⟨N4, 0, none⟩ (.string ⟨t.toArray⟩) = V := ⟨_, rfl⟩
        rw [hV] at LD D0 FD DD
        have a0' := LD.c0
        have a1' := LD.c1
        have a2' := LD.c2
        have q0' := D0.c0
        have q1' := D0.c1
        have q2' := D0.c2
        have r0' := D0.free 0
        have r1' := D0.free 1
        have r2' := D0.free 2
        have HY := Lib.hid (HX.out V D0 FD DD t false false)
        clear LD D0 FD DD
        go_upto_region 6 with (fail)
        clear hV hcv
        go_wp2_with fail
        obtain ⟨F, hF⟩ : ∃ F, ((V.setCell ⟨w.heap.size, 0, none⟩ (.string ⟨t.toArray⟩)).setCell ⟨w.heap.size, 1, none⟩ (.bool false)).setCell ⟨w.heap.size, 2, none⟩ (.bool false) = F := ⟨_, rfl⟩
        obtain ⟨x1, x2, x3⟩ := HY.out F hF.symm
        have y0 := x1.c0
        have y1 := x1.c1
        have y2 := x1.c2
        change bodyPost _ _ _ _ _ (((V.setCell ⟨w.heap.size, 0, none⟩ (.string ⟨t.toArray⟩)).setCell ⟨w.heap.size, 1, none⟩ (.bool false)).setCell ⟨w.heap.size, 2, none⟩ (.bool false))
        rw [hF]
        refine bodyPost_ret (v := .agg #[.string ⟨t.toArray⟩, .bool false, .bool false]) (by simp [results, Tryd.results21, go_sem, y0, y1, y2]) rfl ⟨?_, x2, x3⟩
        rw [HFR.out]
        rfl
end Go.Proofs.YtkcabnodhdhaaaaDoor
