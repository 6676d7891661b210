/-
  Proved here: a string's bytes put behind a row of the call's own, that stays where it lies, or goes to what is new; a framer behind a pointer, and what its calls leave as it was. Conditions: as they stand in each.
-/
import Derived.Test.YtkcabnodhdhaaaaDoorLinCells
import Derived.Deep.RegionLaw
namespace Go.Proofs.YtkcabnodhdhaaaaDoor
open Go.RowKit
section
variable {P : Program}
theorem run_string_at (w : World) (base : Nat) (t u ty e : TypeId) (i : TypeInfo) (ht : P.underlying t = some (.slice e)) (hu : P.underlying u = some .string) (hi : P.info? e = some i) (hz : i.zero = some (.int .u8 0))
    (hsize : i.size = 1) (hby : i.bytes = 1) (v : Value) (n : Nat) (xs : List Value) (hown : w.ownsRow base e 1 v n xs) (s : ByteArray) (h63 : n + s.size ≤ 2000000) (hbase : base ≤ w.heap.size) :
    ∃ v' w', (Builtin.append_ #[t, u] ty #[v, .string s]).run P w = .ok v' w' ∧ w'.ownsRow base e 1 v' (n + s.size) (xs ++ Lib.strCells s) ∧ Grew v v' w w' := by
  obtain ⟨v1, w1, hr1, ho1, hg1, -⟩ := Lib.run_append_own_string (P := P) w base t u ty e i ht hu hi hz hsize hby v n xs hown s (by simp only [maxLen]; omega) (by omega) hbase
  refine ⟨v1, w1, hr1, ho1, ⟨hg1.os, hg1.tape, hg1.output, hg1.size, fun k hk hne => hg1.block k hk hne, ?_⟩⟩
  -- where it lies: once more with what is new as the base, of a row that is nil, or by the arm that was run
  have hxl : xs.length = n := by simpa using hown.1
  intro k hk
  rcases hown.2 with ⟨rfl, rfl⟩ | ⟨g, cap, cur, rfl, hbg, hg, hnc, hcm, hcs, htake⟩
  · have hx : xs = [] := List.eq_nil_of_length_eq_zero hxl
    subst hx
    obtain ⟨v2, w2, hr2, ho2, -, -⟩ := Lib.run_append_own_string (P := P) w w.heap.size t u ty e i ht hu hi hz hsize hby (.slice none 0 0) 0 [] (World.ownsRow_nil w w.heap.size e 1) s (by simp only [maxLen]; omega) (by omega) (Nat.le_refl _)
    rw [hr1] at hr2
    injection hr2 with e1 e2
    subst e1 e2
    exact .inr (World.ownsRow.lt ho2 k hk).1
  · by_cases hroom : n + s.size ≤ cap
    · have hcs' : cur.size = cap := by simpa using hcs
      have hr := Lib.run_append_room_string (P := P) w t u ty e i ht hu hi hsize g n cap cur hg s hroom (by omega)
      rw [hr1] at hr
      injection hr with e1 e2
      subst e1
      exact .inl hk
    · have holds : ∀ j u, xs[j]? = some u → w.cell? ((⟨g, 0, none⟩ : Addr).add j) = some u := hown.cells (g := g) rfl
      have hr := Lib.run_append_grow_string (P := P) w t u ty e i (.int .u8 0) ht hu hi hz ⟨g, 0, none⟩ n cap xs (by rw [hsize]; simpa using hxl) holds s (by omega) (by omega) (by rw [hby]; exact growslice_fits (by omega) (by omega))
      rw [hr1] at hr
      injection hr with e1 e2
      subst e1
      change some w.heap.size = some k at hk
      injection hk with hk
      exact .inr (by omega)
end
theorem strCells_is (x : List UInt8) : Lib.strCells ⟨x.toArray⟩ = x.map byteV := rfl
theorem size_is (x : List UInt8) : (⟨x.toArray⟩ : ByteArray).size = x.length := rfl
/-- 'append(v, x...)', x a string, in a region that draws its order. -/
theorem step_bytes (W : World) (base : Nat) (v : Value) (l : List UInt8) (hown : OwnB base v l W) (hbase : base ≤ W.heap.size) (x : List UInt8) {X : ByteArray} (hX : X = ⟨x.toArray⟩) (hlen : l.length + x.length ≤ 2000000)
    {ops : Array Oper} {o : Oper} {a : Act} {K : Act → World → Prop} {Q : Exit → Act → World → Prop} {F : Prop} (hgd : o.guard = none) (s y : Operand)
    (ho : o.op = .call { callee := .builtin .append, args := #[s, y], argTypes := #[43, 9] })
    (hs : a.eval s = v) (hx : a.eval y = .string X)
    (h : ∀ v' w', OwnB base v' (l ++ x) w' → Grew v v' W w' → K (a.put o.dst v') w') : if Region.wanted o (yielded ops a.tmps) = true then Oper.wp Tryd.prog o a W K Q else F := by
  subst hX
  rw [if_pos (by simp [Region.wanted, hgd])]
  obtain ⟨i0, hi0, hz0, hs0, hb0⟩ := info_parts info_u8
  obtain ⟨v', w', hr, ho', hg⟩ := run_string_at (P := Tryd.prog) W base 43 9 o.type 5 i0 Tryd.underlying43 Tryd.underlying9 hi0 hz0 hs0 hb0 v l.length (l.map byteV) hown ⟨x.toArray⟩ (by rw [size_is]; exact hlen) hbase
  rw [size_is, strCells_is] at ho'
  have hk := h v' w' (OwnB.more ho' rfl rfl) hg
  unfold Oper.wp
  simp [execOp, ho, resolve, invoke, builtin, hs, hx, hr, Result.andThen]
  exact hk
/-- .. on its own. -/
theorem append_bytes (W : World) (base : Nat) (v : Value) (l : List UInt8) (hown : OwnB base v l W) (hbase : base ≤ W.heap.size) (x : List UInt8) {X : ByteArray} (hX : X = ⟨x.toArray⟩) (hlen : l.length + x.length ≤ 2000000)
    {ops : Array Oper} {rest : List Oper} {o : Oper} {a : Act} {Q : Exit → Act → World → Prop} (hgd : o.guard = none) (s y : Operand)
    (ho : o.op = .call { callee := .builtin .append, args := #[s, y], argTypes := #[43, 9] })
    (hs : a.eval s = v) (hx : a.eval y = .string X)
    (h : ∀ v' w', OwnB base v' (l ++ x) w' → Grew v v' W w' → wpList Tryd.prog ops Q rest (a.put o.dst v') w') : wpList Tryd.prog ops Q (o :: rest) a W := by
  subst hX
  obtain ⟨i0, hi0, hz0, hs0, hb0⟩ := info_parts info_u8
  obtain ⟨v', w', hr, ho', hg⟩ := run_string_at (P := Tryd.prog) W base 43 9 o.type 5 i0 Tryd.underlying43 Tryd.underlying9 hi0 hz0 hs0 hb0 v l.length (l.map byteV) hown ⟨x.toArray⟩ (by rw [size_is]; exact hlen) hbase
  rw [size_is, strCells_is] at ho'
  refine wpList_plain hgd fun K hK => ?_
  unfold Oper.wp execOp
  simp only [ho, resolve, invoke, builtin, Sem.run_bind, Sem.run_pure, Result.andThen_ok, List.map_toArray, List.map_cons, List.map_nil, hs, hx, hr]
  exact hK _ _ (h v' w' (OwnB.more ho' rfl rfl) hg)
/-- A framer in block B: how long a line may be, and the bytes of the rest, in v. -/
structure FAt (base B : Nat) (most : Int) (v : Value) (r : List UInt8) (w : World) : Prop where
  blk : w.heap[B]? = some (.cells #[.int .i64 most, v] 46 (0, 0))
  own : OwnB base v r w
theorem FAt.lt {base B : Nat} {most : Int} {v : Value} {r : List UInt8} {w : World} (h : FAt base B most v r w) : B < w.heap.size := (Array.getElem?_eq_some_iff.1 h.blk).1
theorem FAt.c0 {base B : Nat} {most : Int} {v : Value} {r : List UInt8} {w : World} (h : FAt base B most v r w) : w.cell? ⟨B, 0, none⟩ = some (.int .i64 most) := by simp [World.cell?, h.blk]
theorem FAt.c1 {base B : Nat} {most : Int} {v : Value} {r : List UInt8} {w : World} (h : FAt base B most v r w) : w.cell? ⟨B, 1, none⟩ = some v := by simp [World.cell?, h.blk]
theorem FAt.free {base B : Nat} {most : Int} {v : Value} {r : List UInt8} {w : World} (h : FAt base B most v r w) (k : Nat) : w.frozen? ⟨B, k, none⟩ = false := by simp [World.frozen?, h.blk]
theorem FAt.ne {base B : Nat} {most : Int} {v : Value} {r : List UInt8} {w : World} (h : FAt base B most v r w) : some B ≠ v.ownBlock := by
  intro e
  rcases h.own.2 with ⟨h0, -⟩ | ⟨g, cap, cur, h0, -, hg, -⟩
  · rw [h0] at e; cases e
  · rw [h0] at e
    change some B = some g at e
    injection e with e
    rw [← e, h.blk] at hg
    injection hg with hg
    injection hg with h1 h2 h3
    cases h2
theorem FAt.shape {base B : Nat} {most : Int} {v : Value} {r : List UInt8} {w : World} (h : FAt base B most v r w) : ∃ (A : Option Addr) (c : Nat), v = .slice A r.length c ∧ r.length ≤ c := by
  rcases h.own.2 with ⟨rfl, h0⟩ | ⟨g, cap, cur, rfl, hb, hg, hnc, hcm, hcs, hcur⟩
  · exact ⟨none, 0, by rw [h0], by omega⟩
  · exact ⟨some ⟨g, 0, none⟩, cap, rfl, hnc⟩
/-- All but block B, and v's own row, is as it was; v' lies there, or in what is new. -/
structure Fed (B : Nat) (v v' : Value) (w w' : World) : Prop where
  os : w'.os = w.os
  tape : w'.tape = w.tape
  output : w'.output = w.output
  size : w.heap.size ≤ w'.heap.size
  block : ∀ k, k < w.heap.size → k ≠ B → some k ≠ v.ownBlock → w'.heap[k]? = w.heap[k]?
  place : ∀ k, v'.ownBlock = some k → v.ownBlock = some k ∨ w.heap.size ≤ k
theorem Fed.refl (B : Nat) (v : Value) (w : World) : Fed B v v w w := ⟨rfl, rfl, rfl, Nat.le_refl _, fun _ _ _ _ => rfl, fun _ h => .inl h⟩
theorem Fed.trans {B : Nat} {v v1 v2 : Value} {w w1 w2 : World} (h : Fed B v v1 w w1) (k : Fed B v1 v2 w1 w2) : Fed B v v2 w w2 := by
  refine ⟨k.os.trans h.os, k.tape.trans h.tape, k.output.trans h.output, Nat.le_trans h.size k.size, fun i hi hB hne => ?_, fun i hi => ?_⟩
  · refine (k.block i (Nat.lt_of_lt_of_le hi h.size) hB fun e => ?_).trans (h.block i hi hB hne)
    rcases h.place i e.symm with h1 | h1
    · exact hne h1.symm
    · omega
  · rcases k.place i hi with h1 | h1
    · exact h.place i h1
    · exact .inr (Nat.le_trans h.size h1)
theorem Fed.of_below {w w' : World} (h : Below w.heap.size w w') (B : Nat) (v : Value) : Fed B v v w w' := ⟨h.os, h.tape, h.output, h.size, fun k hk _ _ => h.block k hk, fun _ h => .inl h⟩
theorem Fed.of_grew {v v' : Value} {w w' : World} (h : Grew v v' w w') (B : Nat) : Fed B v v' w w' := ⟨h.os, h.tape, h.output, h.size, fun k hk _ hne => h.block k hk hne, h.place⟩
/-- The framer is let go of its row. -/
theorem Fed.drop {B : Nat} {v v' : Value} {w w' : World} (h : Fed B v v' w w') : Fed B v (.slice none 0 0) w w' := ⟨h.os, h.tape, h.output, h.size, h.block, fun _ e => by cases e⟩
theorem Fed.below {B base : Nat} {v v' : Value} {w w' : World} (h : Fed B v v' w w') (hb : base ≤ w.heap.size) (hB : base ≤ B) (hv : ∀ k, v.ownBlock = some k → base ≤ k) : Below base w w' :=
  ⟨h.os, h.tape, h.output, h.size, fun k hk => h.block k (by omega) (by omega) fun e => by have := hv k e.symm; omega⟩
theorem Fed.put (B k : Nat) (x v : Value) (w : World) : Fed B v v w (w.setCell ⟨B, k, none⟩ x) := by
  have hb : Below B w (w.setCell ⟨B, k, none⟩ x) := (Below.refl B w).setCell (p := ⟨B, k, none⟩) (Nat.le_refl _) x
  exact ⟨hb.os, hb.tape, hb.output, hb.size, fun j _ hne _ => Below.heap_setCell _ _ _ _ hne, fun _ h => .inl h⟩
theorem FAt.keep {base B : Nat} {most : Int} {v : Value} {r : List UInt8} {w w' : World} (h : FAt base B most v r w) (hb : Below w.heap.size w w') : FAt base B most v r w' := ⟨(hb.block B h.lt).trans h.blk, h.own.keep hb⟩
theorem FAt.set0 {base B : Nat} {most : Int} {v : Value} {r : List UInt8} {w : World} (h : FAt base B most v r w) (m : Int) : FAt base B m v r (w.setCell ⟨B, 0, none⟩ (.int .i64 m)) := by
  refine ⟨by simp [World.setCell, Array.getElem?_modify, h.blk], ?_⟩
  obtain ⟨b1, b2⟩ := h.own
  refine ⟨b1, ?_⟩
  rcases b2 with h0 | ⟨g, cap, cur, rfl, h1, hg, h2⟩
  · exact .inl h0
  · exact .inr ⟨g, cap, cur, rfl, h1, (Below.heap_setCell _ _ _ _ (fun e => h.ne (by rw [show (⟨B, 0, none⟩ : Addr).block = B from rfl] at e; rw [← e]; rfl))).trans hg, h2⟩
/-- A row is put where the rest lies. -/
theorem FAt.set1 {base B : Nat} {most : Int} {v v' : Value} {r r' : List UInt8} {w w' : World} (h : FAt base B most v r w) (ho : OwnB base v' r' w') (hg : Grew v v' w w') : FAt base B most v' r' (w'.setCell ⟨B, 1, none⟩ v') := by
  have hb : w'.heap[B]? = some (.cells #[.int .i64 most, v] 46 (0, 0)) := (hg.block B h.lt h.ne).trans h.blk
  have hne : some B ≠ v'.ownBlock := fun e => by
    rcases hg.place B e.symm with h1 | h1
    · exact h.ne h1.symm
    · have := h.lt; omega
  refine ⟨by simp [World.setCell, Array.getElem?_modify, hb], ho.1, ?_⟩
  rcases ho.2 with h0 | ⟨g, cap, cur, rfl, h1, hg, h2⟩
  · exact .inl h0
  · exact .inr ⟨g, cap, cur, rfl, h1, (Below.heap_setCell _ _ _ _ (fun e => hne (by rw [show (⟨B, 1, none⟩ : Addr).block = B from rfl] at e; rw [← e]; rfl))).trans hg, h2⟩
theorem FAt.set_nil {base B : Nat} {most : Int} {v : Value} {r : List UInt8} {w : World} (h : FAt base B most v r w) : FAt base B most (.slice none 0 0) [] (w.setCell ⟨B, 1, none⟩ (.slice none 0 0)) :=
  ⟨by simp [World.setCell, Array.getElem?_modify, h.blk], OwnB.nil _ _⟩
/-- A row of lines is no part of a framer. -/
theorem OwnF.fed {base b2 B : Nat} {most : Int} {L v v' : Value} {ts : List Lin.Fr} {r : List UInt8} {w w' : World} (h : OwnF b2 L ts w) (hF : FAt base B most v r w) (k : Fed B v v' w w') : OwnF b2 L ts w' := by
  refine h.same fun g cur hL hg => k.block g (Array.getElem?_eq_some_iff.1 hg).1 (fun e => ?_) fun e => ?_
  · subst e
    rw [hF.blk] at hg
    injection hg with hg
    injection hg with h1 h2 h3
    cases h2
  · rcases hF.own.2 with ⟨h0, -⟩ | ⟨g', cap, cur', h0, -, hg', -⟩
    · rw [h0] at e; cases e
    · rw [h0] at e
      change some g = some g' at e
      injection e with e
      subst e
      rw [hg'] at hg
      injection hg with hg
      injection hg with h1 h2 h3
      cases h2
/-- A framer is no part of a row of lines. -/
theorem FAt.grew {base b2 B : Nat} {most : Int} {L L' v : Value} {ts : List Lin.Fr} {r : List UInt8} {w w' : World} (h : FAt base B most v r w) (hL : OwnF b2 L ts w) (k : Grew L L' w w') : FAt base B most v r w' := by
  have hne : ∀ g : Nat, ∀ cur : Array Value, ∀ T : TypeId, w.heap[g]? = some (.cells cur T (0, 0)) → T ≠ 42 → some g ≠ L.ownBlock := fun g cur T hg hT e => by
    rcases hL.2 with ⟨h0, -⟩ | ⟨g', cap, cur', h0, -, hg', -⟩
    · rw [h0] at e; cases e
    · rw [h0] at e
      change some g = some g' at e
      injection e with e
      subst e
      rw [hg'] at hg
      injection hg with hg
      injection hg with h1 h2 h3
      exact hT h2.symm
  refine ⟨(k.block B h.lt (hne B _ _ h.blk (by decide))).trans h.blk, h.own.1, ?_⟩
  rcases h.own.2 with h0 | ⟨g, cap, cur, rfl, h1, hg, h2⟩
  · exact .inl h0
  · exact .inr ⟨g, cap, cur, rfl, h1, (k.block g (Array.getElem?_eq_some_iff.1 hg).1 (hne g _ _ hg (by decide))).trans hg, h2⟩
end Go.Proofs.YtkcabnodhdhaaaaDoor
