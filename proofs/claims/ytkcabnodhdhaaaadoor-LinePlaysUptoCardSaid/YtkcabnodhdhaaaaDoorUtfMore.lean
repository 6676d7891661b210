/-
  Proved here: more on rows that a call owns: literals, appends behind a guard, what a row looks like, stores into one. Conditions: as they stand in each.
-/
import Derived.Test.YtkcabnodhdhaaaaDoorUtfMem
namespace Go.Proofs.YtkcabnodhdhaaaaDoor
open Go.RowKit
section
variable {P : Program}
/-- 'append(v, src...)' behind a guard that lets it by: v a row of the call's own, src any slice that can be read. -/
theorem append_row_by (W : World) (t E : TypeId) (z : Value) (bytes : Nat) (ht : P.underlying t = some (.slice E)) (hi : (P.info? E).map (fun i => (i.zero, i.size, i.bytes)) = some (some z, 1, bytes)) (hz1 : z.cells.size = 1) (hby : bytes ≤ 8)
    (base : Nat) (v : Value) (n : Nat) (xs : List Value) (hown : W.ownsRow base E 1 v n xs) (hbase : base ≤ W.heap.size) (hlen : n ≤ 1000000) (src : Value) (cells : List Value) (hsrc : Row src cells W) (h1 : ∀ u ∈ cells, u.oneCell' = true) (hmm : cells.length ≤ 1000000)
    {ops : Array Oper} {rest : List Oper} {o : Oper} {a : Act} {Q : Exit → Act → World → Prop} (s x : Operand) (hw : Region.wanted o (yielded ops a.tmps) = true)
    (ho : o.op = .call { callee := .builtin .append, args := #[s, x], argTypes := #[t, t] })
    (hs : a.eval s = v) (hx : a.eval x = src)
    (h : ∀ v' w', w'.ownsRow base E 1 v' (n + cells.length) (xs ++ cells) → Below base W w' → wpList P ops Q rest (a.put o.dst v') w') : wpList P ops Q (o :: rest) a W := by
  obtain ⟨i0, hi0, hz0, hs0, hb0⟩ := info_parts hi
  obtain ⟨A, c, rfl, hc, h0, ha⟩ := hsrc
  refine wpList_step fun K hK => ?_
  rw [if_pos hw]
  cases A with
  | none =>
    have hl0 : cells.length = 0 := by have := h0 rfl; omega
    have hc0 : c = 0 := h0 rfl
    obtain rfl : cells = [] := List.eq_nil_of_length_eq_zero hl0
    subst hc0
    have hrun := run_append_owned_none (P := P) (w := W) base t o.type E i0 1 ht hi0 v n xs hown
    have hk := hK _ _ (h v W (by simpa using hown) (Below.refl _ _))
    unfold Oper.wp
    simp only [List.length_nil] at hx
    simp [execOp, ho, resolve, invoke, builtin, hs, hx, hrun, Result.andThen]
    exact hk
  | some ad =>
    refine wp_append_own W s x t ho base E i0 z 1 bytes ht hi0 hz0 hs0 hb0 hz1 (by decide) v n xs hs hown ad cells.length c cells hx (by omega) ?_ h1 (by simp only [maxLen]; omega) ?_ hbase ?_
    · intro j u hj
      have hj' : j < cells.length := (List.getElem?_eq_some_iff.1 hj).1
      obtain ⟨ad', e, -, hcell⟩ := ha (by omega)
      obtain rfl : ad = ad' := by injection e
      exact hcell j u hj
    · have : (n + cells.length) * bytes ≤ (n + cells.length) * 8 := Nat.mul_le_mul_left _ hby
      omega
    · intro v' w' ho' hg _
      exact hK _ _ (h v' w' ho' ((Below.refl _ W).grown hg hbase fun k hk => (hown.lt k hk).1))
end
theorem own_empty (w : World) (base : Nat) (hb : base ≤ w.heap.size) : (w.alloc (.cells #[] 21)).ownsRow base 21 1 (.slice (some ⟨w.heap.size, 0, none⟩) 0 0) 0 [] := by
  refine ⟨rfl, .inr ⟨w.heap.size, 0, #[], rfl, hb, ?_, Nat.le_refl _, by simp [maxLen], rfl, rfl⟩⟩
  exact heap_alloc_new w _
theorem OwnR.lower {base base' : Nat} {v : Value} {l : List Int} {w : World} (h : OwnR base v l w) (hb : base' ≤ base) : OwnR base' v l w := by
  refine ⟨h.1, ?_⟩
  rcases h.2 with h0 | ⟨g, cap, cur, h1, h2, h3⟩
  · exact .inl h0
  · exact .inr ⟨g, cap, cur, h1, Nat.le_trans hb h2, h3⟩
theorem ownR_lit (w : World) (base : Nat) (hb : base ≤ w.heap.size) (l : List Int) (hl : l.length ≤ 1000) : OwnR base (.slice (some ⟨w.heap.size, 0, none⟩) l.length l.length) l (w.alloc (.cells (l.map runeV).toArray 21)) := by
  have h := World.ownsRow_lit (size := 1) (e := 21) w (l.map runeV).toArray l.length hb (by simp only [maxLen]; omega) (by simp)
  simpa [OwnR] using h
section
variable {P : Program}
/-- As append_cells, the new block's number spelt otherwise. -/
theorem append_cells_at (W : World) (t E : TypeId) (z : Value) (bytes : Nat) (ht : P.underlying t = some (.slice E)) (hi : (P.info? E).map (fun i => (i.zero, i.size, i.bytes)) = some (some z, 1, bytes)) (hz1 : z.cells.size = 1) (hby : bytes ≤ 8)
    (base : Nat) (v : Value) (n : Nat) (xs : List Value) (hown : W.ownsRow base E 1 v n xs) (hbase : base ≤ W.heap.size) (hlen : n ≤ 1000000) (m : Nat) (hmm : m ≤ 1000) (cells : List Value) (hm : cells.length = m) (h1 : cells.all (fun u => u.oneCell') = true)
    (N : Nat) (hN : N = W.heap.size)
    {ops : Array Oper} {rest : List Oper} {o : Oper} {a : Act} {Q : Exit → Act → World → Prop} (hgd : o.guard = none) (s x : Operand)
    (ho : o.op = .call { callee := .builtin .append, args := #[s, x], argTypes := #[t, t] })
    (hs : a.eval s = v) (hx : a.eval x = .slice (some ⟨N, 0, none⟩) m m)
    (h : ∀ v' w', w'.ownsRow base E 1 v' (n + m) (xs ++ cells) → Below base W w' → wpList P ops Q rest (a.put o.dst v') w') : wpList P ops Q (o :: rest) a (W.alloc (.cells cells.toArray E)) := by
  subst hN
  exact append_cells W t E z bytes ht hi hz1 hby base v n xs hown hbase hlen m hmm cells hm h1 hgd s x ho hs hx h
end
theorem ownR_lit_at (w : World) (base N : Nat) (hN : N = w.heap.size) (hb : base ≤ w.heap.size) (l : List Int) (hl : l.length ≤ 1000) : OwnR base (.slice (some ⟨N, 0, none⟩) l.length l.length) l (w.alloc (.cells (l.map runeV).toArray 21)) := by
  subst hN
  exact ownR_lit w base hb l hl
theorem OwnR.shape {base : Nat} {v : Value} {l : List Int} {w : World} (h : OwnR base v l w) : ∃ (A : Option Addr) (c : Nat), v = .slice A l.length c ∧ (0 < l.length → ∃ g, A = some ⟨g, 0, none⟩ ∧ base ≤ g ∧ g < w.heap.size) := by
  rcases h.2 with ⟨rfl, h0⟩ | ⟨g, cap, cur, rfl, hb, hg, hnc, hcm, hcs, hcur⟩
  · exact ⟨none, 0, by rw [h0], fun hp => by omega⟩
  · exact ⟨some ⟨g, 0, none⟩, cap, rfl, fun _ => ⟨g, rfl, hb, (h.lt g rfl).2⟩⟩
theorem OwnR.cell {base g n c : Nat} {l : List Int} {w : World} (h : OwnR base (.slice (some ⟨g, 0, none⟩) n c) l w) (k : Nat) (hk : k < l.length) : w.cell? ⟨g, k, none⟩ = some (.int .i32 l[k]!) := by
  have hn : n = l.length := by
    rcases h.2 with ⟨h0, -⟩ | ⟨g', cap, cur, h0, -⟩
    · cases h0
    · injection h0
  subst hn
  have := World.ownsRow.cellAt h k (by omega)
  rw [this, List.getElem?_map, List.getElem?_eq_getElem hk, getElem!_pos l k hk]
  rfl
theorem OwnR.free {base g n c : Nat} {l : List Int} {w : World} (h : OwnR base (.slice (some ⟨g, 0, none⟩) n c) l w) (k : Nat) : w.frozen? ⟨g, k, none⟩ = false := by
  have hn : n = l.length := by
    rcases h.2 with ⟨h0, -⟩ | ⟨g', cap, cur, h0, -⟩
    · cases h0
    · injection h0
  subst hn
  exact World.ownsRow.frozenAt h k
theorem OwnR.put {base g n c : Nat} {l : List Int} {w : World} (h : OwnR base (.slice (some ⟨g, 0, none⟩) n c) l w) (k : Nat) (x : Int) : OwnR base (.slice (some ⟨g, 0, none⟩) n c) (l.set k x) (w.setCell ⟨g, k, none⟩ (.int .i32 x)) := by
  have hn : n = l.length := by
    rcases h.2 with ⟨h0, -⟩ | ⟨g', cap, cur, h0, -⟩
    · cases h0
    · injection h0
  subst hn
  have := (World.ownsRow.stored h k (.int .i32 x)).1
  unfold OwnR
  rw [List.length_set, List.map_set]
  exact this
theorem OwnR.drewN {base : Nat} {v : Value} {l : List Int} {w : World} (h : OwnR base v l w) (n : Nat) : OwnR base v l (w.drewN n) := h
theorem OwnR.drew {base : Nat} {v : Value} {l : List Int} {w : World} (h : OwnR base v l w) : OwnR base v l w.drew := h
theorem runes_lit_at (w : World) (N : Nat) (hN : N = w.heap.size) (l : List Int) : Runes (.slice (some ⟨N, 0, none⟩) l.length l.length) l (w.alloc (.cells (l.map runeV).toArray 21)) := by
  subst hN
  exact runes_lit w l
end Go.Proofs.YtkcabnodhdhaaaaDoor
