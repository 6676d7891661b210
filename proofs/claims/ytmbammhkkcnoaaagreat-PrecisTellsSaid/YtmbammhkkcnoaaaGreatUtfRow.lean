/-
  Proved here: small facts on memory: rows of bytes and of characters that a call owns, slices that can be read, and what appends leave of them. Conditions: as they stand in each.
  Proved here: a slice that can be read, whatever its address, and what keeps it so; a scope that is left ahead by a goto to one label. Conditions: as they stand in each.
  Proved here: more on rows that a call owns: literals, appends behind a guard, what a row looks like, stores into one. Conditions: as they stand in each.
  Proved here: an append that leaves all but its own row as it was. Conditions: as they stand in each.
-/
import Derived.Test.YtmbammhkkcnoaaaGreatGround
import Derived.WalkKit
import Derived.WalkSpells
import Derived.WalkLawsBesides
import Derived.Maps.AppendAt
import Derived.Deep.AppendLies
import Derived.RegionTactic
import Derived.OwnWalk
import Derived.Laws.OwnMore
import Derived.Laws.IdiomStrings
import Derived.Deep.Draws
import Derived.Lib.Hide
import Derived.WalkMore
import Derived.ScopeJumps
import Derived.Laws.BytesArg
import Derived.Laws.AppendOwnNone
namespace Go.Proofs.YtmbammhkkcnoaaaGreat
open Go.RowKit
def byteV (b : UInt8) : Value := .int .u8 (b.toNat : Int)
def runeV (r : Int) : Value := .int .i32 r
theorem info_u8 : (Tryz.prog.info? 5).map (fun i => (i.zero, i.size, i.bytes)) = some (some (.int .u8 0), 1, 1) := by kernel_rfl
theorem info_i32 : (Tryz.prog.info? 21).map (fun i => (i.zero, i.size, i.bytes)) = some (some (.int .i32 0), 1, 4) := by kernel_rfl
/-- v owns the bytes bs: v is nil, or its row is one of the blocks from base on. -/
def OwnB (base : Nat) (v : Value) (bs : List UInt8) (w : World) : Prop := w.ownsRow base 5 1 v bs.length (bs.map byteV)
/-- The same of characters. -/
def OwnR (base : Nat) (v : Value) (l : List Int) (w : World) : Prop := w.ownsRow base 21 1 v l.length (l.map runeV)
section
variable {P : Program}
theorem append_cells (W : World) (t E : TypeId) (z : Value) (bytes : Nat) (ht : P.underlying t = some (.slice E)) (hi : (P.info? E).map (fun i => (i.zero, i.size, i.bytes)) = some (some z, 1, bytes)) (hz1 : z.cells.size = 1) (hby : bytes ≤ 8)
    (base : Nat) (v : Value) (n : Nat) (xs : List Value) (hown : W.ownsRow base E 1 v n xs) (hbase : base ≤ W.heap.size) (hlen : n ≤ 1000000) (m : Nat) (hmm : m ≤ 1000) (cells : List Value) (hm : cells.length = m) (h1 : cells.all (fun u => u.oneCell') = true)
    {ops : Array Oper} {rest : List Oper} {o : Oper} {a : Act} {Q : Exit → Act → World → Prop} (hgd : o.guard = none) (s x : Operand)
    (ho : o.op = .call { callee := .builtin .append, args := #[s, x], argTypes := #[t, t] })
    (hs : a.eval s = v) (hx : a.eval x = .slice (some ⟨W.heap.size, 0, none⟩) m m)
    (h : ∀ v' w', w'.ownsRow base E 1 v' (n + m) (xs ++ cells) → Below base W w' → wpList P ops Q rest (a.put o.dst v') w') : wpList P ops Q (o :: rest) a (W.alloc (.cells cells.toArray E)) := by
  obtain ⟨i0, hi0, hz0, hs0, hb0⟩ := info_parts hi
  have hown' := hown.alloc (.cells cells.toArray E)
  refine wpList_append_own _ hgd s x t ho base E i0 z 1 bytes ht hi0 hz0 hs0 hb0 hz1 (by decide) v n xs hs hown' ⟨W.heap.size, 0, none⟩ m m cells hx (by omega) ?_ (fun u hu => List.all_eq_true.1 h1 u hu) (by simp only [maxLen]; omega) ?_ (by simp; omega) ?_
  · intro j u hj
    have e : (⟨W.heap.size, 0, none⟩ : Addr).add j = ⟨W.heap.size, j, none⟩ := by unfold Addr.add; split <;> simp_all
    have hj' : j < cells.length := (List.getElem?_eq_some_iff.1 hj).1
    rw [e, World.cell?_alloc_at _ _ _ _ (by simp)]
    rw [← hj]; simp [List.getElem?_eq_getElem hj']
  · have : (n + m) * bytes ≤ (n + m) * 8 := Nat.mul_le_mul_left _ hby
    omega
  · intro v' w' ho' hg _
    refine h v' w' ho' (((Below.refl _ W).alloc hbase _).grown hg (by simp; omega) fun k hk => (hown'.lt k hk).1)
end
theorem OwnB.more {base : Nat} {v : Value} {bs ns : List UInt8} {w : World} {m : Nat} {cells : List Value} (h : w.ownsRow base 5 1 v (bs.length + m) (bs.map byteV ++ cells)) (hc : cells = ns.map byteV) (hm : m = ns.length) : OwnB base v (bs ++ ns) w := by
  subst hc hm
  unfold OwnB
  rw [List.length_append, List.map_append]
  exact h
theorem OwnR.more {base : Nat} {v : Value} {l ns : List Int} {w : World} {m : Nat} {cells : List Value} (h : w.ownsRow base 21 1 v (l.length + m) (l.map runeV ++ cells)) (hc : cells = ns.map runeV) (hm : m = ns.length) : OwnR base v (l ++ ns) w := by
  subst hc hm
  unfold OwnR
  rw [List.length_append, List.map_append]
  exact h
theorem OwnB.nil (base : Nat) (w : World) : OwnB base (.slice none 0 0) [] w := World.ownsRow_nil w base _ _
theorem OwnR.nil (base : Nat) (w : World) : OwnR base (.slice none 0 0) [] w := World.ownsRow_nil w base _ _
end Go.Proofs.YtmbammhkkcnoaaaGreat
namespace Go.Proofs.YtmbammhkkcnoaaaGreat
open Go.RowKit
section
variable {P : Program} {Q : Exit → Act → World → Prop} {a : Act} {w : World}
/-- A run that goes ahead to label l goes on with what stands behind it. -/
theorem wp_ahead {c rest : Code} (l : Nat) (hf : findLabel c l = some rest)
    (h : c.wp P (Exit.jump l (fun a' w' => rest.wp P (Exit.noGoto Q) a' w') Q) a w) : (Code.scope c).wp P Q a w := by
  refine wp_scope_jumps l _ (fun _ _ => 0) hf h fun a' w' hJ => wp_mono hJ ?_
  intro e a2 w2 hq
  cases e with
  | goto l' => exact hq.elim
  | _ => exact hq
theorem jump_goto (l : Nat) (J : Act → World → Prop) : Exit.jump l J Q (.goto l) a w = J a w := by
  show (l = l ∧ J a w) = _
  simp
theorem jump_normal (l : Nat) (J : Act → World → Prop) : Exit.jump l J Q .normal a w = Q .normal a w := rfl
theorem jump_ret (l : Nat) (J : Act → World → Prop) : Exit.jump l J Q .ret a w = Q .ret a w := rfl
end
theorem add_block (a : Addr) (n : Nat) : (a.add n).block = a.block := by unfold Addr.add; split <;> rfl
/-- v is a slice that reads xs, one cell each. -/
def Row (v : Value) (xs : List Value) (w : World) : Prop :=
  ∃ (A : Option Addr) (c : Nat), v = .slice A xs.length c ∧ xs.length ≤ c ∧ (A = none → c = 0) ∧ (0 < xs.length → ∃ ad, A = some ad ∧ ad.block < w.heap.size ∧ ∀ j u, xs[j]? = some u → w.cell? (ad.add j) = some u)
theorem Row.keep {v : Value} {xs : List Value} {w w' : World} (h : Row v xs w) (hb : Below w.heap.size w w') : Row v xs w' := by
  obtain ⟨A, c, rfl, hc, h0, ha⟩ := h
  refine ⟨A, c, rfl, hc, h0, fun hp => ?_⟩
  obtain ⟨ad, rfl, hlt, hcell⟩ := ha hp
  exact ⟨ad, rfl, Nat.lt_of_lt_of_le hlt hb.size, fun j u hu => (hb.cell (by rw [add_block]; exact hlt)).trans (hcell j u hu)⟩
theorem Row.of_own {v : Value} {xs : List Value} {w : World} {base n : Nat} {E : TypeId} (h : w.ownsRow base E 1 v n xs) : Row v xs w := by
  have hx : xs.length = n := by have := h.1; omega
  subst hx
  rcases h.2 with ⟨rfl, h0⟩ | ⟨g, cap, cur, rfl, hb, hg, hnc, hcm, hcs, hcur⟩
  · exact ⟨none, 0, by rw [h0], by omega, fun _ => rfl, fun hp => absurd hp (by omega)⟩
  · refine ⟨some ⟨g, 0, none⟩, cap, rfl, hnc, fun h => (by cases h), fun _ => ⟨_, rfl, (h.lt g rfl).2, fun j u hu => ?_⟩⟩
    exact h.cells (g := g) rfl j u hu
def Bytes (v : Value) (bs : List UInt8) (w : World) : Prop := Row v (bs.map byteV) w
def Runes (v : Value) (l : List Int) (w : World) : Prop := Row v (l.map runeV) w
theorem Runes.keep {v : Value} {l : List Int} {w w' : World} (h : Runes v l w) (hb : Below w.heap.size w w') : Runes v l w' := Row.keep h hb
/-- What a walk asks of it. -/
theorem Runes.form {v : Value} {l : List Int} {w : World} (h : Runes v l w) : ∃ (A : Option Addr) (c : Nat), v = .slice A l.length c ∧ l.length ≤ c ∧
    (∀ k, k < l.length → ∃ ad, A = some ad ∧ ad.block < w.heap.size ∧ w.cell? (ad.add k) = some (.int .i32 l[k]!)) := by
  obtain ⟨A, c, rfl, hc, -, ha⟩ := h
  simp only [List.length_map] at ha hc ⊢
  refine ⟨A, c, rfl, hc, fun k hk => ?_⟩
  obtain ⟨ad, rfl, hlt, hcell⟩ := ha (by omega)
  refine ⟨ad, rfl, hlt, hcell k _ ?_⟩
  rw [List.getElem?_map, List.getElem?_eq_getElem hk, getElem!_pos l k hk]
  rfl
theorem OwnR.runes {base : Nat} {v : Value} {l : List Int} {w : World} (h : OwnR base v l w) : Runes v l w := Row.of_own h
/-- 'string(b)' of bytes that can be read. -/
theorem string_of {v : Value} {bs : List UInt8} {w : World} (h : Bytes v bs w) : (convert 45 9 v).run Tryz.prog w = .ok (.string ⟨bs.toArray⟩) w := by
  obtain ⟨A, c, rfl, hc, -, ha⟩ := h
  simp only [List.length_map] at ha hc ⊢
  cases A with
  | none =>
    have h0 : bs.length = 0 := by
      rcases Nat.eq_zero_or_pos bs.length with h0 | h0
      · exact h0
      · obtain ⟨ad, h, -⟩ := ha h0; cases h
    rw [run_convert_bytes_nil (P := Tryz.prog) w 45 5 Tryz.underlying45 Tryz.underlying5 bs.length c 9 Tryz.underlying9, List.eq_nil_of_length_eq_zero h0]
    rfl
  | some ad =>
    refine run_convert_bytes_back w 45 9 5 ad c bs Tryz.underlying45 Tryz.underlying5 Tryz.underlying9 fun j hj => ?_
    obtain ⟨ad', h, -, hcell⟩ := ha (by omega)
    obtain rfl : ad = ad' := by injection h
    refine hcell j _ ?_
    rw [List.getElem?_map, List.getElem?_eq_getElem hj]
    rfl
theorem OwnB.bytes {base : Nat} {v : Value} {bs : List UInt8} {w : World} (h : OwnB base v bs w) : Bytes v bs w := Row.of_own h
theorem own_keep {base n : Nat} {E : TypeId} {v : Value} {xs : List Value} {w w' : World} (h : w.ownsRow base E 1 v n xs) (hb : Below w.heap.size w w') : w'.ownsRow base E 1 v n xs := by
  have hlt := h.lt
  refine ⟨h.1, ?_⟩
  rcases h.2 with h0 | ⟨g, cap, cur, rfl, h1, hg, h2⟩
  · exact .inl h0
  · exact .inr ⟨g, cap, cur, rfl, h1, (hb.block g (hlt g rfl).2).trans hg, h2⟩
theorem OwnB.keep {base : Nat} {v : Value} {bs : List UInt8} {w w' : World} (h : OwnB base v bs w) (hb : Below w.heap.size w w') : OwnB base v bs w' := own_keep h hb
theorem OwnR.keep {base : Nat} {v : Value} {l : List Int} {w w' : World} (h : OwnR base v l w) (hb : Below w.heap.size w w') : OwnR base v l w' := own_keep h hb
section
variable {P : Program}
/-- 'append(v, src...)': v a row of the call's own, src any slice that can be read. -/
theorem append_row (W : World) (t E : TypeId) (z : Value) (bytes : Nat) (ht : P.underlying t = some (.slice E)) (hi : (P.info? E).map (fun i => (i.zero, i.size, i.bytes)) = some (some z, 1, bytes)) (hz1 : z.cells.size = 1) (hby : bytes ≤ 8)
    (base : Nat) (v : Value) (n : Nat) (xs : List Value) (hown : W.ownsRow base E 1 v n xs) (hbase : base ≤ W.heap.size) (hlen : n ≤ 1000000) (src : Value) (cells : List Value) (hsrc : Row src cells W) (h1 : ∀ u ∈ cells, u.oneCell' = true) (hmm : cells.length ≤ 1000000)
    {ops : Array Oper} {rest : List Oper} {o : Oper} {a : Act} {Q : Exit → Act → World → Prop} (hgd : o.guard = none) (s x : Operand)
    (ho : o.op = .call { callee := .builtin .append, args := #[s, x], argTypes := #[t, t] })
    (hs : a.eval s = v) (hx : a.eval x = src)
    (h : ∀ v' w', w'.ownsRow base E 1 v' (n + cells.length) (xs ++ cells) → Below base W w' → wpList P ops Q rest (a.put o.dst v') w') : wpList P ops Q (o :: rest) a W := by
  obtain ⟨i0, hi0, hz0, hs0, hb0⟩ := info_parts hi
  obtain ⟨A, c, rfl, hc, h0, ha⟩ := hsrc
  cases A with
  | none =>
    have hl0 : cells.length = 0 := by have := h0 rfl; omega
    have hc0 : c = 0 := h0 rfl
    obtain rfl : cells = [] := List.eq_nil_of_length_eq_zero hl0
    subst hc0
    refine wpList_append_own_none hgd s x t ho base E i0 1 ht hi0 v n xs hs hown hx (h v W ?_ (Below.refl _ _))
    simpa using hown
  | some ad =>
    refine wpList_append_own _ hgd s x t ho base E i0 z 1 bytes ht hi0 hz0 hs0 hb0 hz1 (by decide) v n xs hs hown ad cells.length c cells hx (by omega) ?_ h1 (by simp only [maxLen]; omega) ?_ hbase ?_
    · intro j u hj
      have hj' : j < cells.length := (List.getElem?_eq_some_iff.1 hj).1
      obtain ⟨ad', e, -, hcell⟩ := ha (by omega)
      obtain rfl : ad = ad' := by injection e
      exact hcell j u hj
    · have : (n + cells.length) * bytes ≤ (n + cells.length) * 8 := Nat.mul_le_mul_left _ hby
      omega
    · intro v' w' ho' hg _
      exact h v' w' ho' ((Below.refl _ W).grown hg hbase fun k hk => (hown.lt k hk).1)
end
theorem one_bytes (bs : List UInt8) : ∀ u ∈ bs.map byteV, u.oneCell' = true := by
  intro u hu
  obtain ⟨b, -, rfl⟩ := List.mem_map.1 hu
  rfl
theorem one_runes (l : List Int) : ∀ u ∈ l.map runeV, u.oneCell' = true := by
  intro u hu
  obtain ⟨b, -, rfl⟩ := List.mem_map.1 hu
  rfl
/-- A literal of characters. -/
theorem runes_lit (w : World) (l : List Int) : Runes (.slice (some ⟨w.heap.size, 0, none⟩) l.length l.length) l (w.alloc (.cells (l.map runeV).toArray 21)) := by
  refine ⟨some ⟨w.heap.size, 0, none⟩, l.length, by rw [List.length_map], by rw [List.length_map]; exact Nat.le_refl _, fun h => (by cases h), fun _ => ⟨_, rfl, by simp, fun j u hu => ?_⟩⟩
  have e : (⟨w.heap.size, 0, none⟩ : Addr).add j = ⟨w.heap.size, j, none⟩ := by unfold Addr.add; split <;> simp_all
  have hj : j < (l.map runeV).length := (List.getElem?_eq_some_iff.1 hu).1
  rw [e, World.cell?_alloc_at _ _ _ _ (by simp), ← hu]
  simp
end Go.Proofs.YtmbammhkkcnoaaaGreat
namespace Go.Proofs.YtmbammhkkcnoaaaGreat
open Go.RowKit
section
variable {P : Program}
/-- 'append(v, src...)' behind a guard that lets it by: v a row of the call's own, src any slice that can be read. -/
theorem append_row_by (W : World) (t E : TypeId) (z : Value) (bytes : Nat) (ht : P.underlying t = some (.slice E)) (hi : (P.info? E).map (fun i => (i.zero, i.size, i.bytes)) = some (some z, 1, bytes)) (hz1 : z.cells.size = 1) (hby : bytes ≤ 8)
    (base : Nat) (v : Value) (n : Nat) (xs : List Value) (hown : W.ownsRow base E 1 v n xs) (hbase : base ≤ W.heap.size) (hlen : n ≤ 1000000) (src : Value) (cells : List Value) (hsrc : Row src cells W) (h1 : ∀ u ∈ cells, u.oneCell' = true) (hmm : cells.length ≤ 1000000)
    {ops : Array Oper} {rest : List Oper} {o : Oper} {a : Act} {Q : Exit → Act → World → Prop} (s x : Operand) (hw : Region.wanted o (yielded ops a.tmps) = true)
    (ho : o.op = .call { callee := .builtin .append, args := #[s, x], argTypes := #[t, t] })
    (hs : a.eval s = v) (hx : a.eval x = src)
    (h : ∀ v' w', w'.ownsRow base E 1 v' (n + cells.length) (xs ++ cells) → Below base W w' → wpList P ops Q rest (a.put o.dst v') w') : wpList P ops Q (o :: rest) a W := by
  obtain ⟨i0, hi0, hz0, hs0, hb0⟩ := info_parts hi
  obtain ⟨A, c, rfl, hc, h0, ha⟩ := hsrc
  refine wpList_step fun K hK => ?_
  rw [if_pos hw]
  cases A with
  | none =>
    have hl0 : cells.length = 0 := by have := h0 rfl; omega
    have hc0 : c = 0 := h0 rfl
    obtain rfl : cells = [] := List.eq_nil_of_length_eq_zero hl0
    subst hc0
    have hrun := run_append_owned_none (P := P) (w := W) base t o.type E i0 1 ht hi0 v n xs hown
    have hk := hK _ _ (h v W (by simpa using hown) (Below.refl _ _))
    unfold Oper.wp
    simp only [List.length_nil] at hx
    simp [execOp, ho, resolve, invoke, builtin, hs, hx, hrun, Result.andThen]
    exact hk
  | some ad =>
    refine wp_append_own W s x t ho base E i0 z 1 bytes ht hi0 hz0 hs0 hb0 hz1 (by decide) v n xs hs hown ad cells.length c cells hx (by omega) ?_ h1 (by simp only [maxLen]; omega) ?_ hbase ?_
    · intro j u hj
      have hj' : j < cells.length := (List.getElem?_eq_some_iff.1 hj).1
      obtain ⟨ad', e, -, hcell⟩ := ha (by omega)
      obtain rfl : ad = ad' := by injection e
      exact hcell j u hj
    · have : (n + cells.length) * bytes ≤ (n + cells.length) * 8 := Nat.mul_le_mul_left _ hby
      omega
    · intro v' w' ho' hg _
      exact hK _ _ (h v' w' ho' ((Below.refl _ W).grown hg hbase fun k hk => (hown.lt k hk).1))
end
theorem own_empty (w : World) (base : Nat) (hb : base ≤ w.heap.size) : (w.alloc (.cells #[] 21)).ownsRow base 21 1 (.slice (some ⟨w.heap.size, 0, none⟩) 0 0) 0 [] := by
  refine ⟨rfl, .inr ⟨w.heap.size, 0, #[], rfl, hb, ?_, Nat.le_refl _, by simp [maxLen], rfl, rfl⟩⟩
  exact heap_alloc_new w _
theorem OwnR.lower {base base' : Nat} {v : Value} {l : List Int} {w : World} (h : OwnR base v l w) (hb : base' ≤ base) : OwnR base' v l w := by
  refine ⟨h.1, ?_⟩
  rcases h.2 with h0 | ⟨g, cap, cur, h1, h2, h3⟩
  · exact .inl h0
  · exact .inr ⟨g, cap, cur, h1, Nat.le_trans hb h2, h3⟩
theorem ownR_lit (w : World) (base : Nat) (hb : base ≤ w.heap.size) (l : List Int) (hl : l.length ≤ 1000) : OwnR base (.slice (some ⟨w.heap.size, 0, none⟩) l.length l.length) l (w.alloc (.cells (l.map runeV).toArray 21)) := by
  have h := World.ownsRow_lit (size := 1) (e := 21) w (l.map runeV).toArray l.length hb (by simp only [maxLen]; omega) (by simp)
  simpa [OwnR] using h
section
variable {P : Program}
/-- As append_cells, the new block's number spelt otherwise. -/
theorem append_cells_at (W : World) (t E : TypeId) (z : Value) (bytes : Nat) (ht : P.underlying t = some (.slice E)) (hi : (P.info? E).map (fun i => (i.zero, i.size, i.bytes)) = some (some z, 1, bytes)) (hz1 : z.cells.size = 1) (hby : bytes ≤ 8)
    (base : Nat) (v : Value) (n : Nat) (xs : List Value) (hown : W.ownsRow base E 1 v n xs) (hbase : base ≤ W.heap.size) (hlen : n ≤ 1000000) (m : Nat) (hmm : m ≤ 1000) (cells : List Value) (hm : cells.length = m) (h1 : cells.all (fun u => u.oneCell') = true)
    (N : Nat) (hN : N = W.heap.size)
    {ops : Array Oper} {rest : List Oper} {o : Oper} {a : Act} {Q : Exit → Act → World → Prop} (hgd : o.guard = none) (s x : Operand)
    (ho : o.op = .call { callee := .builtin .append, args := #[s, x], argTypes := #[t, t] })
    (hs : a.eval s = v) (hx : a.eval x = .slice (some ⟨N, 0, none⟩) m m)
    (h : ∀ v' w', w'.ownsRow base E 1 v' (n + m) (xs ++ cells) → Below base W w' → wpList P ops Q rest (a.put o.dst v') w') : wpList P ops Q (o :: rest) a (W.alloc (.cells cells.toArray E)) := by
  subst hN
  exact append_cells W t E z bytes ht hi hz1 hby base v n xs hown hbase hlen m hmm cells hm h1 hgd s x ho hs hx h
end
theorem ownR_lit_at (w : World) (base N : Nat) (hN : N = w.heap.size) (hb : base ≤ w.heap.size) (l : List Int) (hl : l.length ≤ 1000) : OwnR base (.slice (some ⟨N, 0, none⟩) l.length l.length) l (w.alloc (.cells (l.map runeV).toArray 21)) := by
  subst hN
  exact ownR_lit w base hb l hl
theorem OwnR.shape {base : Nat} {v : Value} {l : List Int} {w : World} (h : OwnR base v l w) : ∃ (A : Option Addr) (c : Nat), v = .slice A l.length c ∧ (0 < l.length → ∃ g, A = some ⟨g, 0, none⟩ ∧ base ≤ g ∧ g < w.heap.size) := by
  rcases h.2 with ⟨rfl, h0⟩ | ⟨g, cap, cur, rfl, hb, hg, hnc, hcm, hcs, hcur⟩
  · exact ⟨none, 0, by rw [h0], fun hp => by omega⟩
  · exact ⟨some ⟨g, 0, none⟩, cap, rfl, fun _ => ⟨g, rfl, hb, (h.lt g rfl).2⟩⟩
theorem OwnR.cell {base g n c : Nat} {l : List Int} {w : World} (h : OwnR base (.slice (some ⟨g, 0, none⟩) n c) l w) (k : Nat) (hk : k < l.length) : w.cell? ⟨g, k, none⟩ = some (.int .i32 l[k]!) := by
  have hn : n = l.length := by
    rcases h.2 with ⟨h0, -⟩ | ⟨g', cap, cur, h0, -⟩
    · cases h0
    · injection h0
  subst hn
  have := World.ownsRow.cellAt h k (by omega)
  rw [this, List.getElem?_map, List.getElem?_eq_getElem hk, getElem!_pos l k hk]
  rfl
theorem OwnR.free {base g n c : Nat} {l : List Int} {w : World} (h : OwnR base (.slice (some ⟨g, 0, none⟩) n c) l w) (k : Nat) : w.frozen? ⟨g, k, none⟩ = false := by
  have hn : n = l.length := by
    rcases h.2 with ⟨h0, -⟩ | ⟨g', cap, cur, h0, -⟩
    · cases h0
    · injection h0
  subst hn
  exact World.ownsRow.frozenAt h k
theorem OwnR.put {base g n c : Nat} {l : List Int} {w : World} (h : OwnR base (.slice (some ⟨g, 0, none⟩) n c) l w) (k : Nat) (x : Int) : OwnR base (.slice (some ⟨g, 0, none⟩) n c) (l.set k x) (w.setCell ⟨g, k, none⟩ (.int .i32 x)) := by
  have hn : n = l.length := by
    rcases h.2 with ⟨h0, -⟩ | ⟨g', cap, cur, h0, -⟩
    · cases h0
    · injection h0
  subst hn
  have := (World.ownsRow.stored h k (.int .i32 x)).1
  unfold OwnR
  rw [List.length_set, List.map_set]
  exact this
theorem OwnR.drewN {base : Nat} {v : Value} {l : List Int} {w : World} (h : OwnR base v l w) (n : Nat) : OwnR base v l (w.drewN n) := h
theorem OwnR.drew {base : Nat} {v : Value} {l : List Int} {w : World} (h : OwnR base v l w) : OwnR base v l w.drew := h
theorem runes_lit_at (w : World) (N : Nat) (hN : N = w.heap.size) (l : List Int) : Runes (.slice (some ⟨N, 0, none⟩) l.length l.length) l (w.alloc (.cells (l.map runeV).toArray 21)) := by
  subst hN
  exact runes_lit w l
end Go.Proofs.YtmbammhkkcnoaaaGreat
namespace Go.Proofs.YtmbammhkkcnoaaaGreat
open Go.RowKit
/-- All but v's own row is as it was; v' lies there, or in what is new. -/
structure Grew (v v' : Value) (w w' : World) : Prop where
  os : w'.os = w.os
  tape : w'.tape = w.tape
  output : w'.output = w.output
  size : w.heap.size ≤ w'.heap.size
  block : ∀ k, k < w.heap.size → some k ≠ v.ownBlock → w'.heap[k]? = w.heap[k]?
  place : ∀ k, v'.ownBlock = some k → v.ownBlock = some k ∨ w.heap.size ≤ k
theorem Grew.refl (v : Value) (w : World) : Grew v v w w := ⟨rfl, rfl, rfl, Nat.le_refl _, fun _ _ _ => rfl, fun _ h => .inl h⟩
theorem Grew.trans {v v1 v2 : Value} {w w1 w2 : World} (h : Grew v v1 w w1) (k : Grew v1 v2 w1 w2) : Grew v v2 w w2 := by
  refine ⟨k.os.trans h.os, k.tape.trans h.tape, k.output.trans h.output, Nat.le_trans h.size k.size, fun i hi hne => ?_, fun i hi => ?_⟩
  · refine (k.block i (Nat.lt_of_lt_of_le hi h.size) fun e => ?_).trans (h.block i hi hne)
    rcases h.place i e.symm with h1 | h1
    · exact hne h1.symm
    · omega
  · rcases k.place i hi with h1 | h1
    · exact h.place i h1
    · exact .inr (Nat.le_trans h.size h1)
theorem Grew.of_below {w w' : World} (h : Below w.heap.size w w') (v : Value) : Grew v v w w' := ⟨h.os, h.tape, h.output, h.size, fun k hk _ => h.block k hk, fun _ h => .inl h⟩
theorem Grew.below {v v' : Value} {w w' : World} (h : Grew v v' w w') {base : Nat} (hb : base ≤ w.heap.size) (hv : ∀ k, v.ownBlock = some k → base ≤ k) : Below base w w' :=
  ⟨h.os, h.tape, h.output, h.size, fun k hk => h.block k (by omega) fun e => by have := hv k e.symm; omega⟩
theorem Grew.cell {v v' : Value} {w w' : World} (h : Grew v v' w w') {p : Addr} (hp : p.block < w.heap.size) (hv : some p.block ≠ v.ownBlock) : w'.cell? p = w.cell? p := World.cell?_of_block (h.block p.block hp hv)
theorem OwnR.off {base : Nat} {v : Value} {l : List Int} {w : World} (h : OwnR base v l w) : ∀ k, v.ownBlock = some k → base ≤ k := fun k hk => (World.ownsRow.lt h k hk).1
theorem OwnR.under {base : Nat} {v : Value} {l : List Int} {w : World} (h : OwnR base v l w) {n : Nat} (hn : w.heap.size ≤ n) : some n ≠ v.ownBlock := fun e => by have := (World.ownsRow.lt h n e.symm).2; omega
section
variable {P : Program}
/-- 'append(v, x, ..)': v a row of the call's own; what else there is stays. -/
theorem append_lit (W : World) (t E : TypeId) (z : Value) (bytes : Nat) (ht : P.underlying t = some (.slice E)) (hi : (P.info? E).map (fun i => (i.zero, i.size, i.bytes)) = some (some z, 1, bytes)) (hz1 : z.cells.size = 1) (hby : bytes ≤ 8)
    (base : Nat) (v : Value) (n : Nat) (xs : List Value) (hown : W.ownsRow base E 1 v n xs) (hbase : base ≤ W.heap.size) (hlen : n ≤ 1000000) (m : Nat) (hmm : m ≤ 1000) (cells : List Value) (hm : cells.length = m) (h1 : cells.all (fun u => u.oneCell') = true)
    (N : Nat) (hN : N = W.heap.size)
    {ops : Array Oper} {rest : List Oper} {o : Oper} {a : Act} {Q : Exit → Act → World → Prop} (hgd : o.guard = none) (s x : Operand)
    (ho : o.op = .call { callee := .builtin .append, args := #[s, x], argTypes := #[t, t] })
    (hs : a.eval s = v) (hx : a.eval x = .slice (some ⟨N, 0, none⟩) m m)
    (h : ∀ v' w', w'.ownsRow base E 1 v' (n + m) (xs ++ cells) → Grew v v' W w' → wpList P ops Q rest (a.put o.dst v') w') : wpList P ops Q (o :: rest) a (W.alloc (.cells cells.toArray E)) := by
  subst hN
  obtain ⟨i0, hi0, hz0, hs0, hb0⟩ := info_parts hi
  have hown' := hown.alloc (.cells cells.toArray E)
  refine wpList_append_own_at _ hgd s x t ho base E i0 z 1 bytes ht hi0 hz0 hs0 hb0 hz1 (by decide) v n xs hs hown' ⟨W.heap.size, 0, none⟩ m m cells hx (by omega) ?_ (fun u hu => List.all_eq_true.1 h1 u hu) (by simp only [maxLen]; omega) ?_ (by simp; omega) ?_
  · intro j u hj
    have e : (⟨W.heap.size, 0, none⟩ : Addr).add j = ⟨W.heap.size, j, none⟩ := by unfold Addr.add; split <;> simp_all
    have hj' : j < cells.length := (List.getElem?_eq_some_iff.1 hj).1
    rw [e, World.cell?_alloc_at _ _ _ _ (by simp)]
    rw [← hj]; simp [List.getElem?_eq_getElem hj']
  · have : (n + m) * bytes ≤ (n + m) * 8 := Nat.mul_le_mul_left _ hby
    omega
  · intro v' w' ho' hg _ hat
    have hsz : (W.alloc (.cells cells.toArray E)).heap.size = W.heap.size + 1 := by simp
    refine h v' w' ho' ⟨hg.os, hg.tape, hg.output, by have := hg.size; omega, fun k hk hne => (hg.block k (by omega) hne).trans (heap_alloc_old W _ hk), fun k hk => ?_⟩
    rcases hat with e | e
    · exact .inl (by rw [← e]; exact hk)
    · rw [e] at hk
      injection hk with hk
      exact .inr (by omega)
end
theorem Grew.put (g n c k : Nat) (x : Value) (w : World) : Grew (.slice (some ⟨g, 0, none⟩) n c) (.slice (some ⟨g, 0, none⟩) n c) w (w.setCell ⟨g, k, none⟩ x) := by
  have hb : Below g w (w.setCell ⟨g, k, none⟩ x) := (Below.refl g w).setCell (p := ⟨g, k, none⟩) (Nat.le_refl _) x
  refine ⟨hb.os, hb.tape, hb.output, hb.size, fun j hj hne => ?_, fun _ h => .inl h⟩
  exact Below.heap_setCell _ _ _ _ (fun e => hne (by rw [e]; rfl))
theorem OwnB.off {base : Nat} {v : Value} {l : List UInt8} {w : World} (h : OwnB base v l w) : ∀ k, v.ownBlock = some k → base ≤ k := fun k hk => (World.ownsRow.lt h k hk).1
theorem OwnB.under {base : Nat} {v : Value} {l : List UInt8} {w : World} (h : OwnB base v l w) {n : Nat} (hn : w.heap.size ≤ n) : some n ≠ v.ownBlock := fun e => by have := (World.ownsRow.lt h n e.symm).2; omega
end Go.Proofs.YtmbammhkkcnoaaaGreat
