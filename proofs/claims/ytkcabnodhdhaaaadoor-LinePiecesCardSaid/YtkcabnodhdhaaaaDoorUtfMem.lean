/-
  Proved here: a slice that can be read, whatever its address, and what keeps it so; a scope that is left ahead by a goto to one label. Conditions: as they stand in each.
-/
import Derived.Test.YtkcabnodhdhaaaaDoorUtfOwn
import Derived.WalkMore
import Derived.ScopeJumps
import Derived.Laws.BytesArg
import Derived.Laws.AppendOwnNone
namespace Go.Proofs.YtkcabnodhdhaaaaDoor
open Go.RowKit
section
variable {P : Program} {Q : Exit → Act → World → Prop} {a : Act} {w : World}
/-- A run that goes ahead to label l goes on with what stands behind it. -/
theorem wp_ahead {c rest : Code} (l : Nat) (hf : findLabel c l = some rest)
    (h : c.wp P (Exit.jump l (fun a' w' => rest.wp P (Exit.noGoto Q) a' w') Q) a w) : (Code.scope c).wp P Q a w := by
  refine wp_scope_jumps l _ (fun _ _ => 0) hf h fun a' w' hJ => wp_mono hJ ?_
  intro e a2 w2 hq
  cases e with
  | goto l' => exact hq.elim
  | _ => exact hq
theorem jump_goto (l : Nat) (J : Act → World → Prop) : Exit.jump l J Q (.goto l) a w = J a w := by
  show (l = l ∧ J a w) = _
  simp
theorem jump_normal (l : Nat) (J : Act → World → Prop) : Exit.jump l J Q .normal a w = Q .normal a w := rfl
theorem jump_ret (l : Nat) (J : Act → World → Prop) : Exit.jump l J Q .ret a w = Q .ret a w := rfl
end
theorem add_block (a : Addr) (n : Nat) : (a.add n).block = a.block := by unfold Addr.add; split <;> rfl
/-- v is a slice that reads xs, one cell each. -/
def Row (v : Value) (xs : List Value) (w : World) : Prop :=
  ∃ (A : Option Addr) (c : Nat), v = .slice A xs.length c ∧ xs.length ≤ c ∧ (A = none → c = 0) ∧ (0 < xs.length → ∃ ad, A = some ad ∧ ad.block < w.heap.size ∧ ∀ j u, xs[j]? = some u → w.cell? (ad.add j) = some u)
theorem Row.keep {v : Value} {xs : List Value} {w w' : World} (h : Row v xs w) (hb : Below w.heap.size w w') : Row v xs w' := by
  obtain ⟨A, c, rfl, hc, h0, ha⟩ := h
  refine ⟨A, c, rfl, hc, h0, fun hp => ?_⟩
  obtain ⟨ad, rfl, hlt, hcell⟩ := ha hp
  exact ⟨ad, rfl, Nat.lt_of_lt_of_le hlt hb.size, fun j u hu => (hb.cell (by rw [add_block]; exact hlt)).trans (hcell j u hu)⟩
theorem Row.of_own {v : Value} {xs : List Value} {w : World} {base n : Nat} {E : TypeId} (h : w.ownsRow base E 1 v n xs) : Row v xs w := by
  have hx : xs.length = n := by have := h.1; omega
  subst hx
  rcases h.2 with ⟨rfl, h0⟩ | ⟨g, cap, cur, rfl, hb, hg, hnc, hcm, hcs, hcur⟩
  · exact ⟨none, 0, by rw [h0], by omega, fun _ => rfl, fun hp => absurd hp (by omega)⟩
  · refine ⟨some ⟨g, 0, none⟩, cap, rfl, hnc, fun h => (by cases h), fun _ => ⟨_, rfl, (h.lt g rfl).2, fun j u hu => ?_⟩⟩
    exact h.cells (g := g) rfl j u hu
def Bytes (v : Value) (bs : List UInt8) (w : World) : Prop := Row v (bs.map byteV) w
def Runes (v : Value) (l : List Int) (w : World) : Prop := Row v (l.map runeV) w
theorem Runes.keep {v : Value} {l : List Int} {w w' : World} (h : Runes v l w) (hb : Below w.heap.size w w') : Runes v l w' := Row.keep h hb
/-- What a walk asks of it. -/
theorem Runes.form {v : Value} {l : List Int} {w : World} (h : Runes v l w) : ∃ (A : Option Addr) (c : Nat), v = .slice A l.length c ∧ l.length ≤ c ∧
    (∀ k, k < l.length → ∃ ad, A = some ad ∧ ad.block < w.heap.size ∧ w.cell? (ad.add k) = some (.int .i32 l[k]!)) := by
  obtain ⟨A, c, rfl, hc, -, ha⟩ := h
  simp only [List.length_map] at ha hc ⊢
  refine ⟨A, c, rfl, hc, fun k hk => ?_⟩
  obtain ⟨ad, rfl, hlt, hcell⟩ := ha (by omega)
  refine ⟨ad, rfl, hlt, hcell k _ ?_⟩
  rw [List.getElem?_map, List.getElem?_eq_getElem hk, getElem!_pos l k hk]
  rfl
theorem OwnR.runes {base : Nat} {v : Value} {l : List Int} {w : World} (h : OwnR base v l w) : Runes v l w := Row.of_own h
/-- 'string(b)' of bytes that can be read. -/
theorem string_of {v : Value} {bs : List UInt8} {w : World} (h : Bytes v bs w) : (convert 43 9 v).run Tryd.prog w = .ok (.string ⟨bs.toArray⟩) w := by
  obtain ⟨A, c, rfl, hc, -, ha⟩ := h
  simp only [List.length_map] at ha hc ⊢
  cases A with
  | none =>
    have h0 : bs.length = 0 := by
      rcases Nat.eq_zero_or_pos bs.length with h0 | h0
      · exact h0
      · obtain ⟨ad, h, -⟩ := ha h0; cases h
    rw [run_convert_bytes_nil (P := Tryd.prog) w 43 5 Tryd.underlying43 Tryd.underlying5 bs.length c 9 Tryd.underlying9, List.eq_nil_of_length_eq_zero h0]
    rfl
  | some ad =>
    refine run_convert_bytes_back w 43 9 5 ad c bs Tryd.underlying43 Tryd.underlying5 Tryd.underlying9 fun j hj => ?_
    obtain ⟨ad', h, -, hcell⟩ := ha (by omega)
    obtain rfl : ad = ad' := by injection h
    refine hcell j _ ?_
    rw [List.getElem?_map, List.getElem?_eq_getElem hj]
    rfl
theorem OwnB.bytes {base : Nat} {v : Value} {bs : List UInt8} {w : World} (h : OwnB base v bs w) : Bytes v bs w := Row.of_own h
theorem own_keep {base n : Nat} {E : TypeId} {v : Value} {xs : List Value} {w w' : World} (h : w.ownsRow base E 1 v n xs) (hb : Below w.heap.size w w') : w'.ownsRow base E 1 v n xs := by
  have hlt := h.lt
  refine ⟨h.1, ?_⟩
  rcases h.2 with h0 | ⟨g, cap, cur, rfl, h1, hg, h2⟩
  · exact .inl h0
  · exact .inr ⟨g, cap, cur, rfl, h1, (hb.block g (hlt g rfl).2).trans hg, h2⟩
theorem OwnB.keep {base : Nat} {v : Value} {bs : List UInt8} {w w' : World} (h : OwnB base v bs w) (hb : Below w.heap.size w w') : OwnB base v bs w' := own_keep h hb
theorem OwnR.keep {base : Nat} {v : Value} {l : List Int} {w w' : World} (h : OwnR base v l w) (hb : Below w.heap.size w w') : OwnR base v l w' := own_keep h hb
section
variable {P : Program}
/-- 'append(v, src...)': v a row of the call's own, src any slice that can be read. -/
theorem append_row (W : World) (t E : TypeId) (z : Value) (bytes : Nat) (ht : P.underlying t = some (.slice E)) (hi : (P.info? E).map (fun i => (i.zero, i.size, i.bytes)) = some (some z, 1, bytes)) (hz1 : z.cells.size = 1) (hby : bytes ≤ 8)
    (base : Nat) (v : Value) (n : Nat) (xs : List Value) (hown : W.ownsRow base E 1 v n xs) (hbase : base ≤ W.heap.size) (hlen : n ≤ 1000000) (src : Value) (cells : List Value) (hsrc : Row src cells W) (h1 : ∀ u ∈ cells, u.oneCell' = true) (hmm : cells.length ≤ 1000000)
    {ops : Array Oper} {rest : List Oper} {o : Oper} {a : Act} {Q : Exit → Act → World → Prop} (hgd : o.guard = none) (s x : Operand)
    (ho : o.op = .call { callee := .builtin .append, args := #[s, x], argTypes := #[t, t] })
    (hs : a.eval s = v) (hx : a.eval x = src)
    (h : ∀ v' w', w'.ownsRow base E 1 v' (n + cells.length) (xs ++ cells) → Below base W w' → wpList P ops Q rest (a.put o.dst v') w') : wpList P ops Q (o :: rest) a W := by
  obtain ⟨i0, hi0, hz0, hs0, hb0⟩ := info_parts hi
  obtain ⟨A, c, rfl, hc, h0, ha⟩ := hsrc
  cases A with
  | none =>
    have hl0 : cells.length = 0 := by have := h0 rfl; omega
    have hc0 : c = 0 := h0 rfl
    obtain rfl : cells = [] := List.eq_nil_of_length_eq_zero hl0
    subst hc0
    refine wpList_append_own_none hgd s x t ho base E i0 1 ht hi0 v n xs hs hown hx (h v W ?_ (Below.refl _ _))
    simpa using hown
  | some ad =>
    refine wpList_append_own _ hgd s x t ho base E i0 z 1 bytes ht hi0 hz0 hs0 hb0 hz1 (by decide) v n xs hs hown ad cells.length c cells hx (by omega) ?_ h1 (by simp only [maxLen]; omega) ?_ hbase ?_
    · intro j u hj
      have hj' : j < cells.length := (List.getElem?_eq_some_iff.1 hj).1
      obtain ⟨ad', e, -, hcell⟩ := ha (by omega)
      obtain rfl : ad = ad' := by injection e
      exact hcell j u hj
    · have : (n + cells.length) * bytes ≤ (n + cells.length) * 8 := Nat.mul_le_mul_left _ hby
      omega
    · intro v' w' ho' hg _
      exact h v' w' ho' ((Below.refl _ W).grown hg hbase fun k hk => (hown.lt k hk).1)
end
theorem one_bytes (bs : List UInt8) : ∀ u ∈ bs.map byteV, u.oneCell' = true := by
  intro u hu
  obtain ⟨b, -, rfl⟩ := List.mem_map.1 hu
  rfl
theorem one_runes (l : List Int) : ∀ u ∈ l.map runeV, u.oneCell' = true := by
  intro u hu
  obtain ⟨b, -, rfl⟩ := List.mem_map.1 hu
  rfl
/-- A literal of characters. -/
theorem runes_lit (w : World) (l : List Int) : Runes (.slice (some ⟨w.heap.size, 0, none⟩) l.length l.length) l (w.alloc (.cells (l.map runeV).toArray 21)) := by
  refine ⟨some ⟨w.heap.size, 0, none⟩, l.length, by rw [List.length_map], by rw [List.length_map]; exact Nat.le_refl _, fun h => (by cases h), fun _ => ⟨_, rfl, by simp, fun j u hu => ?_⟩⟩
  have e : (⟨w.heap.size, 0, none⟩ : Addr).add j = ⟨w.heap.size, j, none⟩ := by unfold Addr.add; split <;> simp_all
  have hj : j < (l.map runeV).length := (List.getElem?_eq_some_iff.1 hu).1
  rw [e, World.cell?_alloc_at _ _ _ _ (by simp), ← hu]
  simp
end Go.Proofs.YtkcabnodhdhaaaaDoor
