/-
  Proved here: an append that leaves all but its own row as it was. Conditions: as they stand in each.
-/
import Derived.Test.YtkcabnodhdhaaaaDoorUtfMore
import Derived.Maps.AppendAt
namespace Go.Proofs.YtkcabnodhdhaaaaDoor
open Go.RowKit
/-- All but v's own row is as it was; v' lies there, or in what is new. -/
structure Grew (v v' : Value) (w w' : World) : Prop where
  os : w'.os = w.os
  tape : w'.tape = w.tape
  output : w'.output = w.output
  size : w.heap.size ≤ w'.heap.size
  block : ∀ k, k < w.heap.size → some k ≠ v.ownBlock → w'.heap[k]? = w.heap[k]?
  place : ∀ k, v'.ownBlock = some k → v.ownBlock = some k ∨ w.heap.size ≤ k
theorem Grew.refl (v : Value) (w : World) : Grew v v w w := ⟨rfl, rfl, rfl, Nat.le_refl _, fun _ _ _ => rfl, fun _ h => .inl h⟩
theorem Grew.trans {v v1 v2 : Value} {w w1 w2 : World} (h : Grew v v1 w w1) (k : Grew v1 v2 w1 w2) : Grew v v2 w w2 := by
  refine ⟨k.os.trans h.os, k.tape.trans h.tape, k.output.trans h.output, Nat.le_trans h.size k.size, fun i hi hne => ?_, fun i hi => ?_⟩
  · refine (k.block i (Nat.lt_of_lt_of_le hi h.size) fun e => ?_).trans (h.block i hi hne)
    rcases h.place i e.symm with h1 | h1
    · exact hne h1.symm
    · omega
  · rcases k.place i hi with h1 | h1
    · exact h.place i h1
    · exact .inr (Nat.le_trans h.size h1)
theorem Grew.of_below {w w' : World} (h : Below w.heap.size w w') (v : Value) : Grew v v w w' := ⟨h.os, h.tape, h.output, h.size, fun k hk _ => h.block k hk, fun _ h => .inl h⟩
theorem Grew.below {v v' : Value} {w w' : World} (h : Grew v v' w w') {base : Nat} (hb : base ≤ w.heap.size) (hv : ∀ k, v.ownBlock = some k → base ≤ k) : Below base w w' :=
  ⟨h.os, h.tape, h.output, h.size, fun k hk => h.block k (by omega) fun e => by have := hv k e.symm; omega⟩
theorem Grew.cell {v v' : Value} {w w' : World} (h : Grew v v' w w') {p : Addr} (hp : p.block < w.heap.size) (hv : some p.block ≠ v.ownBlock) : w'.cell? p = w.cell? p := World.cell?_of_block (h.block p.block hp hv)
theorem OwnR.off {base : Nat} {v : Value} {l : List Int} {w : World} (h : OwnR base v l w) : ∀ k, v.ownBlock = some k → base ≤ k := fun k hk => (World.ownsRow.lt h k hk).1
theorem OwnR.under {base : Nat} {v : Value} {l : List Int} {w : World} (h : OwnR base v l w) {n : Nat} (hn : w.heap.size ≤ n) : some n ≠ v.ownBlock := fun e => by have := (World.ownsRow.lt h n e.symm).2; omega
section
variable {P : Program}
/-- 'append(v, x, ..)': v a row of the call's own; what else there is stays. -/
theorem append_lit (W : World) (t E : TypeId) (z : Value) (bytes : Nat) (ht : P.underlying t = some (.slice E)) (hi : (P.info? E).map (fun i => (i.zero, i.size, i.bytes)) = some (some z, 1, bytes)) (hz1 : z.cells.size = 1) (hby : bytes ≤ 8)
    (base : Nat) (v : Value) (n : Nat) (xs : List Value) (hown : W.ownsRow base E 1 v n xs) (hbase : base ≤ W.heap.size) (hlen : n ≤ 1000000) (m : Nat) (hmm : m ≤ 1000) (cells : List Value) (hm : cells.length = m) (h1 : cells.all (fun u => u.oneCell') = true)
    (N : Nat) (hN : N = W.heap.size)
    {ops : Array Oper} {rest : List Oper} {o : Oper} {a : Act} {Q : Exit → Act → World → Prop} (hgd : o.guard = none) (s x : Operand)
    (ho : o.op = .call { callee := .builtin .append, args := #[s, x], argTypes := #[t, t] })
    (hs : a.eval s = v) (hx : a.eval x = .slice (some ⟨N, 0, none⟩) m m)
    (h : ∀ v' w', w'.ownsRow base E 1 v' (n + m) (xs ++ cells) → Grew v v' W w' → wpList P ops Q rest (a.put o.dst v') w') : wpList P ops Q (o :: rest) a (W.alloc (.cells cells.toArray E)) := by
  subst hN
  obtain ⟨i0, hi0, hz0, hs0, hb0⟩ := info_parts hi
  have hown' := hown.alloc (.cells cells.toArray E)
  refine wpList_append_own_at _ hgd s x t ho base E i0 z 1 bytes ht hi0 hz0 hs0 hb0 hz1 (by decide) v n xs hs hown' ⟨W.heap.size, 0, none⟩ m m cells hx (by omega) ?_ (fun u hu => List.all_eq_true.1 h1 u hu) (by simp only [maxLen]; omega) ?_ (by simp; omega) ?_
  · intro j u hj
    have e : (⟨W.heap.size, 0, none⟩ : Addr).add j = ⟨W.heap.size, j, none⟩ := by unfold Addr.add; split <;> simp_all
    have hj' : j < cells.length := (List.getElem?_eq_some_iff.1 hj).1
    rw [e, World.cell?_alloc_at _ _ _ _ (by simp)]
    rw [← hj]; simp [List.getElem?_eq_getElem hj']
  · have : (n + m) * bytes ≤ (n + m) * 8 := Nat.mul_le_mul_left _ hby
    omega
  · intro v' w' ho' hg _ hat
    have hsz : (W.alloc (.cells cells.toArray E)).heap.size = W.heap.size + 1 := by simp
    refine h v' w' ho' ⟨hg.os, hg.tape, hg.output, by have := hg.size; omega, fun k hk hne => (hg.block k (by omega) hne).trans (heap_alloc_old W _ hk), fun k hk => ?_⟩
    rcases hat with e | e
    · exact .inl (by rw [← e]; exact hk)
    · rw [e] at hk
      injection hk with hk
      exact .inr (by omega)
end
theorem Grew.put (g n c k : Nat) (x : Value) (w : World) : Grew (.slice (some ⟨g, 0, none⟩) n c) (.slice (some ⟨g, 0, none⟩) n c) w (w.setCell ⟨g, k, none⟩ x) := by
  have hb : Below g w (w.setCell ⟨g, k, none⟩ x) := (Below.refl g w).setCell (p := ⟨g, k, none⟩) (Nat.le_refl _) x
  refine ⟨hb.os, hb.tape, hb.output, hb.size, fun j hj hne => ?_, fun _ h => .inl h⟩
  exact Below.heap_setCell _ _ _ _ (fun e => hne (by rw [e]; rfl))
theorem OwnB.off {base : Nat} {v : Value} {l : List UInt8} {w : World} (h : OwnB base v l w) : ∀ k, v.ownBlock = some k → base ≤ k := fun k hk => (World.ownsRow.lt h k hk).1
theorem OwnB.under {base : Nat} {v : Value} {l : List UInt8} {w : World} (h : OwnB base v l w) {n : Nat} (hn : w.heap.size ≤ n) : some n ≠ v.ownBlock := fun e => by have := (World.ownsRow.lt h n e.symm).2; omega
end Go.Proofs.YtkcabnodhdhaaaaDoor
