/-
  Proved here: small facts on memory: rows of bytes and of characters that a call owns, slices that can be read, and what appends leave of them. Conditions: as they stand in each.
-/
import Derived.Test.YtkcabnodhdhaaaaDoorBase
import Derived.WalkKit
import Derived.WalkSpells
import Derived.WalkLawsBesides
import Derived.Maps.AppendAt
import Derived.Deep.AppendLies
import Derived.RegionTactic
import Derived.OwnWalk
import Derived.Laws.OwnMore
import Derived.Laws.IdiomStrings
import Derived.Deep.Draws
import Derived.Lib.Hide
namespace Go.Proofs.YtkcabnodhdhaaaaDoor
open Go.RowKit
def byteV (b : UInt8) : Value := .int .u8 (b.toNat : Int)
def runeV (r : Int) : Value := .int .i32 r
theorem info_u8 : (Tryd.prog.info? 5).map (fun i => (i.zero, i.size, i.bytes)) = some (some (.int .u8 0), 1, 1) := by kernel_rfl
theorem info_i32 : (Tryd.prog.info? 21).map (fun i => (i.zero, i.size, i.bytes)) = some (some (.int .i32 0), 1, 4) := by kernel_rfl
/-- v owns the bytes bs: v is nil, or its row is one of the blocks from base on. -/
def OwnB (base : Nat) (v : Value) (bs : List UInt8) (w : World) : Prop := w.ownsRow base 5 1 v bs.length (bs.map byteV)
/-- The same of characters. -/
def OwnR (base : Nat) (v : Value) (l : List Int) (w : World) : Prop := w.ownsRow base 21 1 v l.length (l.map runeV)
section
variable {P : Program}
theorem append_cells (W : World) (t E : TypeId) (z : Value) (bytes : Nat) (ht : P.underlying t = some (.slice E)) (hi : (P.info? E).map (fun i => (i.zero, i.size, i.bytes)) = some (some z, 1, bytes)) (hz1 : z.cells.size = 1) (hby : bytes ≤ 8)
    (base : Nat) (v : Value) (n : Nat) (xs : List Value) (hown : W.ownsRow base E 1 v n xs) (hbase : base ≤ W.heap.size) (hlen : n ≤ 1000000) (m : Nat) (hmm : m ≤ 1000) (cells : List Value) (hm : cells.length = m) (h1 : cells.all (fun u => u.oneCell') = true)
    {ops : Array Oper} {rest : List Oper} {o : Oper} {a : Act} {Q : Exit → Act → World → Prop} (hgd : o.guard = none) (s x : Operand)
    (ho : o.op = .call { callee := .builtin .append, args := #[s, x], argTypes := #[t, t] })
    (hs : a.eval s = v) (hx : a.eval x = .slice (some ⟨W.heap.size, 0, none⟩) m m)
    (h : ∀ v' w', w'.ownsRow base E 1 v' (n + m) (xs ++ cells) → Below base W w' → wpList P ops Q rest (a.put o.dst v') w') : wpList P ops Q (o :: rest) a (W.alloc (.cells cells.toArray E)) := by
  obtain ⟨i0, hi0, hz0, hs0, hb0⟩ := info_parts hi
  have hown' := hown.alloc (.cells cells.toArray E)
  refine wpList_append_own _ hgd s x t ho base E i0 z 1 bytes ht hi0 hz0 hs0 hb0 hz1 (by decide) v n xs hs hown' ⟨W.heap.size, 0, none⟩ m m cells hx (by omega) ?_ (fun u hu => List.all_eq_true.1 h1 u hu) (by simp only [maxLen]; omega) ?_ (by simp; omega) ?_
  · intro j u hj
    have e : (⟨W.heap.size, 0, none⟩ : Addr).add j = ⟨W.heap.size, j, none⟩ := by unfold Addr.add; split <;> simp_all
    have hj' : j < cells.length := (List.getElem?_eq_some_iff.1 hj).1
    rw [e, World.cell?_alloc_at _ _ _ _ (by simp)]
    rw [← hj]; simp [List.getElem?_eq_getElem hj']
  · have : (n + m) * bytes ≤ (n + m) * 8 := Nat.mul_le_mul_left _ hby
    omega
  · intro v' w' ho' hg _
    refine h v' w' ho' (((Below.refl _ W).alloc hbase _).grown hg (by simp; omega) fun k hk => (hown'.lt k hk).1)
end
theorem OwnB.more {base : Nat} {v : Value} {bs ns : List UInt8} {w : World} {m : Nat} {cells : List Value} (h : w.ownsRow base 5 1 v (bs.length + m) (bs.map byteV ++ cells)) (hc : cells = ns.map byteV) (hm : m = ns.length) : OwnB base v (bs ++ ns) w := by
  subst hc hm
  unfold OwnB
  rw [List.length_append, List.map_append]
  exact h
theorem OwnR.more {base : Nat} {v : Value} {l ns : List Int} {w : World} {m : Nat} {cells : List Value} (h : w.ownsRow base 21 1 v (l.length + m) (l.map runeV ++ cells)) (hc : cells = ns.map runeV) (hm : m = ns.length) : OwnR base v (l ++ ns) w := by
  subst hc hm
  unfold OwnR
  rw [List.length_append, List.map_append]
  exact h
theorem OwnB.nil (base : Nat) (w : World) : OwnB base (.slice none 0 0) [] w := World.ownsRow_nil w base _ _
theorem OwnR.nil (base : Nat) (w : World) : OwnR base (.slice none 0 0) [] w := World.ownsRow_nil w base _ _
end Go.Proofs.YtkcabnodhdhaaaaDoor
