/-
  Proved here: rows of strings that a call owns, and slices of strings that can be read. Conditions: as they stand in each.
-/
import Derived.Test.YtkcabnodhdhaaaaDoorUtfMore
namespace Go.Proofs.YtkcabnodhdhaaaaDoor
open Go.RowKit
def strV (bs : List UInt8) : Value := .string ⟨bs.toArray⟩
theorem info_str : (Tryd.prog.info? 9).map (fun i => (i.zero, i.size, i.bytes)) = some (some (.string ⟨#[]⟩), 1, 16) := by kernel_rfl
/-- v is a slice that reads the strings l. -/
def Strs (v : Value) (l : List (List UInt8)) (w : World) : Prop := Row v (l.map strV) w
def OwnS (base : Nat) (v : Value) (l : List (List UInt8)) (w : World) : Prop := w.ownsRow base 9 1 v l.length (l.map strV)
theorem Strs.keep {v : Value} {l : List (List UInt8)} {w w' : World} (h : Strs v l w) (hb : Below w.heap.size w w') : Strs v l w' := Row.keep h hb
theorem OwnS.strs {base : Nat} {v : Value} {l : List (List UInt8)} {w : World} (h : OwnS base v l w) : Strs v l w := Row.of_own h
theorem OwnS.keep {base : Nat} {v : Value} {l : List (List UInt8)} {w w' : World} (h : OwnS base v l w) (hb : Below w.heap.size w w') : OwnS base v l w' := own_keep h hb
theorem Strs.nil (w : World) : Strs (.slice none 0 0) [] w := ⟨none, 0, rfl, Nat.le_refl _, fun _ => rfl, fun h => absurd h (by simp)⟩
/-- What a walk asks of it. -/
theorem Strs.form {v : Value} {l : List (List UInt8)} {w : World} (h : Strs v l w) : ∃ (A : Option Addr) (c : Nat), v = .slice A l.length c ∧ l.length ≤ c ∧
    (∀ k, k < l.length → ∃ ad, A = some ad ∧ ad.block < w.heap.size ∧ w.cell? (ad.add k) = some (strV l[k]!)) := by
  obtain ⟨A, c, rfl, hc, -, ha⟩ := h
  simp only [List.length_map] at ha hc ⊢
  refine ⟨A, c, rfl, hc, fun k hk => ?_⟩
  obtain ⟨ad, rfl, hlt, hcell⟩ := ha (by omega)
  refine ⟨ad, rfl, hlt, hcell k _ ?_⟩
  rw [List.getElem?_map, List.getElem?_eq_getElem hk, getElem!_pos l k hk]
  rfl
theorem ownS_lit (w : World) (base N : Nat) (hN : N = w.heap.size) (hb : base ≤ w.heap.size) (l : List (List UInt8)) (hl : l.length ≤ 1000) : OwnS base (.slice (some ⟨N, 0, none⟩) l.length l.length) l (w.alloc (.cells (l.map strV).toArray 9)) := by
  subst hN
  have h := World.ownsRow_lit (size := 1) (e := 9) w (l.map strV).toArray l.length hb (by simp only [maxLen]; omega) (by simp)
  simpa [OwnS] using h
theorem OwnS.shape {base : Nat} {v : Value} {l : List (List UInt8)} {w : World} (h : OwnS base v l w) : ∃ (A : Option Addr) (c : Nat), v = .slice A l.length c ∧ (0 < l.length → ∃ g, A = some ⟨g, 0, none⟩ ∧ base ≤ g ∧ g < w.heap.size) := by
  rcases h.2 with ⟨rfl, h0⟩ | ⟨g, cap, cur, rfl, hb, hg, hnc, hcm, hcs, hcur⟩
  · exact ⟨none, 0, by rw [h0], fun hp => by omega⟩
  · exact ⟨some ⟨g, 0, none⟩, cap, rfl, fun _ => ⟨g, rfl, hb, (h.lt g rfl).2⟩⟩
theorem OwnS.cell {base g n c : Nat} {l : List (List UInt8)} {w : World} (h : OwnS base (.slice (some ⟨g, 0, none⟩) n c) l w) (k : Nat) (hk : k < l.length) : w.cell? ⟨g, k, none⟩ = some (.string ⟨l[k]!.toArray⟩) := by
  have hn : n = l.length := by
    rcases h.2 with ⟨h0, -⟩ | ⟨g', cap, cur, h0, -⟩
    · cases h0
    · injection h0
  subst hn
  have := World.ownsRow.cellAt h k (by omega)
  rw [this, List.getElem?_map, List.getElem?_eq_getElem hk, getElem!_pos l k hk]
  rfl
theorem OwnS.free {base g n c : Nat} {l : List (List UInt8)} {w : World} (h : OwnS base (.slice (some ⟨g, 0, none⟩) n c) l w) (k : Nat) : w.frozen? ⟨g, k, none⟩ = false := by
  have hn : n = l.length := by
    rcases h.2 with ⟨h0, -⟩ | ⟨g', cap, cur, h0, -⟩
    · cases h0
    · injection h0
  subst hn
  exact World.ownsRow.frozenAt h k
theorem OwnS.put {base g n c : Nat} {l : List (List UInt8)} {w : World} (h : OwnS base (.slice (some ⟨g, 0, none⟩) n c) l w) (k : Nat) (x : List UInt8) : OwnS base (.slice (some ⟨g, 0, none⟩) n c) (l.set k x) (w.setCell ⟨g, k, none⟩ (.string ⟨x.toArray⟩)) := by
  have hn : n = l.length := by
    rcases h.2 with ⟨h0, -⟩ | ⟨g', cap, cur, h0, -⟩
    · cases h0
    · injection h0
  subst hn
  have := (World.ownsRow.stored h k (.string ⟨x.toArray⟩)).1
  unfold OwnS
  rw [List.length_set, List.map_set]
  exact this
/-- 'append(v, x)': one more string. -/
theorem append_str (W : World) (base : Nat) (v : Value) (l : List (List UInt8)) (hown : OwnS base v l W) (hbase : base ≤ W.heap.size) (hlen : l.length ≤ 1000000) (x : List UInt8)
    (N : Nat) (hN : N = W.heap.size)
    {ops : Array Oper} {rest : List Oper} {o : Oper} {a : Act} {Q : Exit → Act → World → Prop} (hgd : o.guard = none) (s y : Operand)
    (ho : o.op = .call { callee := .builtin .append, args := #[s, y], argTypes := #[22, 22] })
    (hs : a.eval s = v) (hx : a.eval y = .slice (some ⟨N, 0, none⟩) 1 1)
    (h : ∀ v' w', OwnS base v' (l ++ [x]) w' → Below base W w' → wpList Tryd.prog ops Q rest (a.put o.dst v') w') : wpList Tryd.prog ops Q (o :: rest) a (W.alloc (.cells #[.string ⟨x.toArray⟩] 9)) := by
  subst hN
  obtain ⟨i0, hi0, hz0, hs0, hb0⟩ := info_parts info_str
  have hown' := World.ownsRow.alloc hown (.cells #[.string ⟨x.toArray⟩] 9)
  refine wpList_append_own _ hgd s y 22 ho base 9 i0 (.string ⟨#[]⟩) 1 16 Tryd.underlying22 hi0 hz0 hs0 hb0 rfl (by decide) v l.length (l.map strV) hs hown' ⟨W.heap.size, 0, none⟩ 1 1 [.string ⟨x.toArray⟩] hx rfl ?_ (fun u hu => by rw [List.mem_singleton.1 hu]; rfl) (by simp only [maxLen]; omega) (by omega) (by simp; omega) ?_
  · intro j u hj
    have e : (⟨W.heap.size, 0, none⟩ : Addr).add j = ⟨W.heap.size, j, none⟩ := by unfold Addr.add; split <;> simp_all
    have hj' : j < 1 := (List.getElem?_eq_some_iff.1 hj).1
    rw [e, World.cell?_alloc_at _ _ _ _ (by simp)]
    rw [← hj]
    obtain rfl : j = 0 := by omega
    rfl
  · intro v' w' ho' hg _
    refine h v' w' ?_ (((Below.refl _ W).alloc hbase _).grown hg (by simp; omega) fun k hk => (World.ownsRow.lt hown' k hk).1)
    unfold OwnS
    rw [List.length_append, List.map_append]
    exact ho'
end Go.Proofs.YtkcabnodhdhaaaaDoor
