/-
  Proved here: rows of lines as they are told (slices of them that can be read, and such as a call owns), and the framer behind a pointer: what its calls leave as it was. Conditions: as they stand in each.
-/
import Derived.Test.YtkcabnodhdhaaaaDoorUtfGrew
import Derived.Test.YtkcabnodhdhaaaaDoorDomRow
import Derived.Test.YtkcabnodhdhaaaaDoorLinPlain
import Derived.Lib.AppendStr
import Derived.Laws.AppendOwnNone
namespace Go.Proofs.YtkcabnodhdhaaaaDoor
open Go.RowKit
namespace Lin
instance : Inhabited Fr := ⟨⟨[], false, false⟩⟩
/-- A line as a value, and as cells. -/
def Fr.v (k : Fr) : Value := .agg #[.string ⟨k.text.toArray⟩, .bool k.long, .bool k.bare]
def Fr.cs (k : Fr) : List Value := [.string ⟨k.text.toArray⟩, .bool k.long, .bool k.bare]
def fcells (ts : List Fr) : List Value := ts.flatMap Fr.cs
def nthF (l : List Fr) (i : Nat) : Fr := l.getD i ⟨[], false, false⟩
theorem fcells_len (ts : List Fr) : (fcells ts).length = ts.length * 3 := by
  unfold fcells
  induction ts with
  | nil => rfl
  | cons k ts ih => rw [List.flatMap_cons, List.length_append, ih, List.length_cons]; show 3 + _ = _; omega
theorem fcells_at : ∀ (ts : List Fr) (i : Nat), i < ts.length → (fcells ts)[i * 3]? = some (.string ⟨(nthF ts i).text.toArray⟩) ∧ (fcells ts)[i * 3 + 1]? = some (.bool (nthF ts i).long) ∧ (fcells ts)[i * 3 + 2]? = some (.bool (nthF ts i).bare)
  | [], _, h => absurd h (Nat.not_lt_zero _)
  | k :: ts, 0, _ => ⟨rfl, rfl, rfl⟩
  | k :: ts, i + 1, h => by
    rw [List.length_cons] at h
    obtain ⟨h1, h2, h3⟩ := fcells_at ts i (by omega)
    have e : ∀ j, (fcells (k :: ts))[j + 3]? = (fcells ts)[j]? := fun j => by
      show (Fr.cs k ++ fcells ts)[j + 3]? = _
      rw [List.getElem?_append_right (by show 3 ≤ j + 3; omega)]
      rfl
    rw [show nthF (k :: ts) (i + 1) = nthF ts i from rfl, show (i + 1) * 3 = i * 3 + 3 by omega, show i * 3 + 3 + 1 = (i * 3 + 1) + 3 by omega, show i * 3 + 3 + 2 = (i * 3 + 2) + 3 by omega, e, e, e]
    exact ⟨h1, h2, h3⟩
theorem fcells_app (a b : List Fr) : fcells (a ++ b) = fcells a ++ fcells b := by unfold fcells; rw [List.flatMap_append]
theorem fcells_one (ts : List Fr) : ∀ u ∈ fcells ts, u.oneCell' = true := by
  intro u hu
  obtain ⟨k, -, hk⟩ := List.mem_flatMap.1 hu
  simp only [Fr.cs, List.mem_cons, List.not_mem_nil, or_false] at hk
  rcases hk with rfl | rfl | rfl <;> rfl
theorem nthF_app_left {a b : List Fr} {i : Nat} (h : i < a.length) : nthF (a ++ b) i = nthF a i := by
  unfold nthF
  rw [List.getD_eq_getElem?_getD, List.getD_eq_getElem?_getD, List.getElem?_append_left h]
end Lin
open Lin (Fr)
structure FrAt (g o : Nat) (k : Fr) (w : World) : Prop where
  c0 : w.cell? ⟨g, o, none⟩ = some (.string ⟨k.text.toArray⟩)
  c1 : w.cell? ⟨g, o + 1, none⟩ = some (.bool k.long)
  c2 : w.cell? ⟨g, o + 2, none⟩ = some (.bool k.bare)
theorem FrAt.keep {g o : Nat} {k : Fr} {w w' : World} (h : FrAt g o k w) (e : w'.heap[g]? = w.heap[g]?) : FrAt g o k w' :=
  ⟨(World.cell?_of_block (a := ⟨g, o, none⟩) e).trans h.c0, (World.cell?_of_block (a := ⟨g, o + 1, none⟩) e).trans h.c1, (World.cell?_of_block (a := ⟨g, o + 2, none⟩) e).trans h.c2⟩
/-- v is a slice that reads the lines ts. -/
def Frs (v : Value) (ts : List Fr) (w : World) : Prop :=
  ∃ (A : Option Addr) (c : Nat), v = .slice A ts.length c ∧ ts.length ≤ c ∧ (A = none → c = 0) ∧ (0 < ts.length → ∃ g o, A = some ⟨g, o, none⟩ ∧ g < w.heap.size ∧ ∀ i, i < ts.length → FrAt g (o + i * 3) (Lin.nthF ts i) w)
theorem Frs.keep {v : Value} {ts : List Fr} {w w' : World} (h : Frs v ts w) (hb : Below w.heap.size w w') : Frs v ts w' := by
  obtain ⟨A, c, h1, h2, h0, h3⟩ := h
  refine ⟨A, c, h1, h2, h0, fun hp => ?_⟩
  obtain ⟨g, o, h4, h5, h6⟩ := h3 hp
  exact ⟨g, o, h4, Nat.lt_of_lt_of_le h5 hb.size, fun i hi => (h6 i hi).keep (hb.block g h5)⟩
def OwnF (base : Nat) (v : Value) (ts : List Fr) (w : World) : Prop := w.ownsRow base 42 3 v ts.length (Lin.fcells ts)
theorem OwnF.nil (base : Nat) (w : World) : OwnF base (.slice none 0 0) [] w := World.ownsRow_nil w base _ _
theorem OwnF.same {base : Nat} {v : Value} {ts : List Fr} {w w' : World} (h : OwnF base v ts w) (e : ∀ g cur, v.ownBlock = some g → w.heap[g]? = some (.cells cur 42 (0, 0)) → w'.heap[g]? = w.heap[g]?) : OwnF base v ts w' := by
  refine ⟨h.1, ?_⟩
  rcases h.2 with h0 | ⟨g, cap, cur, rfl, h1, hg, h2⟩
  · exact .inl h0
  · exact .inr ⟨g, cap, cur, rfl, h1, (e g cur rfl hg).trans hg, h2⟩
theorem OwnF.keep {base : Nat} {v : Value} {ts : List Fr} {w w' : World} (h : OwnF base v ts w) (hb : Below w.heap.size w w') : OwnF base v ts w' :=
  h.same fun g _ hv _ => hb.block g (World.ownsRow.lt h g hv).2
theorem OwnF.lower {base base' : Nat} {v : Value} {ts : List Fr} {w : World} (h : OwnF base v ts w) (hb : base' ≤ base) : OwnF base' v ts w := by
  refine ⟨h.1, ?_⟩
  rcases h.2 with h0 | ⟨g, cap, cur, h1, h2, h3⟩
  · exact .inl h0
  · exact .inr ⟨g, cap, cur, h1, Nat.le_trans hb h2, h3⟩
theorem OwnF.frs {base : Nat} {v : Value} {ts : List Fr} {w : World} (h : OwnF base v ts w) : Frs v ts w := by
  have hlt := World.ownsRow.lt h
  rcases h.2 with ⟨rfl, h0⟩ | ⟨g, cap, cur, rfl, hb, hg, hnc, hcm, hcs, hcur⟩
  · exact ⟨none, 0, by rw [h0], by omega, fun _ => rfl, fun hp => by omega⟩
  · refine ⟨some ⟨g, 0, none⟩, cap, rfl, hnc, (fun h => by cases h), fun _ => ⟨g, 0, rfl, (hlt g rfl).2, fun i hi => ?_⟩⟩
    obtain ⟨h1, h2, h3⟩ := Lin.fcells_at ts i hi
    rw [Nat.zero_add]
    exact ⟨(World.ownsRow.cellAt h (i * 3) (by omega)).trans h1, (World.ownsRow.cellAt h (i * 3 + 1) (by omega)).trans h2, (World.ownsRow.cellAt h (i * 3 + 2) (by omega)).trans h3⟩
theorem OwnF.shape {base : Nat} {v : Value} {ts : List Fr} {w : World} (h : OwnF base v ts w) : ∃ (A : Option Addr) (c : Nat), v = .slice A ts.length c ∧ ts.length ≤ c ∧ (A = none → c = 0) := by
  rcases h.2 with ⟨rfl, h0⟩ | ⟨g, cap, cur, rfl, hb, hg, hnc, hcm, hcs, hcur⟩
  · exact ⟨none, 0, by rw [h0], by omega, fun _ => rfl⟩
  · exact ⟨some ⟨g, 0, none⟩, cap, rfl, hnc, fun h => by cases h⟩
theorem info_fr : (Tryd.prog.info? 42).map (fun i => (i.zero, i.size, i.bytes)) = some (some (.agg #[.string ⟨#[]⟩, .bool false, .bool false]), 3, 24) := by kernel_rfl
/-- 'append(v, k)': one more line, that lies in a row of its own. -/
theorem append_fr (W : World) (base : Nat) (v : Value) (ts : List Fr) (hown : OwnF base v ts W) (hbase : base ≤ W.heap.size) (hlen : ts.length ≤ 1000000) (k : Fr)
    (N : Nat) (hN : N = W.heap.size)
    {ops : Array Oper} {rest : List Oper} {o : Oper} {a : Act} {Q : Exit → Act → World → Prop} (hgd : o.guard = none) (s y : Operand)
    (ho : o.op = .call { callee := .builtin .append, args := #[s, y], argTypes := #[34, 34] })
    (hs : a.eval s = v) (hx : a.eval y = .slice (some ⟨N, 0, none⟩) 1 1)
    (h : ∀ v' w', OwnF base v' (ts ++ [k]) w' → (Grew v v' W w') → wpList Tryd.prog ops Q rest (a.put o.dst v') w') : wpList Tryd.prog ops Q (o :: rest) a (W.alloc (.cells #[.string ⟨k.text.toArray⟩, .bool k.long, .bool k.bare] 42)) := by
  subst hN
  obtain ⟨i0, hi0, hz0, hs0, hb0⟩ := info_parts info_fr
  have hown' := World.ownsRow.alloc hown (.cells #[.string ⟨k.text.toArray⟩, .bool k.long, .bool k.bare] 42)
  refine wpList_append_own_at _ hgd s y 34 ho base 42 i0 (.agg #[.string ⟨#[]⟩, .bool false, .bool false]) 3 24 Tryd.underlying34 hi0 hz0 hs0 hb0 rfl (by decide) v ts.length (Lin.fcells ts) hs hown' ⟨W.heap.size, 0, none⟩ 1 1 (Lin.Fr.cs k) hx rfl ?_ (fun u hu => ?_) (by simp only [maxLen]; omega) (by omega) (by simp; omega) ?_
  · intro j u hj
    have e : (⟨W.heap.size, 0, none⟩ : Addr).add j = ⟨W.heap.size, j, none⟩ := by unfold Addr.add; split <;> simp_all
    have hj' : j < 3 := (List.getElem?_eq_some_iff.1 hj).1
    rw [e, World.cell?_alloc_at _ _ _ _ (by simp)]
    rw [← hj]
    rcases j with _ | _ | _ | j
    · rfl
    · rfl
    · rfl
    · omega
  · unfold Lin.Fr.cs at hu
    simp only [List.mem_cons, List.not_mem_nil, or_false] at hu
    rcases hu with rfl | rfl | rfl <;> rfl
  · intro v' w' ho' hg _ hat
    have hsz : (W.alloc (.cells #[.string ⟨k.text.toArray⟩, .bool k.long, .bool k.bare] 42)).heap.size = W.heap.size + 1 := by simp
    refine h v' w' ?_ ⟨hg.os, hg.tape, hg.output, by have := hg.size; omega, fun j hj hne => (hg.block j (by omega) hne).trans (heap_alloc_old W _ hj), fun j hj => ?_⟩
    · unfold OwnF
      rw [List.length_append, Lin.fcells_app, show Lin.fcells [k] = Lin.Fr.cs k by unfold Lin.fcells; simp]
      exact ho'
    · rcases hat with e | e
      · exact .inl (by rw [← e]; exact hj)
      · rw [e] at hj
        injection hj with hj
        exact .inr (by omega)
/-- 'append(v, src...)': src any slice of lines that can be read. -/
theorem append_frs (W : World) (base : Nat) (v : Value) (ts : List Fr) (hown : OwnF base v ts W) (hbase : base ≤ W.heap.size) (hlen : ts.length ≤ 1000000) (src : Value) (ks : List Fr) (hsrc : Frs src ks W) (hks : ks.length ≤ 1000000)
    {ops : Array Oper} {rest : List Oper} {o : Oper} {a : Act} {Q : Exit → Act → World → Prop} (hgd : o.guard = none) (s y : Operand)
    (ho : o.op = .call { callee := .builtin .append, args := #[s, y], argTypes := #[34, 34] })
    (hs : a.eval s = v) (hx : a.eval y = src)
    (h : ∀ v' w', OwnF base v' (ts ++ ks) w' → (Grew v v' W w') → wpList Tryd.prog ops Q rest (a.put o.dst v') w') : wpList Tryd.prog ops Q (o :: rest) a W := by
  obtain ⟨i0, hi0, hz0, hs0, hb0⟩ := info_parts info_fr
  obtain ⟨A, c, rfl, hc, h0, ha⟩ := hsrc
  cases A with
  | none =>
    have hl0 : ks.length = 0 := by have := h0 rfl; omega
    have hc0 : c = 0 := h0 rfl
    obtain rfl : ks = [] := List.eq_nil_of_length_eq_zero hl0
    subst hc0
    refine wpList_append_own_none hgd s y 34 ho base 42 i0 3 Tryd.underlying34 hi0 v ts.length (Lin.fcells ts) hs hown hx (h v W ?_ (Grew.refl _ _))
    rw [List.append_nil]
    exact hown
  | some ad =>
    refine wpList_append_own_at _ hgd s y 34 ho base 42 i0 (.agg #[.string ⟨#[]⟩, .bool false, .bool false]) 3 24 Tryd.underlying34 hi0 hz0 hs0 hb0 rfl (by decide) v ts.length (Lin.fcells ts) hs hown ad ks.length c (Lin.fcells ks) hx (Lin.fcells_len ks) ?_ (Lin.fcells_one ks) (by simp only [maxLen]; omega) (by omega) hbase ?_
    · intro j u hj
      have hj' : j < (Lin.fcells ks).length := (List.getElem?_eq_some_iff.1 hj).1
      rw [Lin.fcells_len] at hj'
      obtain ⟨g, o', e, -, hcell⟩ := ha (by omega)
      injection e with e
      subst e
      have ea : ∀ n, (⟨g, o', none⟩ : Addr).add n = ⟨g, o' + n, none⟩ := fun n => by unfold Addr.add; split <;> simp_all
      obtain ⟨k0, k1, k2⟩ := hcell (j / 3) (by omega)
      obtain ⟨f0, f1, f2⟩ := Lin.fcells_at ks (j / 3) (by omega)
      have hm : j = j / 3 * 3 ∨ j = j / 3 * 3 + 1 ∨ j = j / 3 * 3 + 2 := by omega
      rw [ea]
      rcases hm with e | e | e
      · rw [e] at hj ⊢; rw [f0] at hj; rw [← hj]; exact k0
      · rw [e] at hj ⊢; rw [f1] at hj; rw [← hj, ← Nat.add_assoc]; exact k1
      · rw [e] at hj ⊢; rw [f2] at hj; rw [← hj, ← Nat.add_assoc]; exact k2
    · intro v' w' ho' hg _ hat
      refine h v' w' ?_ ⟨hg.os, hg.tape, hg.output, hg.size, fun j hj hne => hg.block j hj hne, fun j hj => ?_⟩
      · unfold OwnF
        rw [List.length_append, Lin.fcells_app]
        exact ho'
      · rcases hat with e | e
        · exact .inl (by rw [← e]; exact hj)
        · rw [e] at hj
          injection hj with hj
          exact .inr (by omega)
end Go.Proofs.YtkcabnodhdhaaaaDoor
