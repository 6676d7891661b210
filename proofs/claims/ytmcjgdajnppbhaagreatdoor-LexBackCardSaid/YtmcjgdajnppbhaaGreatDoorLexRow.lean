/-
  Proved here: rows of tokens: slices of them that can be read, and such as a call owns; one more is put behind. Conditions: as they stand in each.
-/
import Derived.Test.YtmcjgdajnppbhaaGreatDoorUtfMore
import Derived.Test.YtmcjgdajnppbhaaGreatDoorLexPlainD
namespace Go.Proofs.YtmcjgdajnppbhaaGreatDoor
open Go.RowKit Utf
namespace Lex
/-- A token as a value, and as cells. -/
def Tok.v (k : Tok) : Value := .agg #[.int .i64 k.kind, .string ⟨k.text.toArray⟩, .int .i64 k.place]
def Tok.cs (k : Tok) : List Value := [.int .i64 k.kind, .string ⟨k.text.toArray⟩, .int .i64 k.place]
def cells (ts : List Tok) : List Value := ts.flatMap Tok.cs
theorem cells_len (ts : List Tok) : (cells ts).length = ts.length * 3 := by
  unfold cells
  induction ts with
  | nil => rfl
  | cons k ts ih => rw [List.flatMap_cons, List.length_append, ih, List.length_cons]; show 3 + _ = _; omega
theorem cells_at : ∀ (ts : List Tok) (i : Nat), i < ts.length → (cells ts)[i * 3]? = some (.int .i64 (nth ts i).kind) ∧ (cells ts)[i * 3 + 1]? = some (.string ⟨(nth ts i).text.toArray⟩) ∧ (cells ts)[i * 3 + 2]? = some (.int .i64 (nth ts i).place)
  | [], _, h => absurd h (Nat.not_lt_zero _)
  | k :: ts, 0, _ => ⟨rfl, rfl, rfl⟩
  | k :: ts, i + 1, h => by
    rw [List.length_cons] at h
    obtain ⟨h1, h2, h3⟩ := cells_at ts i (by omega)
    have e : ∀ j, (cells (k :: ts))[j + 3]? = (cells ts)[j]? := fun j => by
      show ([Value.int .i64 k.kind, .string ⟨k.text.toArray⟩, .int .i64 k.place] ++ cells ts)[j + 3]? = _
      rw [List.getElem?_append_right (by simp)]
      rfl
    rw [nth_succ, show (i + 1) * 3 = i * 3 + 3 by omega, show i * 3 + 3 + 1 = (i * 3 + 1) + 3 by omega, show i * 3 + 3 + 2 = (i * 3 + 2) + 3 by omega, e, e, e]
    exact ⟨h1, h2, h3⟩
theorem cells_app (a b : List Tok) : cells (a ++ b) = cells a ++ cells b := by unfold cells; rw [List.flatMap_append]
end Lex
open Lex (Tok)
/-- The three cells of a token. -/
def TokAt (g o : Nat) (k : Tok) (w : World) : Prop := w.cell? ⟨g, o, none⟩ = some (.int .i64 k.kind) ∧ w.cell? ⟨g, o + 1, none⟩ = some (.string ⟨k.text.toArray⟩) ∧ w.cell? ⟨g, o + 2, none⟩ = some (.int .i64 k.place)
theorem TokAt.keep {g o : Nat} {k : Tok} {w w' : World} (h : TokAt g o k w) (hg : g < w.heap.size) (hb : Below w.heap.size w w') : TokAt g o k w' :=
  ⟨(hb.cell (p := ⟨g, o, none⟩) hg).trans h.1, (hb.cell (p := ⟨g, o + 1, none⟩) hg).trans h.2.1, (hb.cell (p := ⟨g, o + 2, none⟩) hg).trans h.2.2⟩
/-- v is a slice that reads the tokens ts. -/
def Toks (v : Value) (ts : List Tok) (w : World) : Prop :=
  ∃ (A : Option Addr) (c : Nat), v = .slice A ts.length c ∧ ts.length ≤ c ∧ (0 < ts.length → ∃ g o, A = some ⟨g, o, none⟩ ∧ g < w.heap.size ∧ ∀ i, i < ts.length → TokAt g (o + i * 3) (Lex.nth ts i) w)
theorem Toks.keep {v : Value} {ts : List Tok} {w w' : World} (h : Toks v ts w) (hb : Below w.heap.size w w') : Toks v ts w' := by
  obtain ⟨A, c, h1, h2, h3⟩ := h
  refine ⟨A, c, h1, h2, fun hp => ?_⟩
  obtain ⟨g, o, h4, h5, h6⟩ := h3 hp
  exact ⟨g, o, h4, Nat.lt_of_lt_of_le h5 hb.size, fun i hi => (h6 i hi).keep h5 hb⟩
theorem Toks.nil (w : World) : Toks (.slice none 0 0) [] w := ⟨none, 0, rfl, Nat.le_refl _, fun h => absurd h (by simp)⟩
def OwnT (base : Nat) (v : Value) (ts : List Tok) (w : World) : Prop := w.ownsRow base 23 3 v ts.length (Lex.cells ts)
theorem OwnT.nil (base : Nat) (w : World) : OwnT base (.slice none 0 0) [] w := World.ownsRow_nil w base _ _
theorem OwnT.shape {base : Nat} {v : Value} {ts : List Tok} {w : World} (h : OwnT base v ts w) : ∃ (A : Option Addr) (c : Nat), v = .slice A ts.length c ∧ ts.length ≤ c ∧ (0 < ts.length → ∃ g, A = some ⟨g, 0, none⟩ ∧ base ≤ g ∧ g < w.heap.size) := by
  rcases h.2 with ⟨rfl, h0⟩ | ⟨g, cap, cur, rfl, hb, hg, hnc, hcm, hcs, hcur⟩
  · exact ⟨none, 0, by rw [h0], by omega, fun hp => by omega⟩
  · exact ⟨some ⟨g, 0, none⟩, cap, rfl, hnc, fun _ => ⟨g, rfl, hb, (World.ownsRow.lt h g rfl).2⟩⟩
theorem OwnT.cell {base g n c : Nat} {ts : List Tok} {w : World} (h : OwnT base (.slice (some ⟨g, 0, none⟩) n c) ts w) (i : Nat) (hi : i < ts.length) : TokAt g (i * 3) (Lex.nth ts i) w := by
  have hn : n = ts.length := by
    rcases h.2 with ⟨h0, -⟩ | ⟨g', cap, cur, h0, -⟩
    · cases h0
    · injection h0
  subst hn
  obtain ⟨h1, h2, h3⟩ := Lex.cells_at ts i hi
  exact ⟨(World.ownsRow.cellAt h (i * 3) (by omega)).trans h1, (World.ownsRow.cellAt h (i * 3 + 1) (by omega)).trans h2, (World.ownsRow.cellAt h (i * 3 + 2) (by omega)).trans h3⟩
theorem OwnT.toks {base : Nat} {v : Value} {ts : List Tok} {w : World} (h : OwnT base v ts w) : Toks v ts w := by
  obtain ⟨A, c, rfl, hc, hs⟩ := h.shape
  refine ⟨A, c, rfl, hc, fun hp => ?_⟩
  obtain ⟨g, rfl, -, hg⟩ := hs hp
  exact ⟨g, 0, rfl, hg, fun i hi => by rw [Nat.zero_add]; exact h.cell i hi⟩
theorem OwnT.keep {base : Nat} {v : Value} {ts : List Tok} {w w' : World} (h : OwnT base v ts w) (hb : Below w.heap.size w w') : OwnT base v ts w' := by
  have hlt := World.ownsRow.lt h
  refine ⟨h.1, ?_⟩
  rcases h.2 with h0 | ⟨g, cap, cur, rfl, h1, hg, h2⟩
  · exact .inl h0
  · exact .inr ⟨g, cap, cur, rfl, h1, (hb.block g (hlt g rfl).2).trans hg, h2⟩
theorem info_tok : (Tryz.prog.info? 23).map (fun i => (i.zero, i.size, i.bytes)) = some (some (.agg #[.int .i64 0, .string ⟨#[]⟩, .int .i64 0]), 3, 32) := by kernel_rfl
/-- 'append(v, k)': one more token, that lies in a row of its own. -/
theorem append_tok (W : World) (base : Nat) (v : Value) (ts : List Tok) (hown : OwnT base v ts W) (hbase : base ≤ W.heap.size) (hlen : ts.length ≤ 1000000) (k : Tok)
    (N : Nat) (hN : N = W.heap.size)
    {ops : Array Oper} {rest : List Oper} {o : Oper} {a : Act} {Q : Exit → Act → World → Prop} (hgd : o.guard = none) (s y : Operand)
    (ho : o.op = .call { callee := .builtin .append, args := #[s, y], argTypes := #[27, 27] })
    (hs : a.eval s = v) (hx : a.eval y = .slice (some ⟨N, 0, none⟩) 1 1)
    (h : ∀ v' w', OwnT base v' (ts ++ [k]) w' → Below base W w' → wpList Tryz.prog ops Q rest (a.put o.dst v') w') : wpList Tryz.prog ops Q (o :: rest) a (W.alloc (.cells #[.int .i64 k.kind, .string ⟨k.text.toArray⟩, .int .i64 k.place] 23)) := by
  subst hN
  obtain ⟨i0, hi0, hz0, hs0, hb0⟩ := info_parts info_tok
  have hown' := World.ownsRow.alloc hown (.cells #[.int .i64 k.kind, .string ⟨k.text.toArray⟩, .int .i64 k.place] 23)
  refine wpList_append_own _ hgd s y 27 ho base 23 i0 (.agg #[.int .i64 0, .string ⟨#[]⟩, .int .i64 0]) 3 32 Tryz.underlying27 hi0 hz0 hs0 hb0 rfl (by decide) v ts.length (Lex.cells ts) hs hown' ⟨W.heap.size, 0, none⟩ 1 1 (Lex.Tok.cs k) hx rfl ?_ (fun u hu => ?_) (by simp only [maxLen]; omega) (by omega) (by simp; omega) ?_
  · intro j u hj
    have e : (⟨W.heap.size, 0, none⟩ : Addr).add j = ⟨W.heap.size, j, none⟩ := by unfold Addr.add; split <;> simp_all
    have hj' : j < 3 := (List.getElem?_eq_some_iff.1 hj).1
    rw [e, World.cell?_alloc_at _ _ _ _ (by simp)]
    rw [← hj]
    rcases j with _ | _ | _ | j
    · rfl
    · rfl
    · rfl
    · omega
  · unfold Lex.Tok.cs at hu
    simp only [List.mem_cons, List.not_mem_nil, or_false] at hu
    rcases hu with rfl | rfl | rfl <;> rfl
  · intro v' w' ho' hg _
    refine h v' w' ?_ (((Below.refl _ W).alloc hbase _).grown hg (by simp; omega) fun k hk => (World.ownsRow.lt hown' k hk).1)
    unfold OwnT
    rw [List.length_append, Lex.cells_app, show Lex.cells [k] = Lex.Tok.cs k by unfold Lex.cells; simp]
    exact ho'
end Go.Proofs.YtmcjgdajnppbhaaGreatDoor
