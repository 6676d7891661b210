/-
  Proved here: norm.Split and what it calls: what a character is split into is laid behind what there is, and all of a slice is split. Conditions: the table is one that New made; the slice can be read, and holds at most 10,000 numbers.
-/
import Derived.Test.YtpmcmbkilcpleaaNormOrder
import Derived.Maps.AppendAt
namespace Go.Proofs.Ytpmcmbkilcpleaa
open Go.RowKit Utf
/-- All but v's own row is as it was; v' lies there, or in what is new. -/
structure Grew (v v' : Value) (w w' : World) : Prop where
  os : w'.os = w.os
  tape : w'.tape = w.tape
  output : w'.output = w.output
  size : w.heap.size ≤ w'.heap.size
  block : ∀ k, k < w.heap.size → some k ≠ v.ownBlock → w'.heap[k]? = w.heap[k]?
  place : ∀ k, v'.ownBlock = some k → v.ownBlock = some k ∨ w.heap.size ≤ k
theorem Grew.refl (v : Value) (w : World) : Grew v v w w := ⟨rfl, rfl, rfl, Nat.le_refl _, fun _ _ _ => rfl, fun _ h => .inl h⟩
theorem Grew.trans {v v1 v2 : Value} {w w1 w2 : World} (h : Grew v v1 w w1) (k : Grew v1 v2 w1 w2) : Grew v v2 w w2 := by
  refine ⟨k.os.trans h.os, k.tape.trans h.tape, k.output.trans h.output, Nat.le_trans h.size k.size, fun i hi hne => ?_, fun i hi => ?_⟩
  · refine (k.block i (Nat.lt_of_lt_of_le hi h.size) fun e => ?_).trans (h.block i hi hne)
    rcases h.place i e.symm with h1 | h1
    · exact hne h1.symm
    · omega
  · rcases k.place i hi with h1 | h1
    · exact h.place i h1
    · exact .inr (Nat.le_trans h.size h1)
theorem Grew.of_below {w w' : World} (h : Below w.heap.size w w') (v : Value) : Grew v v w w' := ⟨h.os, h.tape, h.output, h.size, fun k hk _ => h.block k hk, fun _ h => .inl h⟩
theorem Grew.below {v v' : Value} {w w' : World} (h : Grew v v' w w') {base : Nat} (hb : base ≤ w.heap.size) (hv : ∀ k, v.ownBlock = some k → base ≤ k) : Below base w w' :=
  ⟨h.os, h.tape, h.output, h.size, fun k hk => h.block k (by omega) fun e => by have := hv k e.symm; omega⟩
theorem Grew.cell {v v' : Value} {w w' : World} (h : Grew v v' w w') {p : Addr} (hp : p.block < w.heap.size) (hv : some p.block ≠ v.ownBlock) : w'.cell? p = w.cell? p := World.cell?_of_block (h.block p.block hp hv)
theorem OwnR.off {base : Nat} {v : Value} {l : List Int} {w : World} (h : OwnR base v l w) : ∀ k, v.ownBlock = some k → base ≤ k := fun k hk => (World.ownsRow.lt h k hk).1
theorem OwnR.under {base : Nat} {v : Value} {l : List Int} {w : World} (h : OwnR base v l w) {n : Nat} (hn : w.heap.size ≤ n) : some n ≠ v.ownBlock := fun e => by have := (World.ownsRow.lt h n e.symm).2; omega
section
variable {P : Program}
/-- 'append(v, x, ..)': v a row of the call's own; what else there is stays. -/
theorem append_lit (W : World) (t E : TypeId) (z : Value) (bytes : Nat) (ht : P.underlying t = some (.slice E)) (hi : (P.info? E).map (fun i => (i.zero, i.size, i.bytes)) = some (some z, 1, bytes)) (hz1 : z.cells.size = 1) (hby : bytes ≤ 8)
    (base : Nat) (v : Value) (n : Nat) (xs : List Value) (hown : W.ownsRow base E 1 v n xs) (hbase : base ≤ W.heap.size) (hlen : n ≤ 1000000) (m : Nat) (hmm : m ≤ 1000) (cells : List Value) (hm : cells.length = m) (h1 : cells.all (fun u => u.oneCell') = true)
    (N : Nat) (hN : N = W.heap.size)
    {ops : Array Oper} {rest : List Oper} {o : Oper} {a : Act} {Q : Exit → Act → World → Prop} (hgd : o.guard = none) (s x : Operand)
    (ho : o.op = .call { callee := .builtin .append, args := #[s, x], argTypes := #[t, t] })
    (hs : a.eval s = v) (hx : a.eval x = .slice (some ⟨N, 0, none⟩) m m)
    (h : ∀ v' w', w'.ownsRow base E 1 v' (n + m) (xs ++ cells) → Grew v v' W w' → wpList P ops Q rest (a.put o.dst v') w') : wpList P ops Q (o :: rest) a (W.alloc (.cells cells.toArray E)) := by
  subst hN
  obtain ⟨i0, hi0, hz0, hs0, hb0⟩ := info_parts hi
  have hown' := hown.alloc (.cells cells.toArray E)
  refine wpList_append_own_at _ hgd s x t ho base E i0 z 1 bytes ht hi0 hz0 hs0 hb0 hz1 (by decide) v n xs hs hown' ⟨W.heap.size, 0, none⟩ m m cells hx (by omega) ?_ (fun u hu => List.all_eq_true.1 h1 u hu) (by simp only [maxLen]; omega) ?_ (by simp; omega) ?_
  · intro j u hj
    have e : (⟨W.heap.size, 0, none⟩ : Addr).add j = ⟨W.heap.size, j, none⟩ := by unfold Addr.add; split <;> simp_all
    have hj' : j < cells.length := (List.getElem?_eq_some_iff.1 hj).1
    rw [e, World.cell?_alloc_at _ _ _ _ (by simp)]
    rw [← hj]; simp [List.getElem?_eq_getElem hj']
  · have : (n + m) * bytes ≤ (n + m) * 8 := Nat.mul_le_mul_left _ hby
    omega
  · intro v' w' ho' hg _ hat
    have hsz : (W.alloc (.cells cells.toArray E)).heap.size = W.heap.size + 1 := by simp
    refine h v' w' ho' ⟨hg.os, hg.tape, hg.output, by have := hg.size; omega, fun k hk hne => (hg.block k (by omega) hne).trans (heap_alloc_old W _ hk), fun k hk => ?_⟩
    rcases hat with e | e
    · exact .inl (by rw [← e]; exact hk)
    · rw [e] at hk
      injection hk with hk
      exact .inr (by omega)
end
/-- v has grown to x. -/
def Lays (base : Nat) (v : Value) (x : List Int) (w : World) (e : Ending) (w' : World) : Prop := ∃ v', e = .returned v' ∧ OwnR base v' x w' ∧ Grew v v' w w'
set_option maxHeartbeats 400000 in
theorem isSyl_any (r : Int) (w : World) : Calls Try.prog 49 #[.int .i32 r] w fun e w' => e = .returned (.bool (Norm.syl r)) ∧ w = w' := by
  rcases (show r < 44032 ∨ (44032 ≤ r ∧ r ≤ 55203) ∨ 55203 < r by omega) with h | ⟨h1, h2⟩ | h
  · rw [show Norm.syl r = false by unfold Norm.syl; rw [decide_eq_false (by omega)]; rfl]
    have e1 : decide (44032 ≤ r) = false := by simp; omega
    go_enter Try.func49, Try.ntmps49
    go_wp2
    go_ret
    exact ⟨rfl, rfl⟩
  · rw [(Norm.syl_iff r).2 ⟨h1, h2⟩]
    go_enter Try.func49, Try.ntmps49
    go_wp2
    go_ret
    exact ⟨rfl, rfl⟩
  · have h1 : 44032 ≤ r := by omega
    rw [show Norm.syl r = false by unfold Norm.syl; rw [decide_eq_true h1, decide_eq_false (by omega)]; rfl]
    have e1 : decide (r ≤ 55203) = false := by simp; omega
    go_enter Try.func49, Try.ntmps49
    go_wp2
    go_ret
    exact ⟨rfl, rfl⟩
set_option maxHeartbeats 2000000 in
set_option maxRecDepth 100000 in
theorem splitSyl_any (base : Nat) (v : Value) (o : List Int) (r : Int) (w : World) (hO : OwnR base v o w) (hb : base ≤ w.heap.size) (hl : o.length ≤ 900000) (h : Norm.syl r = true) :
    Calls Try.prog 50 #[v, .int .i32 r] w (Lays base v (o ++ Norm.sylParts r) w) := by
  obtain ⟨h1, h2⟩ := (Norm.syl_iff r).1 h
  clear h
  have H := Lib.hid (show Norm.sylParts r = [4352 + (r - 44032) / 588, 4449 + (r - 44032) % 588 / 28] ++ (if (r - 44032) % 28 = 0 then [] else [4519 + (r - 44032) % 28]) from rfl)
  have HO := Lib.hid hO
  clear hO
  by_cases h0 : (r - 44032) % 28 = 0
  · have h0' : ((r - 44032) % 28 == 0) = true := by simpa using h0
    have H0 := Lib.hid h0
    clear h0
    go_enter Try.func50, Try.ntmps50
    go_wp2_with (at_builtin; refine append_lit w 22 21 (.int .i32 0) 4 Try.underlying22 info_i32 rfl (by omega) base _ _ _ HO.out hb (by omega) 2 (by omega) _ rfl rfl _ rfl rfl _ _ rfl rfl rfl ?_; intro v2 w2 ho2 hg2; have O2 := Lib.hid ho2; have G2 := Lib.hid hg2; clear ho2 hg2)
    go_ret
    refine ⟨_, rfl, ?_, G2.out⟩
    rw [H.out, if_pos H0.out, List.append_nil]
    exact OwnR.more O2.out rfl rfl
  · have h0' : ((r - 44032) % 28 == 0) = false := by simpa using h0
    have H0 := Lib.hid h0
    clear h0
    have tok1 : True := trivial
    go_enter Try.func50, Try.ntmps50
    go_wp2_with (first
      | (at_builtin; have _t := tok1; refine append_lit w 22 21 (.int .i32 0) 4 Try.underlying22 info_i32 rfl (by omega) base _ _ _ HO.out hb (by omega) 2 (by omega) _ rfl rfl _ rfl rfl _ _ rfl rfl rfl ?_; intro v2 w2 ho2 hg2; have O2 : Hid (OwnR base v2 (o ++ [4352 + (r - 44032) / 588, 4449 + (r - 44032) % 588 / 28]) w2) := Lib.hid (OwnR.more ho2 rfl rfl); have G2 := Lib.hid hg2; clear ho2 hg2 tok1)
      | (at_builtin; refine append_lit w2 22 21 (.int .i32 0) 4 Try.underlying22 info_i32 rfl (by omega) base _ _ _ O2.out (Nat.le_trans hb G2.out.size) (by simp; omega) 1 (by omega) _ rfl rfl _ rfl rfl _ _ rfl rfl rfl ?_; intro v3 w3 ho3 hg3; have O3 := Lib.hid ho3; have G3 := Lib.hid hg3; clear ho3 hg3))
    go_ret
    refine ⟨_, rfl, ?_, G2.out.trans G3.out⟩
    rw [H.out, if_neg H0.out, ← List.append_assoc]
    exact OwnR.more O3.out rfl rfl
/-- Table t is there, whatever comes above base. -/
def Tabled (base : Nat) (t : Value) (w : World) : Prop := ∀ W, Below base w W → Table W t
theorem Tabled.next {base : Nat} {t : Value} {w w' : World} (h : Tabled base t w) (hb : Below base w w') : Tabled base t w' := fun W hW => h W (hb.trans hW)
theorem Tabled.now {base : Nat} {t : Value} {w : World} (h : Tabled base t w) : Table w t := h w (Below.refl _ _)
/-- What 'split' promises at a character. -/
def SplitAt (n : Nat) (soft : Bool) (r : Int) : Prop := ∀ (base : Nat) (t v : Value) (o : List Int) (w : World), Tabled base t w → OwnR base v o w → base ≤ w.heap.size → o.length ≤ n →
  Calls Try.prog 32 #[t, v, .int .i32 r, .bool soft] w (Lays base v (o ++ Norm.pieces soft r) w)
theorem Lays.after {base : Nat} {v : Value} {x : List Int} {w w1 : World} {e : Ending} {w' : World} (h : Lays base v x w1 e w') (hb : Below w.heap.size w w1) : Lays base v x w e w' := by
  obtain ⟨v', h1, h2, h3⟩ := h
  exact ⟨v', h1, h2, (Grew.of_below hb v).trans h3⟩
set_option maxHeartbeats 2000000 in
set_option maxRecDepth 100000 in
theorem split_syl (soft : Bool) (r : Int) (h : Norm.syl r = true) : SplitAt 800000 soft r := by
  intro base t v o w hT hO hb hl
  have hS := fun W => isSyl_any r W
  rw [h] at hS
  have HS := Lib.hid hS
  have e : Norm.pieces soft r = Norm.sylParts r := by rw [Norm.pieces_eq, h]; rfl
  rw [e]
  have HC := Lib.hid (fun W (hW : Below w.heap.size w W) => splitSyl_any base v o r W (hO.keep hW) (Nat.le_trans hb hW.size) (by omega) h)
  obtain ⟨b0, b1, b2, b3, rfl, -, -, -, -⟩ := hT.now
  clear hS e h hT hO
  go_enter Try.func32, Try.ntmps32
  go_wp2_with fail
  refine (HS.out _).mono ?_
  rintro e w1 ⟨rfl, rfl⟩
  go_wp2_with fail
  refine (HC.out _ (below_one _ _)).mono ?_
  rintro e w2 ⟨v2, rfl, ho2, hg2⟩
  have R := Lib.hid (And.intro ho2 ((Grew.of_below (below_one w _) v).trans hg2))
  clear ho2 hg2
  go_wp2
  go_ret
  exact ⟨v2, rfl, R.out.1, R.out.2⟩
set_option maxHeartbeats 2000000 in
set_option maxRecDepth 100000 in
theorem split_stay (soft : Bool) (r : Int) (h : Norm.syl r = false) (hs : ∀ y, splitOf r = some y → y.soft = true ∧ soft = false) : SplitAt 800000 soft r := by
  intro base t v o w hT hO hb hl
  have hS := fun W => isSyl_any r W
  rw [h] at hS
  have HS := Lib.hid hS
  rw [pieces_stay h hs]
  have hR := fun W (hW : Below w.heap.size w W) => split_any t r W (hT W (hW.mono hb))
  have HO := Lib.hid hO
  obtain ⟨b0, b1, b2, b3, rfl, -, -, -, -⟩ := hT.now
  clear hT hO
  cases ho : splitOf r with
  | none =>
    rw [ho] at hR
    have HR := Lib.hid hR
    clear hS h hs hR ho
    go_enter Try.func32, Try.ntmps32
    go_wp2_with fail
    refine (HS.out _).mono ?_
    rintro e w1 ⟨rfl, rfl⟩
    go_wp2_with fail
    refine (HR.out _ (below_one _ _)).mono ?_
    rintro e w2 ⟨rfl, hb2⟩
    have B2 := Lib.hid (below_then (below_one w _) hb2)
    clear hb2
    simp only [Option.getD_none, Option.isSome_none, encSp]
    go_wp2_with (at_builtin; refine append_lit (w2.alloc _) 22 21 (.int .i32 0) 4 Try.underlying22 info_i32 rfl (by omega) base _ _ _ (HO.out.keep (below_new B2.out (Nat.le_refl _) _)) (Nat.le_trans hb (below_new B2.out (Nat.le_refl _) _).size) (by omega) 1 (by omega) _ rfl rfl _ (by simp) rfl _ _ rfl rfl rfl ?_; intro v3 w3 ho3 hg3; have O3 : Hid (OwnR base v3 (o ++ [r]) w3) := Lib.hid (OwnR.more ho3 rfl rfl); have G3 := Lib.hid ((Grew.of_below (below_new B2.out (Nat.le_refl _) _) v).trans hg3); clear ho3 hg3)
    go_ret
    exact ⟨_, rfl, O3.out, G3.out⟩
  | some y =>
    obtain ⟨h1, rfl⟩ := hs y ho
    rw [ho] at hR
    obtain ⟨v0, v1, v2, v3, v4⟩ := y
    simp only at h1
    subst h1
    have HR := Lib.hid hR
    clear hS h hs hR ho
    go_enter Try.func32, Try.ntmps32
    go_wp2_with fail
    refine (HS.out _).mono ?_
    rintro e w1 ⟨rfl, rfl⟩
    go_wp2_with fail
    refine (HR.out _ (below_one _ _)).mono ?_
    rintro e w2 ⟨rfl, hb2⟩
    have B2 := Lib.hid (below_then (below_one w _) hb2)
    clear hb2
    simp only [Option.getD_some, Option.isSome_some, encSp]
    go_wp2_with (at_builtin; refine append_lit (w2.alloc _) 22 21 (.int .i32 0) 4 Try.underlying22 info_i32 rfl (by omega) base _ _ _ (HO.out.keep (below_new B2.out (Nat.le_refl _) _)) (Nat.le_trans hb (below_new B2.out (Nat.le_refl _) _).size) (by omega) 1 (by omega) _ rfl rfl _ (by simp) rfl _ _ rfl rfl rfl ?_; intro v3 w3 ho3 hg3; have O3 : Hid (OwnR base v3 (o ++ [r]) w3) := Lib.hid (OwnR.more ho3 rfl rfl); have G3 := Lib.hid ((Grew.of_below (below_new B2.out (Nat.le_refl _) _) v).trans hg3); clear ho3 hg3)
    go_ret
    exact ⟨_, rfl, O3.out, G3.out⟩
theorem boxTable {c0 c1 c2 c3 : Value} {w w1 : World} (hb : Below (w.alloc (.cells #[c0, c1, c2, c3] 30)).heap.size (w.alloc (.cells #[c0, c1, c2, c3] 30)) w1) :
    w.heap.size < w1.heap.size ∧ w1.cell? ⟨w.heap.size, 0, none⟩ = some c0 ∧ w1.cell? ⟨w.heap.size, 1, none⟩ = some c1 ∧ w1.cell? ⟨w.heap.size, 2, none⟩ = some c2 ∧ w1.cell? ⟨w.heap.size, 3, none⟩ = some c3 := by
  have hc : ∀ i, w1.cell? ⟨w.heap.size, i, none⟩ = _ := fun i => hb.cell (p := ⟨w.heap.size, i, none⟩) (show w.heap.size < _ by simp)
  exact ⟨by have := hb.size; simp at this; omega, (hc 0).trans (by go_simp), (hc 1).trans (by go_simp), (hc 2).trans (by go_simp), (hc 3).trans (by go_simp)⟩
theorem grew_at {base : Nat} {v v' : Value} {o : List Int} {w W W' : World} (h : Grew v v' W W') (hO : OwnR base v o w) {p : Addr} (hp : w.heap.size ≤ p.block) {x : Value} (hx : W.cell? p = some x) : W'.cell? p = some x :=
  (h.cell (World.block_lt_of_cell? _ _ hx) (hO.under hp)).trans hx
set_option maxHeartbeats 4000000 in
set_option maxRecDepth 100000 in
theorem split_go (n n1 : Nat) (soft : Bool) (r : Int) (y : Sp) (h : Norm.syl r = false) (hs : splitOf r = some y) (hn : (y.soft && !soft) = false) (hp : (Norm.pieces soft y.one).length ≤ 48) (hnn : n + 48 ≤ n1)
    (H1 : SplitAt n1 soft y.one) (H2 : SplitAt n1 soft y.two) : SplitAt n soft r := by
  intro base t v o w hT hO hb hl
  have hS := fun W => isSyl_any r W
  rw [h] at hS
  have HS := Lib.hid hS
  rw [pieces_go h hs hn]
  have hR := fun W (hW : Below w.heap.size w W) => split_any t r W (hT W (hW.mono hb))
  rw [hs] at hR
  obtain ⟨v0, v1, v2, v3, v4⟩ := y
  simp only at H1 H2 hn hp ⊢
  have K1 := Lib.hid H1
  have K2 := Lib.hid H2
  have HT := Lib.hid hT
  have HO := Lib.hid hO
  have HR := Lib.hid hR
  obtain ⟨b0, b1, b2, b3, rfl, -, -, -, -⟩ := hT.now
  unfold SplitAt at K1 K2
  generalize Norm.pieces soft v1 = a at K1 hp ⊢
  generalize Norm.pieces soft v2 = b at K2 ⊢
  have HP := Lib.hid hp
  clear hS h hs hR H1 H2 hp hT hO
  by_cases h0 : v2 = 0
  · rw [if_pos h0]
    subst h0
    cases v3 <;> cases soft <;> simp only [Bool.not_true, Bool.not_false, Bool.and_true, Bool.and_false, reduceCtorEq] at hn
    all_goals
      clear hn K2
      go_enter Try.func32, Try.ntmps32
      go_wp2_with fail
      refine (HS.out _).mono ?_
      rintro e w1 ⟨rfl, rfl⟩
      go_wp2_with fail
      refine (HR.out _ (below_one _ _)).mono ?_
      rintro e w2 ⟨rfl, hb2⟩
      have B2 := Lib.hid (below_then (below_one w _) hb2)
      obtain ⟨hz, e0, e1, e2, e3⟩ := boxTable hb2
      clear hb2
      simp only [Option.getD_some, Option.isSome_some, encSp]
      have W3 := Lib.hid (fun ob => below_new B2.out (Nat.le_refl _) ob)
      go_wp2_with fail
      refine (K1.out base _ v o _ (HT.out.next ((W3.out _).mono hb)) (HO.out.keep (W3.out _)) (Nat.le_trans hb (W3.out _).size) (by omega)).mono ?_
      rintro e w3 ⟨v5, rfl, ho3, hg3⟩
      have G3 := Lib.hid hg3
      have O3 := Lib.hid ho3
      have hz3 : w.heap.size < w3.heap.size := Nat.lt_of_lt_of_le (Nat.lt_of_lt_of_le hz (by simp)) hg3.size
      have hy3 : w2.heap.size < w3.heap.size := Nat.lt_of_lt_of_le (by simp) hg3.size
      have f0 := grew_at hg3 HO.out (p := ⟨w.heap.size, 0, none⟩) (Nat.le_refl _) (cell_past _ e0)
      have f1 := grew_at hg3 HO.out (p := ⟨w.heap.size, 1, none⟩) (Nat.le_refl _) (cell_past _ e1)
      have f2 := grew_at hg3 HO.out (p := ⟨w.heap.size, 2, none⟩) (Nat.le_refl _) (cell_past _ e2)
      have f3 := grew_at hg3 HO.out (p := ⟨w.heap.size, 3, none⟩) (Nat.le_refl _) (cell_past _ e3)
      have f4 : w3.cell? ⟨w2.heap.size, 2, none⟩ = some (.int .i32 0) := grew_at hg3 HO.out (p := ⟨w2.heap.size, 2, none⟩) (Nat.le_of_lt hz) (by simp)
      have G4 := Lib.hid ((Grew.of_below (W3.out _) v).trans hg3)
      clear ho3 hg3 e0 e1 e2 e3
      go_wp2
      go_ret
      exact ⟨_, rfl, by rw [List.append_nil]; exact O3.out, G4.out⟩
  · rw [if_neg h0]
    have hne : (v2 == 0) = false := by simpa using h0
    clear h0
    cases v3 <;> cases soft <;> simp only [Bool.not_true, Bool.not_false, Bool.and_true, Bool.and_false, reduceCtorEq] at hn
    all_goals
      clear hn
      go_enter Try.func32, Try.ntmps32
      go_wp2_with fail
      refine (HS.out _).mono ?_
      rintro e w1 ⟨rfl, rfl⟩
      go_wp2_with fail
      refine (HR.out _ (below_one _ _)).mono ?_
      rintro e w2 ⟨rfl, hb2⟩
      have B2 := Lib.hid (below_then (below_one w _) hb2)
      obtain ⟨hz, e0, e1, e2, e3⟩ := boxTable hb2
      clear hb2
      simp only [Option.getD_some, Option.isSome_some, encSp]
      have W3 := Lib.hid (fun ob => below_new B2.out (Nat.le_refl _) ob)
      go_wp2_with fail
      refine (K1.out base _ v o _ (HT.out.next ((W3.out _).mono hb)) (HO.out.keep (W3.out _)) (Nat.le_trans hb (W3.out _).size) (by omega)).mono ?_
      rintro e w3 ⟨v5, rfl, ho3, hg3⟩
      have G3 := Lib.hid hg3
      have O3 := Lib.hid ho3
      have hz3 : w.heap.size < w3.heap.size := Nat.lt_of_lt_of_le (Nat.lt_of_lt_of_le hz (by simp)) hg3.size
      have hy3 : w2.heap.size < w3.heap.size := Nat.lt_of_lt_of_le (by simp) hg3.size
      have f0 := grew_at hg3 HO.out (p := ⟨w.heap.size, 0, none⟩) (Nat.le_refl _) (cell_past _ e0)
      have f1 := grew_at hg3 HO.out (p := ⟨w.heap.size, 1, none⟩) (Nat.le_refl _) (cell_past _ e1)
      have f2 := grew_at hg3 HO.out (p := ⟨w.heap.size, 2, none⟩) (Nat.le_refl _) (cell_past _ e2)
      have f3 := grew_at hg3 HO.out (p := ⟨w.heap.size, 3, none⟩) (Nat.le_refl _) (cell_past _ e3)
      have f4 : w3.cell? ⟨w2.heap.size, 2, none⟩ = some (.int .i32 v2) := grew_at hg3 HO.out (p := ⟨w2.heap.size, 2, none⟩) (Nat.le_of_lt hz) (by simp)
      have G4 := Lib.hid ((Grew.of_below (W3.out _) v).trans hg3)
      clear ho3 hg3 e0 e1 e2 e3
      go_wp2_with fail
      refine (K2.out base _ v5 (o ++ a) _ (HT.out.next (G4.out.below hb HO.out.off)) O3.out (Nat.le_trans hb (Nat.le_of_lt hz3)) (by rw [List.length_append]; have := HP.out; omega)).mono ?_
      rintro e w6 ⟨v6, rfl, ho6, hg6⟩
      have R := Lib.hid (And.intro ho6 (G4.out.trans hg6))
      clear ho6 hg6
      go_wp2
      go_ret
      refine ⟨_, rfl, ?_, R.out.2⟩
      rw [← List.append_assoc]
      exact R.out.1
/-- The contract of 'split' at r, out of those of what it is split into. -/
theorem split_by (n n1 : Nat) (h8 : n ≤ 800000) (hnn : n + 48 ≤ n1) (soft : Bool) (r : Int) (H : ∀ y, splitOf r = some y → SplitAt n1 soft y.one ∧ SplitAt n1 soft y.two) : SplitAt n soft r := by
  have weak : SplitAt 800000 soft r → SplitAt n soft r := fun h base t v o w h1 h2 h3 h4 => h base t v o w h1 h2 h3 (by omega)
  cases hS : Norm.syl r with
  | true => exact weak (split_syl soft r hS)
  | false =>
    cases hs : splitOf r with
    | none => exact weak (split_stay soft r hS fun y hy => by rw [hs] at hy; cases hy)
    | some y =>
      cases hn : (y.soft && !soft) with
      | true =>
        refine weak (split_stay soft r hS fun z hz => ?_)
        rw [hs] at hz
        obtain rfl := Option.some.inj hz
        simpa using hn
      | false =>
        obtain ⟨h1, h2⟩ := H y hs
        exact split_go n n1 soft r y hS hs hn (pieces_len _ _) hnn h1 h2
theorem split_flat0 (soft : Bool) (r : Int) (h : flat r = true) : SplitAt 700000 soft r :=
  split_by 700000 800000 (by omega) (by omega) soft r fun y hy => by unfold flat at h; rw [hy] at h; cases h
theorem split_flat1 (soft : Bool) (r : Int) (h : flat1 r = true) : SplitAt 600000 soft r :=
  split_by 600000 700000 (by omega) (by omega) soft r fun y hy => by
    unfold flat1 at h
    rw [hy] at h
    simp only [Bool.and_eq_true] at h
    exact ⟨split_flat0 soft _ h.1, split_flat0 soft _ h.2⟩
theorem splitOne_any (soft : Bool) (r : Int) : SplitAt 500000 soft r :=
  split_by 500000 600000 (by omega) (by omega) soft r fun _ hy => ⟨split_flat1 soft _ (split_flat hy).1, split_flat1 soft _ (split_flat hy).2⟩
end Go.Proofs.Ytpmcmbkilcpleaa
