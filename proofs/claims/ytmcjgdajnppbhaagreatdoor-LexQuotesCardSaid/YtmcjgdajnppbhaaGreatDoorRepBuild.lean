/-
  Proved here: what strings.NewReplacer is built to at a quote's two signs: which bytes are replaced, and by what. Conditions: as they stand in each.
-/
import Derived.Test.YtmcjgdajnppbhaaGreatDoorLexFits
import Derived.Test.YtmcjgdajnppbhaaGreatDoorDomRow
import Derived.Deep.WholeRow
import Derived.Laws.IdiomStrings
import Derived.Test.YtmcjgdajnppbhaaGreatDoorUtfRunes
namespace Go.Proofs.YtmcjgdajnppbhaaGreatDoor
open Go.RowKit Utf
/-- The cells of a byteStringReplacer: what stands for each byte, and which bytes are replaced. -/
def repCells (f : Nat → Value) (v : Value) : List Value := (List.range 256).map f ++ [v]
theorem repCells_len (f : Nat → Value) (v : Value) : (repCells f v).length = 257 := by simp [repCells]
theorem repCells_at (f : Nat → Value) (v : Value) (k : Nat) (hk : k < 256) : (repCells f v)[k]? = some (f k) := by
  unfold repCells
  rw [List.getElem?_append_left (by simpa using hk)]
  simp [hk]
theorem repCells_last (f : Nat → Value) (v : Value) : (repCells f v)[256]? = some v := by
  unfold repCells
  rw [List.getElem?_append_right (by simp)]
  simp
theorem repCells_set (f : Nat → Value) (v x : Value) (k : Nat) (hk : k < 256) : (repCells f v).set k x = repCells (fun j => if j = k then x else f j) v := by
  apply List.ext_getElem?
  intro j
  by_cases hj : j < 256
  · rw [repCells_at _ _ _ hj, List.getElem?_set, repCells_len]
    by_cases e : k = j
    · subst e
      simp; omega
    · rw [if_neg e, if_neg (fun h => e h.symm), repCells_at _ _ _ hj]
  · by_cases h6 : j = 256
    · subst h6
      rw [repCells_last, List.getElem?_set_ne (by omega), repCells_last]
    · rw [List.getElem?_eq_none (by rw [List.length_set, repCells_len]; omega), List.getElem?_eq_none (by rw [repCells_len]; omega)]
theorem repCells_put (f : Nat → Value) (v x : Value) : (repCells f v).set 256 x = repCells f x := by
  unfold repCells
  rw [List.set_append_right _ _ (by simp)]
  simp
/-- A byteStringReplacer lies in block B. -/
def RepAt (B : Nat) (f : Nat → Value) (v : Value) (w : World) : Prop := w.heap[B]? = some (.cells (repCells f v).toArray 97 (0, 0))
theorem RepAt.lt {B : Nat} {f : Nat → Value} {v : Value} {w : World} (h : RepAt B f v w) : B < w.heap.size := (Array.getElem?_eq_some_iff.1 h).1
theorem RepAt.at_ {B : Nat} {f : Nat → Value} {v : Value} {w : World} (h : RepAt B f v w) (k : Nat) (hk : k < 256) : w.cell? ⟨B, k, none⟩ = some (f k) := by
  have := repCells_at f v k hk
  unfold RepAt at h
  simp [World.cell?, h, this]
theorem RepAt.last {B : Nat} {f : Nat → Value} {v : Value} {w : World} (h : RepAt B f v w) : w.cell? ⟨B, 256, none⟩ = some v := by
  have := repCells_last f v
  unfold RepAt at h
  simp [World.cell?, h, this]
theorem RepAt.free {B : Nat} {f : Nat → Value} {v : Value} {w : World} (h : RepAt B f v w) (k : Nat) : w.frozen? ⟨B, k, none⟩ = false := by unfold RepAt at h; simp [World.frozen?, h]
theorem RepAt.set {B : Nat} {f : Nat → Value} {v : Value} {w : World} (h : RepAt B f v w) (k : Nat) (hk : k < 256) (x : Value) : RepAt B (fun j => if j = k then x else f j) v (w.setCell ⟨B, k, none⟩ x) := by
  unfold RepAt at h ⊢
  rw [← repCells_set f v x k hk]
  simp [World.setCell, Array.getElem?_modify, h]
theorem RepAt.put {B : Nat} {f : Nat → Value} {v : Value} {w : World} (h : RepAt B f v w) (x : Value) : RepAt B f x (w.setCell ⟨B, 256, none⟩ x) := by
  unfold RepAt at h ⊢
  rw [← repCells_put f v x]
  simp [World.setCell, Array.getElem?_modify, h]
theorem RepAt.keep {B : Nat} {f : Nat → Value} {v : Value} {w w' : World} (h : RepAt B f v w) (hb : Below w.heap.size w w') : RepAt B f v w' := (hb.block B h.lt).trans h
theorem RepAt.grown {B : Nat} {f : Nat → Value} {v : Value} {w w' : World} {row : Option Nat} (h : RepAt B f v w) (hg : w.grownBy w' row) (hne : some B ≠ row) : RepAt B f v w' := (hg.block B h.lt hne).trans h
set_option maxRecDepth 100000 in
theorem zero_rep (v : Value) : Tryz.zeroCells97.toList.set 256 v = repCells (fun _ => .slice none 0 0) v := by kernel_rfl
set_option maxRecDepth 100000 in
theorem zero_len : Tryz.zeroCells97.size = 257 := by kernel_rfl
set_option maxRecDepth 100000 in
theorem size_rep : (Tryz.prog.info? 97).map (·.size) = some 257 := by kernel_rfl
theorem rep_store (v : Value) (hv : v.oneCell' = true) (W : World) : (storeCells ⟨W.heap.size, 0, none⟩ (Tryz.zeroCells97.toList.set 256 v)).run Tryz.prog (W.alloc (.cells Tryz.zeroCells97 97)) = .ok () (W.alloc (.cells (repCells (fun _ => .slice none 0 0) v).toArray 97)) := by
  have h := run_storeCells_new (P := Tryz.prog) W 97 Tryz.zeroCells97 (repCells (fun _ => .slice none 0 0) v).toArray (by rw [size_rep, List.size_toArray, repCells_len]) (by rw [zero_len, List.size_toArray, repCells_len]) (by
    rw [Array.all_eq_true]
    intro i hi
    simp only [List.getElem_toArray]
    have hm := List.getElem_mem (l := repCells (fun _ => .slice none 0 0) v) (n := i) (by simpa using hi)
    generalize (repCells (fun _ => Value.slice none 0 0) v)[i]'(by simpa using hi) = u at hm
    unfold repCells at hm
    rw [List.mem_append] at hm
    rcases hm with hm | hm
    · obtain ⟨j, -, rfl⟩ := List.mem_map.1 hm
      rfl
    · rw [List.mem_singleton.1 hm]
      exact hv)
  rw [zero_rep]
  exact h
/-- What a call has built of a replacer so far: the bytes l are replaced. -/
structure Reps (base B T : Nat) (f : Nat → Value) (l : List (List UInt8)) (W : World) : Prop where
  rep : RepAt B f (.slice (some ⟨T, 0, none⟩) l.length 2) W
  own : OwnS base (.slice (some ⟨T, 0, none⟩) l.length 2) l W
  ne : T ≠ B
  low : base ≤ B
theorem Reps.keep {base B T : Nat} {f : Nat → Value} {l : List (List UInt8)} {W W' : World} (h : Reps base B T f l W) (hb : Below W.heap.size W W') : Reps base B T f l W' := ⟨h.rep.keep hb, h.own.keep hb, h.ne, h.low⟩
theorem OwnS.set {base B : Nat} {v : Value} {l : List (List UInt8)} {w : World} (h : OwnS base v l w) (hne : some B ≠ v.ownBlock) (k : Nat) (x : Value) : OwnS base v l (w.setCell ⟨B, k, none⟩ x) := by
  refine ⟨h.1, ?_⟩
  rcases h.2 with h0 | ⟨g, cap, cur, rfl, h1, hg, h2⟩
  · exact .inl h0
  · refine .inr ⟨g, cap, cur, rfl, h1, ?_, h2⟩
    rw [← hg]
    exact Below.heap_setCell _ _ _ _ (fun e => hne (by rw [show (⟨B, k, none⟩ : Addr).block = B from rfl] at e; rw [e]; rfl))
theorem Reps.set {base B T : Nat} {f : Nat → Value} {l : List (List UInt8)} {W : World} (h : Reps base B T f l W) (k : Nat) (hk : k < 256) (x : Value) : Reps base B T (fun j => if j = k then x else f j) l (W.setCell ⟨B, k, none⟩ x) :=
  ⟨h.rep.set k hk x, h.own.set (fun e => h.ne (by injection e with e; exact e.symm)) k x, h.ne, h.low⟩
/-- 'append(v, x)' where there is room: v's row alone turns. -/
theorem append_fit (W : World) (base T : Nat) (l : List (List UInt8)) (hown : OwnS base (.slice (some ⟨T, 0, none⟩) l.length 2) l W) (hl : l.length < 2) (x : List UInt8)
    (N : Nat) (hN : N = W.heap.size)
    {ops : Array Oper} {rest : List Oper} {o : Oper} {a : Act} {Q : Exit → Act → World → Prop} (hgd : o.guard = none) (s y : Operand)
    (ho : o.op = .call { callee := .builtin .append, args := #[s, y], argTypes := #[47, 47] })
    (hs : a.eval s = .slice (some ⟨T, 0, none⟩) l.length 2) (hx : a.eval y = .slice (some ⟨N, 0, none⟩) 1 1)
    (h : ∀ w', OwnS base (.slice (some ⟨T, 0, none⟩) (l.length + 1) 2) (l ++ [x]) w' → (W.alloc (.cells #[.string ⟨x.toArray⟩] 9)).grownBy w' (some T) → wpList Tryz.prog ops Q rest (a.put o.dst (.slice (some ⟨T, 0, none⟩) (l.length + 1) 2)) w') : wpList Tryz.prog ops Q (o :: rest) a (W.alloc (.cells #[.string ⟨x.toArray⟩] 9)) := by
  subst hN
  obtain ⟨i0, hi0, hz0, hs0, hb0⟩ := info_parts info_str
  have hown' := World.ownsRow.alloc hown (.cells #[.string ⟨x.toArray⟩] 9)
  refine wpList_append_fits _ hgd s y 47 ho base 9 i0 1 Tryz.underlying47 hi0 hs0 T l.length 2 (l.map strV) hs hown' ⟨W.heap.size, 0, none⟩ 1 1 [.string ⟨x.toArray⟩] hx rfl ?_ (fun u hu => by rw [List.mem_singleton.1 hu]; rfl) (by omega) ?_
  · intro j u hj
    have e : (⟨W.heap.size, 0, none⟩ : Addr).add j = ⟨W.heap.size, j, none⟩ := by unfold Addr.add; split <;> simp_all
    have hj' : j < 1 := (List.getElem?_eq_some_iff.1 hj).1
    rw [e, World.cell?_alloc_at _ _ _ _ (by simp)]
    rw [← hj]
    obtain rfl : j = 0 := by omega
    rfl
  · intro w' ho' hg
    refine h w' ?_ hg
    unfold OwnS
    rw [List.length_append, List.map_append]
    exact ho'
/-- Two bytes lie in block q; two strings in block T. -/
def TwoAt (q : Nat) (a b : Int) (W : World) : Prop := q < W.heap.size ∧ W.cell? ⟨q, 0, none⟩ = some (.int .u8 a) ∧ W.cell? ⟨q, 1, none⟩ = some (.int .u8 b)
theorem TwoAt.keep {q : Nat} {a b : Int} {W W' : World} (h : TwoAt q a b W) (hs : W.heap.size ≤ W'.heap.size) (hk : W'.heap[q]? = W.heap[q]?) : TwoAt q a b W' :=
  ⟨Nat.lt_of_lt_of_le h.1 hs, (World.cell?_of_block (a := ⟨q, 0, none⟩) hk).trans h.2.1, (World.cell?_of_block (a := ⟨q, 1, none⟩) hk).trans h.2.2⟩
def StrsAt (T : Nat) (a b : ByteArray) (W : World) : Prop := T < W.heap.size ∧ W.cell? ⟨T, 0, none⟩ = some (.string a) ∧ W.cell? ⟨T, 1, none⟩ = some (.string b)
theorem StrsAt.keep {T : Nat} {a b : ByteArray} {W W' : World} (h : StrsAt T a b W) (hs : W.heap.size ≤ W'.heap.size) (hk : W'.heap[T]? = W.heap[T]?) : StrsAt T a b W' :=
  ⟨Nat.lt_of_lt_of_le h.1 hs, (World.cell?_of_block (a := ⟨T, 0, none⟩) hk).trans h.2.1, (World.cell?_of_block (a := ⟨T, 1, none⟩) hk).trans h.2.2⟩
/-- A replacer of a quote's two signs lies in block B. -/
def RepOk (base B : Nat) (W : World) : Prop := ∃ p q c1 c2 T, base ≤ B ∧ base ≤ p ∧ base ≤ q ∧ base ≤ T ∧ RepAt B (fun j => if j = 34 then .slice (some ⟨p, 0, none⟩) 2 c1 else if j = 92 then .slice (some ⟨q, 0, none⟩) 2 c2 else .slice none 0 0) (.slice (some ⟨T, 0, none⟩) 2 2) W ∧ TwoAt p 92 34 W ∧ TwoAt q 92 92 W ∧ StrsAt T ⟨#[92]⟩ ⟨#[34]⟩ W
theorem RepOk.set {base B g : Nat} {W : World} (h : RepOk base B W) (hg : g < base) (i : Nat) (v : Value) : RepOk base B (W.setCell ⟨g, i, none⟩ v) := by
  obtain ⟨p, q, c1, c2, T, l1, l2, l3, l4, h1, h2, h3, h4⟩ := h
  exact ⟨p, q, c1, c2, T, l1, l2, l3, l4, (Below.heap_setCell _ _ _ _ (show B ≠ g by omega)).trans h1, h2.keep (by simp) (Below.heap_setCell _ _ _ _ (show p ≠ g by omega)), h3.keep (by simp) (Below.heap_setCell _ _ _ _ (show q ≠ g by omega)), h4.keep (by simp) (Below.heap_setCell _ _ _ _ (show T ≠ g by omega))⟩
theorem RepOk.keep {base B : Nat} {W W' : World} (h : RepOk base B W) (hb : Below W.heap.size W W') : RepOk base B W' := by
  obtain ⟨p, q, c1, c2, T, l1, l2, l3, l4, h1, h2, h3, h4⟩ := h
  exact ⟨p, q, c1, c2, T, l1, l2, l3, l4, h1.keep hb, h2.keep hb.size (hb.block p h2.1), h3.keep hb.size (hb.block q h3.1), h4.keep hb.size (hb.block T h4.1)⟩
/-- The bytes of a string, in new memory, and what stands for one byte more. -/
theorem Reps.bytes {base B T : Nat} {f : Nat → Value} {l : List (List UInt8)} {W : World} (h : Reps base B T f l W) (S : ByteArray) (hS : S.size = 2) (k : Nat) (hk : k < 256) :
    ∃ cap W1, (convert 9 36 (.string S)).run Tryz.prog W = .ok (.slice (some ⟨W.heap.size, 0, none⟩) 2 cap) W1 ∧ W1.cell? ⟨B, k, none⟩ = some (f k) ∧ W1.frozen? ⟨B, k, none⟩ = false ∧ Below W.heap.size W W1 ∧
      Reps base B T (fun j => if j = k then .slice (some ⟨W.heap.size, 0, none⟩) 2 cap else f j) l (W1.setCell ⟨B, k, none⟩ (.slice (some ⟨W.heap.size, 0, none⟩) 2 cap)) ∧
      TwoAt W.heap.size (S[0].toNat : Int) (S[1].toNat : Int) (W1.setCell ⟨B, k, none⟩ (.slice (some ⟨W.heap.size, 0, none⟩) 2 cap)) := by
  obtain ⟨cap, W1, hrun, hcell, hb, hlt⟩ := bytes_of S W
  rw [hS] at hrun
  have hr := h.keep hb
  have hBW := h.rep.lt
  have hne : (⟨B, k, none⟩ : Addr).block ≠ W.heap.size := by show B ≠ _; omega
  refine ⟨cap, W1, hrun, hr.rep.at_ k hk, hr.rep.free k, hb, hr.set k hk _, ?_⟩
  refine TwoAt.keep (W := W1) ⟨hlt, hcell 0 (by omega), hcell 1 (by omega)⟩ (by simp) (Below.heap_setCell _ _ _ _ (fun e => hne e.symm))
theorem nil_eq (W : World) : (binOp .eql 36 (.slice none 0 0) (.slice none 0 0)).run Tryz.prog W = .ok (.bool true) W := by kernel_rfl
theorem nil_ne (W : World) : (binOp .neq 36 (.slice none 0 0) (.slice none 0 0)).run Tryz.prog W = .ok (.bool false) W := by kernel_rfl
theorem some_ne (a : Addr) (n c : Nat) (W : World) : (binOp .neq 36 (.slice (some a) n c) (.slice none 0 0)).run Tryz.prog W = .ok (.bool true) W := by kernel_rfl
/-- 'string([]byte{b})'. -/
theorem byte_str (W : World) (b : UInt8) (v : Value) (hv : v = .int .u8 (b.toNat : Int)) : (convert 36 9 (.slice (some ⟨W.heap.size, 0, none⟩) 1 1)).run Tryz.prog (W.alloc (.cells #[v] 5)) = .ok (.string ⟨#[b]⟩) (W.alloc (.cells #[v] 5)) := by
  subst hv
  refine run_convert_bytes_back _ 36 9 5 ⟨W.heap.size, 0, none⟩ 1 [b] Tryz.underlying36 Tryz.underlying5 Tryz.underlying9 fun j hj => ?_
  have hj0 : j = 0 := by simpa using hj
  subst hj0
  rw [show (⟨W.heap.size, 0, none⟩ : Addr).add 0 = ⟨W.heap.size, 0, none⟩ by unfold Addr.add; simp, World.cell?_alloc_at _ _ _ _ (by simp)]
  rfl
theorem Reps.more {base B T : Nat} {f : Nat → Value} {l : List (List UInt8)} {W W1 w2 : World} {x : List UInt8} (h : Reps base B T f l W) (h1 : Below W.heap.size W W1) (hg : W1.grownBy w2 (some T)) (ho : OwnS base (.slice (some ⟨T, 0, none⟩) (l.length + 1) 2) (l ++ [x]) w2) :
    (∃ v, w2.cell? ⟨B, 256, none⟩ = some v) ∧ w2.frozen? ⟨B, 256, none⟩ = false ∧ Reps base B T f (l ++ [x]) (w2.setCell ⟨B, 256, none⟩ (.slice (some ⟨T, 0, none⟩) (l.length + 1) 2)) := by
  have hr := (h.rep.keep h1).grown hg (fun e => h.ne (by injection e with e; exact e.symm))
  refine ⟨⟨_, hr.last⟩, hr.free 256, ?_, ?_, h.ne, h.low⟩
  · rw [List.length_append]
    exact hr.put _
  · rw [List.length_append]
    exact ho.set (fun e => h.ne (by injection e with e; exact e.symm)) _ _
set_option maxHeartbeats 4000000 in
set_option maxRecDepth 100000 in
theorem build_any (g h c : Nat) (w : World) (h4 : w.cell? ⟨g, 4, none⟩ = some (.slice (some ⟨h, 0, none⟩) 4 c)) (hc : 4 ≤ c)
    (S0 S1 S2 S3 : ByteArray) (e0 : S0 = ⟨#[34]⟩) (e1 : S1 = ⟨#[92, 34]⟩) (e2 : S2 = ⟨#[92]⟩) (e3 : S3 = ⟨#[92, 92]⟩)
    (s0 : w.cell? ⟨h, 0, none⟩ = some (.string S0)) (s1 : w.cell? ⟨h, 1, none⟩ = some (.string S1)) (s2 : w.cell? ⟨h, 2, none⟩ = some (.string S2)) (s3 : w.cell? ⟨h, 3, none⟩ = some (.string S3)) :
    Calls Tryz.prog 36 #[.pointer (some ⟨g, 0, none⟩)] w fun e w' => ∃ B, e = .returned (.iface 98 (.pointer (some ⟨B, 0, none⟩))) ∧ RepOk w.heap.size B w' ∧ Below w.heap.size w w' := by
  have hcz : (4 : Int) ≤ (c : Int) := by omega
  have z0 : S0.size = 1 := by rw [e0]; rfl
  have z1 : S1.size = 2 := by rw [e1]; rfl
  have z2 : S2.size = 1 := by rw [e2]; rfl
  have z3 : S3.size = 2 := by rw [e3]; rfl
  have b0 : S0[0].toNat = 34 := by subst e0; rfl
  have b2 : S2[0].toNat = 92 := by subst e2; rfl
  have E1 := Lib.hid e1
  have E3 := Lib.hid e3
  clear e0 e1 e2 e3
  go_enter Tryz.func36, Tryz.ntmps36
  go_wp2
  go_loopg [4, 5] 3 (fun gk s4 s5 wr => ((s5 = .int .i64 0 ∧ s4 = .bool true ∧ 2 < gk) ∨ (s5 = .int .i64 2 ∧ s4 = .bool false ∧ 1 < gk) ∨ (s5 = .int .i64 4 ∧ s4 = .bool false ∧ 0 < gk)) ∧ w = wr)
  case atStart => exact ⟨.inl ⟨rfl, rfl, by omega⟩, rfl⟩
  case round =>
    obtain ⟨⟨rfl, rfl, hg⟩ | ⟨rfl, rfl, hg⟩ | ⟨rfl, rfl, hg⟩, rfl⟩ := hrel
    · go_wp2
      go_roundg 2
      case measure => omega
      case rel => exact ⟨.inr (.inl ⟨rfl, rfl, by omega⟩), rfl⟩
    · go_wp2
      go_roundg 1
      case measure => omega
      case rel => exact ⟨.inr (.inr ⟨rfl, rfl, by omega⟩), rfl⟩
    · obtain ⟨i0, hi0, hz0, hs0, hbb⟩ := info_parts info_str
      have hst := rep_store (.slice (some ⟨w.heap.size, 0, none⟩) 0 2) rfl
      have hlt : h < w.heap.size := World.block_lt_of_cell? _ _ s0
      go_wp2_with (at_make; refine wpList_make_own _ rfl _ _ 47 rfl w.heap.size 9 i0 (.string ⟨#[]⟩) 1 Tryz.underlying47 hi0 hz0 hs0 .i64 .i64 2 2 rfl rfl rfl (by rw [hbb]; decide) (by simp only [maxLen]; omega) (Nat.le_refl _) ?_; intro w1 ho1 hg1)
      obtain ⟨B, hB⟩ : ∃ B, B = w1.heap.size := ⟨_, rfl⟩
      obtain ⟨W0, hW0⟩ : ∃ W0, W0 = w1.alloc (.cells (repCells (fun _ => .slice none 0 0) (.slice (some ⟨w.heap.size, 0, none⟩) 0 2)).toArray 97) := ⟨_, rfl⟩
      rw [← hW0, ← hB]
      have hB0 : Below w.heap.size w w1 := ⟨hg1.os, hg1.tape, hg1.output, hg1.size, fun k hk => hg1.block k hk (by simp)⟩
      have hR0 : Reps w.heap.size B w.heap.size (fun _ => .slice none 0 0) [] W0 := by
        have hsz := World.ownsRow.lt ho1 w.heap.size rfl
        refine ⟨?_, ?_, by omega, by omega⟩
        · rw [hW0, hB]; exact heap_alloc_new w1 _
        · rw [hW0]; exact World.ownsRow.alloc ho1 _
      have hBW : Below w.heap.size w W0 := by rw [hW0]; exact hB0.alloc hB0.size _
      have HS := Lib.hid (fun (W : World) (hb : Below w.heap.size w W) => And.intro ((hb.cell (p := ⟨h, 0, none⟩) hlt).trans s0) (And.intro ((hb.cell (p := ⟨h, 1, none⟩) hlt).trans s1) (And.intro ((hb.cell (p := ⟨h, 2, none⟩) hlt).trans s2) ((hb.cell (p := ⟨h, 3, none⟩) hlt).trans s3))))
      have R0 := Lib.hid (And.intro hR0 hBW)
      clear hW0 hB hB0 hR0 hBW hst ho1 hg1 s0 s1 s2 s3 h4
      obtain ⟨T, hT⟩ : ∃ T, T = w.heap.size := ⟨_, rfl⟩
      rw [← hT] at R0 ⊢
      have HT := Lib.hid hT
      clear hT
      have hnq := nil_eq
      go_loopg [12] 3 (fun gk s12 wr => (s12 = .int .i64 2 ∧ 2 < gk ∧ Hid (Reps T B T (fun _ => .slice none 0 0) [] wr ∧ Below T w wr)) ∨
        (s12 = .int .i64 0 ∧ 1 < gk ∧ Hid (∃ q c2, Reps T B T (fun j => if j = 92 then .slice (some ⟨q, 0, none⟩) 2 c2 else .slice none 0 0) [[92]] wr ∧ TwoAt q 92 92 wr ∧ q ≠ T ∧ q ≠ B ∧ T ≤ q ∧ Below T w wr)) ∨
        (s12 = .int .i64 (-2) ∧ 0 < gk ∧ Hid (RepOk T B wr ∧ Below T w wr)))
      case atStart => exact .inl ⟨rfl, by omega, R0⟩
      case round =>
        rcases hrel with ⟨rfl, hg, I⟩ | ⟨rfl, hg, I⟩ | ⟨rfl, hg, I⟩
        · obtain ⟨t0, t1, t2, t3⟩ := HS.out wr (by rw [← HT.out]; exact I.out.2)
          have c92 := I.out.1.rep.at_ 92 (by omega)
          have c256 := I.out.1.rep.last
          have hcv := byte_str wr 92 (.int .u8 92) rfl
          go_wp2_with (at_builtin; refine append_fit _ T T [] ((I.out.1.own.keep (Below.alloc (Below.refl _ wr) (Nat.le_refl _) _))) (by decide) [92] _ (by simp) rfl _ _ rfl rfl rfl ?_; intro w2 ho2 hg2; obtain ⟨⟨x256, d256⟩, f256, hr2⟩ := I.out.1.more (Below.alloc (Below.alloc (Below.refl _ wr) (Nat.le_refl _) _) (by simp) _) hg2 ho2)
          have hTw : T ≤ wr.heap.size := Nat.le_trans (by rw [HT.out]; exact Nat.le_refl _) I.out.2.size
          have hb2 : Below T w (w2.setCell ⟨B, 256, none⟩ (.slice (some ⟨T, 0, none⟩) 1 2)) := ((((I.out.2.alloc hTw _).alloc (by simp; omega) _).grown hg2 (by simp; omega) (fun k e => by cases e; exact Nat.le_refl _)).setCell (p := ⟨B, 256, none⟩) I.out.1.low _)
          obtain ⟨W2, hW2⟩ : ∃ W2, W2 = w2.setCell ⟨B, 256, none⟩ (.slice (some ⟨T, 0, none⟩) 1 2) := ⟨_, rfl⟩
          have hr2 : Reps T B T (fun _ => .slice none 0 0) [[92]] W2 := by rw [hW2]; exact hr2
          rw [← hW2] at hb2 ⊢
          obtain ⟨cap, W3, hrun, k92, f92, hb3, hr3, h2⟩ := hr2.bytes S3 z3 92 (by omega)
          rw [hrun]
          simp only [Result.andThen]
          rw [Oper.upon_value]
          have I2 : Hid (∃ q c2, Reps T B T (fun j => if j = 92 then .slice (some ⟨q, 0, none⟩) 2 c2 else .slice none 0 0) [[92]] (W3.setCell ⟨B, 92, none⟩ (.slice (some ⟨W2.heap.size, 0, none⟩) 2 cap)) ∧ TwoAt q 92 92 (W3.setCell ⟨B, 92, none⟩ (.slice (some ⟨W2.heap.size, 0, none⟩) 2 cap)) ∧ q ≠ T ∧ q ≠ B ∧ T ≤ q ∧ Below T w (W3.setCell ⟨B, 92, none⟩ (.slice (some ⟨W2.heap.size, 0, none⟩) 2 cap))) := by
            have hB2 := hr2.rep.lt
            have hT2 := (World.ownsRow.lt hr2.own T rfl).2
            refine Lib.hid ⟨W2.heap.size, cap, hr3, ?_, by omega, by omega, by omega, (hb2.trans (hb3.mono (by omega))).setCell (p := ⟨B, 92, none⟩) hr2.low _⟩
            have e3 := E3.out
            subst e3
            exact h2
          clear hr3 h2 hrun hW2 hr2 hb2 hg2 ho2 d256 f256
          go_wp2
          go_roundg 2
          case measure => omega
          case rel => exact .inr (.inl ⟨rfl, by omega, I2⟩)
        · obtain ⟨q, c2, hR, hQ, hqT, hqB, hqL, hBw⟩ := I.out
          obtain ⟨t0, t1, t2, t3⟩ := HS.out wr (by rw [← HT.out]; exact hBw)
          have c34 : wr.cell? ⟨B, 34, none⟩ = some (.slice none 0 0) := hR.rep.at_ 34 (by omega)
          have c256 := hR.rep.last
          have hcv := byte_str wr 34 (.int .u8 34) rfl
          have HR := Lib.hid hR
          have HQ := Lib.hid hQ
          have HBw := Lib.hid hBw
          clear hR hQ hBw I
          go_wp2_with (at_builtin; refine append_fit _ T T [[92]] ((HR.out.own.keep (Below.alloc (Below.refl _ wr) (Nat.le_refl _) _))) (by decide) [34] _ (by simp) rfl _ _ rfl rfl rfl ?_; intro w2 ho2 hg2; obtain ⟨⟨x256, d256⟩, f256, hr2⟩ := HR.out.more (Below.alloc (Below.alloc (Below.refl _ wr) (Nat.le_refl _) _) (by simp) _) hg2 ho2)
          have hTw : T ≤ wr.heap.size := Nat.le_trans (by rw [HT.out]; exact Nat.le_refl _) HBw.out.size
          have hb2 : Below T w (w2.setCell ⟨B, 256, none⟩ (.slice (some ⟨T, 0, none⟩) 2 2)) := ((((HBw.out.alloc hTw _).alloc (by simp; omega) _).grown hg2 (by simp; omega) (fun k e => by cases e; exact Nat.le_refl _)).setCell (p := ⟨B, 256, none⟩) HR.out.low _)
          have hq2 : TwoAt q 92 92 (w2.setCell ⟨B, 256, none⟩ (.slice (some ⟨T, 0, none⟩) 2 2)) := by
            have hlt := HQ.out.1
            refine HQ.out.keep (by have := hg2.size; simp at this ⊢; omega) ?_
            rw [Below.heap_setCell _ _ _ _ (show q ≠ B from hqB), hg2.block q (by simp; omega) (fun e => hqT (by injection e)), heap_alloc_old _ _ (by simp; omega), heap_alloc_old _ _ hlt]
          have hs2 : StrsAt T ⟨#[92]⟩ ⟨#[34]⟩ (w2.setCell ⟨B, 256, none⟩ (.slice (some ⟨T, 0, none⟩) 2 2)) := by
            refine StrsAt.keep (W := w2) ⟨(World.ownsRow.lt ho2 T rfl).2, OwnS.cell ho2 0 (by decide), OwnS.cell ho2 1 (by decide)⟩ (by simp) (Below.heap_setCell _ _ _ _ HR.out.ne)
          obtain ⟨W2, hW2⟩ : ∃ W2, W2 = w2.setCell ⟨B, 256, none⟩ (.slice (some ⟨T, 0, none⟩) 2 2) := ⟨_, rfl⟩
          have hr2 : Reps T B T (fun j => if j = 92 then .slice (some ⟨q, 0, none⟩) 2 c2 else .slice none 0 0) [[92], [34]] W2 := by rw [hW2]; exact hr2
          rw [← hW2] at hb2 hq2 hs2 ⊢
          obtain ⟨cap, W3, hrun, k34, f34, hb3, hr3, h2⟩ := hr2.bytes S1 z1 34 (by omega)
          rw [hrun]
          simp only [Result.andThen]
          rw [Oper.upon_value]
          have I2 : Hid (RepOk T B (W3.setCell ⟨B, 34, none⟩ (.slice (some ⟨W2.heap.size, 0, none⟩) 2 cap)) ∧ Below T w (W3.setCell ⟨B, 34, none⟩ (.slice (some ⟨W2.heap.size, 0, none⟩) 2 cap))) := by
            have hB2 := hr2.rep.lt
            have hT2 := (World.ownsRow.lt hr2.own T rfl).2
            refine Lib.hid ⟨⟨W2.heap.size, q, cap, c2, T, hr2.low, by omega, hqL, Nat.le_refl _, hr3.rep, ?_, hq2.keep (by have := hb3.size; simp; omega) ((Below.heap_setCell _ _ _ _ (show q ≠ B from hqB)).trans (hb3.block q hq2.1)), hs2.keep (by have := hb3.size; simp; omega) ((Below.heap_setCell _ _ _ _ hr2.ne).trans (hb3.block T hs2.1))⟩, (hb2.trans (hb3.mono (by omega))).setCell (p := ⟨B, 34, none⟩) hr2.low _⟩
            have e1 := E1.out
            subst e1
            exact h2
          have d34 : ∃ v, W3.cell? ⟨B, 34, none⟩ = some v := ⟨_, k34⟩
          clear k34
          obtain ⟨v34, k34⟩ := d34
          clear hr3 h2 hrun hW2 hr2 hb2 hg2 ho2 d256 f256 hq2 hs2
          go_wp2
          go_roundg 1
          case measure => omega
          case rel => exact .inr (.inr ⟨rfl, by omega, I2⟩)
        · obtain ⟨h1, h2⟩ := I.out
          go_wp2
          go_ret
          exact ⟨B, rfl, by rw [← HT.out]; exact h1, by rw [← HT.out]; exact h2⟩
end Go.Proofs.YtmcjgdajnppbhaaGreatDoor
