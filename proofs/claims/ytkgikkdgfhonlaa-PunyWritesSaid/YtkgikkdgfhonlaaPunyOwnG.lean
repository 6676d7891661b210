/-
  Proved here: puny's Decode. Conditions: the string has at most 1,000 bytes.
-/
import Derived.Test.YtkgikkdgfhonlaaPunyOwnF
import Derived.Test.YtkgikkdgfhonlaaPunyIns
import Derived.Test.YtkgikkdgfhonlaaFoldBytes
namespace Go.Proofs.Ytkgikkdgfhonlaa
open Go.RowKit Utf
namespace Utf
theorem eightFrom_is : ∀ (t : List UInt8) (k : Nat), (eightFrom t k = -1 ∧ ∀ c ∈ t, c.toNat < 128) ∨ (0 ≤ eightFrom t k ∧ ∃ c ∈ t, 128 ≤ c.toNat)
  | [], _ => .inl ⟨rfl, fun c hc => by cases hc⟩
  | b :: t, k => by
    unfold eightFrom
    by_cases h : b.toNat < 128
    · rw [if_pos h]
      rcases eightFrom_is t (k + 1) with ⟨h1, h2⟩ | ⟨h1, c, h2, h3⟩
      · refine .inl ⟨h1, fun c hc => ?_⟩
        rcases List.mem_cons.1 hc with rfl | hc
        · exact h
        · exact h2 c hc
      · exact .inr ⟨h1, c, List.mem_cons_of_mem _ h2, h3⟩
    · rw [if_neg h]
      exact .inr ⟨by omega, b, by simp, by omega⟩
end Utf
namespace Puny
theorem valB_lt {c : UInt8} {v : Int} (h : valB c = some v) : c.toNat < 128 := by
  unfold valB valOf byteZ at h
  split at h
  · omega
  · split at h
    · omega
    · split at h
      · omega
      · cases h
theorem wide_iff {bs : List UInt8} : wideB bs = true ↔ ∃ c ∈ bs, 128 ≤ c.toNat := by
  unfold wideB
  rw [List.any_eq_true]
  constructor
  · rintro ⟨c, h1, h2⟩
    exact ⟨c, h1, by have := of_decide_eq_true h2; omega⟩
  · rintro ⟨c, h1, h2⟩
    exact ⟨c, h1, decide_eq_true (by omega)⟩
/-- A byte that is 80 or more can't be read, wherever it stands. -/
theorem decB_plain {bs : List UInt8} (h : ∀ c ∈ bs.take (dashAt bs), c.toNat < 128) : decB bs = decL bs.length (bs.drop (tailAt bs)) 72 true (start ((bs.take (dashAt bs)).map byteZ)) := by
  unfold decB
  cases hw : wideB bs with
  | false => rw [if_neg (by decide)]
  | true =>
    rw [if_pos rfl]
    cases hd : decL bs.length (bs.drop (tailAt bs)) 72 true (start ((bs.take (dashAt bs)).map byteZ)) with
    | none => rfl
    | some out =>
      exfalso
      obtain ⟨ds, -, -, h3, -, -⟩ := decL_back _ _ _ _ _ _ hd (Int.le_refl 128) (Int.le_refl 0) (fun x hx => (rightZ_iff x).2 (by
        obtain ⟨c, hc, rfl⟩ := List.mem_map.1 hx
        have := h c hc
        unfold byteZ
        omega))
      have hr : ∀ c ∈ bs.drop (tailAt bs), c.toNat < 128 := fun c hc => by
        have hm : valB c ∈ (bs.drop (tailAt bs)).map valB := List.mem_map.2 ⟨c, hc, rfl⟩
        rw [h3] at hm
        obtain ⟨v, -, hv⟩ := List.mem_map.1 hm
        exact valB_lt hv.symm
      obtain ⟨c, hc, h8⟩ := wide_iff.1 hw
      by_cases h0 : dashAt bs = 0
      · unfold tailAt at hr
        rw [if_pos h0, List.drop_zero] at hr
        have := hr c hc
        omega
      · unfold tailAt at hr
        rw [if_neg h0] at hr
        rw [at_dash h0] at hc
        rcases List.mem_append.1 hc with hc | hc
        · rcases List.mem_append.1 hc with hc | hc
          · have := h c hc; omega
          · rw [List.mem_singleton] at hc; subst hc; exact absurd h8 (by decide)
        · have := hr c hc; omega
theorem decB_wide {bs : List UInt8} (h : ∃ c ∈ bs.take (dashAt bs), 128 ≤ c.toNat) : decB bs = none := by
  obtain ⟨c, h1, h2⟩ := h
  unfold decB
  rw [wide_iff.2 ⟨c, List.mem_of_mem_take h1, h2⟩, if_pos rfl]
theorem decP_next {bs R : List UInt8} {u L m : Nat} {ro : List Int} {rn ri q d b b' : Int} {f : Bool}
    (I : ∃ fuel, R.length ≤ fuel ∧ decB bs = decL fuel R b f ⟨ro, rn, ri⟩) (hN : numB b R 36 1 0 0 = some (d, u))
    (hL : L = ro.length) (hq : (ri + d) / ((L : Int) + 1) = q) (hm : (ri + d) % ((L : Int) + 1) = (m : Int)) (hb : b' = adapt d ((L : Int) + 1) f) (hov : ri + d ≤ 2147483647) (hR : rightZ (rn + q) = true) :
    ∃ fuel, (R.drop u).length ≤ fuel ∧ decB bs = decL fuel (R.drop u) b' false ⟨ro.take m ++ [rn + q] ++ ro.drop m, rn + q, m + 1⟩ := by
  obtain ⟨fuel, h1, h2⟩ := I
  have hbd := numB_bd b _ _ _ _ _ _ _ hN (by decide) (by decide)
  cases R with
  | nil => cases hN
  | cons x l =>
    obtain ⟨k, rfl⟩ : ∃ k, fuel = k + 1 := ⟨fuel - 1, by simp only [List.length_cons] at h1; omega⟩
    have hm1 := Int.emod_lt_of_pos (ri + d) (show (0 : Int) < (L : Int) + 1 by omega)
    have hok : okStep ⟨ro, rn, ri⟩ d = true := by
      unfold okStep limit
      show (decide (ri + d ≤ 2147483647) && rightZ (rn + (ri + d) / ((ro.length : Int) + 1))) = true
      rw [← hL, hq, hR, decide_eq_true hov]; rfl
    refine ⟨k, by rw [List.length_drop]; simp only [List.length_cons] at h1 ⊢; omega, ?_⟩
    rw [h2, decL_more hN hok]
    have e1 : rstep ⟨ro, rn, ri⟩ d = ⟨ro.take m ++ [rn + q] ++ ro.drop m, rn + q, m + 1⟩ := by
      have h3 := rstep_out ⟨ro, rn, ri⟩ d
      have h4 : (rstep ⟨ro, rn, ri⟩ d).n = rn + q := by show rn + (ri + d) / ((ro.length : Int) + 1) = rn + q; rw [← hL, hq]
      have h5 : (rstep ⟨ro, rn, ri⟩ d).i = (m : Int) + 1 := by show (ri + d) % ((ro.length : Int) + 1) + 1 = m + 1; rw [← hL, hm]
      have h6 : (rstep ⟨ro, rn, ri⟩ d).out = ro.take m ++ [rn + q] ++ ro.drop m := by
        rw [h3, h4]
        show ro.take ((ri + d) % ((ro.length : Int) + 1)).toNat ++ ((rn + q) :: ro.drop ((ri + d) % ((ro.length : Int) + 1)).toNat) = _
        rw [← hL, hm]
        simp
      cases hr : rstep ⟨ro, rn, ri⟩ d with
      | mk o n i => rw [hr] at h4 h5 h6; simp only at h4 h5 h6; rw [h4, h5, h6]
    rw [e1, hb, hL]
theorem decP_none {bs R : List UInt8} {r : Rd} {b : Int} {f : Bool} (I : ∃ fuel, R.length ≤ fuel ∧ decB bs = decL fuel R b f r) (hR : R ≠ []) (hN : numB b R 36 1 0 0 = none) : decB bs = none := by
  obtain ⟨fuel, -, h2⟩ := I
  cases R with
  | nil => exact absurd rfl hR
  | cons x l => rw [h2, decL_none hN]
theorem decP_bad {bs R : List UInt8} {r : Rd} {b d : Int} {u : Nat} {f : Bool} (I : ∃ fuel, R.length ≤ fuel ∧ decB bs = decL fuel R b f r) (hN : numB b R 36 1 0 0 = some (d, u)) (ho : okStep r d = false) : decB bs = none := by
  obtain ⟨fuel, -, h2⟩ := I
  cases R with
  | nil => cases hN
  | cons x l => rw [h2, decL_bad hN ho]
theorem decP_end {bs : List UInt8} {r : Rd} {b : Int} {f : Bool} (I : ∃ fuel, ([] : List UInt8).length ≤ fuel ∧ decB bs = decL fuel [] b f r) : decB bs = some r.out := by
  obtain ⟨fuel, -, h2⟩ := I
  rw [h2]
  cases fuel <;> rfl
end Puny
/-- All but block g is as it was. -/
structure Only (g : Nat) (w w' : World) : Prop where
  os : w'.os = w.os
  tape : w'.tape = w.tape
  output : w'.output = w.output
  size : w.heap.size ≤ w'.heap.size
  block : ∀ k, k < w.heap.size → k ≠ g → w'.heap[k]? = w.heap[k]?
theorem Only.refl (g : Nat) (w : World) : Only g w w := ⟨rfl, rfl, rfl, Nat.le_refl _, fun _ _ _ => rfl⟩
theorem Only.trans {g : Nat} {a b c : World} (h : Only g a b) (k : Only g b c) : Only g a c :=
  ⟨k.os.trans h.os, k.tape.trans h.tape, k.output.trans h.output, Nat.le_trans h.size k.size, fun i hi hne => (k.block i (Nat.lt_of_lt_of_le hi h.size) hne).trans (h.block i hi hne)⟩
theorem Only.below {g : Nat} {w w' : World} (h : Only g w w') {base : Nat} (hb : base ≤ w.heap.size) (hg : base ≤ g) : Below base w w' := ⟨h.os, h.tape, h.output, h.size, fun k hk => h.block k (by omega) (by omega)⟩
section
variable {P : Program}
/-- 'append(v, x)', where there is room for it. -/
theorem append_push (W : World) (ht : P.underlying 29 = some (.slice 21)) (hi : (P.info? 21).map (fun i => (i.zero, i.size, i.bytes)) = some (some (.int .i32 0), 1, 4)) (g c : Nat) (l : List Int) (x : Int) (hr : Room g c l W) (hc : l.length < c) (n : Nat) (hn : n = l.length) (N : Nat) (hN : N = W.heap.size)
    {ops : Array Oper} {rest : List Oper} {o : Oper} {a : Act} {Q : Exit → Act → World → Prop} (hgd : o.guard = none) (s y : Operand)
    (ho : o.op = .call { callee := .builtin .append, args := #[s, y], argTypes := #[29, 29] })
    (hs : a.eval s = .slice (some ⟨g, 0, none⟩) n c) (hx : a.eval y = .slice (some ⟨N, 0, none⟩) 1 1)
    (h : ∀ w', Room g c (l ++ [x]) w' → Only g W w' → wpList P ops Q rest (a.put o.dst (.slice (some ⟨g, 0, none⟩) (n + 1) c)) w') : wpList P ops Q (o :: rest) a (W.alloc (.cells #[.int .i32 x] 21)) := by
  subst hN hn
  have hgl := hr.lt
  have hold : (W.alloc (.cells #[.int .i32 x] 21)).heap[g]? = W.heap[g]? := heap_alloc_old W _ hgl
  have hr2 := hr.keep hold
  have hnew : (W.alloc (.cells #[.int .i32 x] 21)).heap[W.heap.size]? = some (.cells #[.int .i32 x] 21 (0, 0)) := heap_alloc_new W _
  have hsrc : Src P 1 29 (.slice (some ⟨W.heap.size, 0, none⟩) 1 1) 1 [.int .i32 x] (W.alloc (.cells #[.int .i32 x] 21)) := Src.ofSlice _ ht ⟨W.heap.size, 0, none⟩ 1 1 [.int .i32 x] rfl (fun j u hj => by
    rw [Addr.add_lit]
    match j, hj with
    | 0, hj => simp only [List.getElem?_cons_zero, Option.some.injEq] at hj; subst hj; unfold World.cell?; rw [hnew]; rfl
    | j + 1, hj => simp at hj) (fun u hu => by rw [List.mem_singleton] at hu; subst hu; rfl)
  refine wpList_append_room1 _ hgd s y 29 29 ho 21 _ _ ht hi g 0 l.length c hs _ hx 1 [.int .i32 x] hsrc (by omega) (fun j hj => hr2.cells _ (by simp only [List.length_singleton] at hj; omega)) (fun j _ => hr2.free _) ?_
  have hb : Below 0 (W.alloc (.cells #[.int .i32 x] 21)) ((W.alloc (.cells #[.int .i32 x] 21)).setCell ⟨g, 0 + l.length, none⟩ (.int .i32 x)) := (Below.refl _ _).setCell (p := ⟨g, 0 + l.length, none⟩) (Nat.zero_le _) _
  refine h _ (by rw [Nat.zero_add]; exact hr2.push hc x) ⟨hb.os, hb.tape, hb.output, ?_, fun k hk hne => ?_⟩
  · have := hb.size
    simp at this
    simp only [World.setCells]
    simp
  · show ((W.alloc (.cells #[.int .i32 x] 21)).setCell ⟨g, 0 + l.length, none⟩ (.int .i32 x)).heap[k]? = _
    rw [Below.heap_setCell _ _ _ _ hne]
    exact heap_alloc_old W _ hk
end
end Go.Proofs.Ytkgikkdgfhonlaa
