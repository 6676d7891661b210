/-
  Proved here: slices.Insert of one character into a row of the call's own that has room for it. Conditions: as they stand in each.
  Proved here: puny's Decode. Conditions: the string has at most 1,000 bytes.
  Proved here: puny's Decode, walked. Conditions: the string has at most 10,000 bytes.
  Proved here: the head of the laws of layer 5 comes out true. Conditions: none.
-/
import Derived.Test.YtmbammhkkcnoaaaGreatPunyB
import Derived.Laws.CopyOwn
import Derived.Lib.Overlaps
import Derived.Lib.JoinLaws
import Derived.BigRegion
import Derived.Deep.RegionLaw
import Derived.Test.YtmbammhkkcnoaaaGreatPunyC
import Derived.Test.YtmbammhkkcnoaaaGreatFoldBytes
namespace Go.Proofs.YtmbammhkkcnoaaaGreat
open Go.RowKit Utf
/-- A row of characters in block g, with room for c. -/
def Room (g c : Nat) (l : List Int) (w : World) : Prop := ∃ cur : List Value, w.heap[g]? = some (.cells cur.toArray 21 (0, 0)) ∧ cur.length = c ∧ l.length ≤ c ∧ cur.take l.length = l.map runeV
theorem Room.own {base g c : Nat} {l : List Int} {w : World} (h : Room g c l w) (hg : base ≤ g) (hc : c ≤ maxLen) : OwnR base (.slice (some ⟨g, 0, none⟩) l.length c) l w := by
  obtain ⟨cur, h1, h2, h3, h4⟩ := h
  exact ⟨by rw [List.length_map, Nat.mul_one], .inr ⟨g, c, cur.toArray, rfl, hg, h1, h3, hc, by rw [Nat.mul_one]; simpa using h2, by rw [Nat.mul_one]; exact h4⟩⟩
theorem Room.of_own {base g c n : Nat} {l : List Int} {w : World} (h : OwnR base (.slice (some ⟨g, 0, none⟩) n c) l w) : Room g c l w ∧ n = l.length := by
  rcases h.2 with ⟨h0, -⟩ | ⟨g', cap, cur, h0, h1, h2, h3, h4, h5, h6⟩
  · cases h0
  · injection h0 with e1 e2 e3
    injection e1 with e1
    injection e1 with e1
    subst e1 e2 e3
    exact ⟨⟨cur.toList, h2, by rw [Nat.mul_one] at h5; simpa using h5, h3, by rw [Nat.mul_one] at h6; exact h6⟩, rfl⟩
theorem Room.keep {g c : Nat} {l : List Int} {w w' : World} (h : Room g c l w) (hb : w'.heap[g]? = w.heap[g]?) : Room g c l w' := by
  obtain ⟨cur, h1, h2⟩ := h
  exact ⟨cur, hb.trans h1, h2⟩
theorem Room.lt {g c : Nat} {l : List Int} {w : World} (h : Room g c l w) : g < w.heap.size := by
  obtain ⟨cur, h1, -⟩ := h
  exact (Array.getElem?_eq_some_iff.1 h1).1
theorem Room.push {g c : Nat} {l : List Int} {w : World} (h : Room g c l w) (hc : l.length < c) (x : Int) : Room g c (l ++ [x]) (w.setCells g l.length [.int .i32 x]) := by
  obtain ⟨cur, h1, h2, h3, h4⟩ := h
  refine ⟨cur.set l.length (.int .i32 x), ?_, by rw [List.length_set]; exact h2, by rw [List.length_append]; show l.length + 1 ≤ c; omega, ?_⟩
  · show (w.setCell ⟨g, l.length, none⟩ (.int .i32 x)).heap[g]? = _
    simp [World.setCell, Array.getElem?_modify, h1]
  · rw [List.length_append, List.map_append, List.length_singleton]
    rw [List.take_succ_eq_append_getElem (by rw [List.length_set]; omega), List.getElem_set_self, List.take_set_of_le (Nat.le_refl _), h4]
    rfl
theorem Room.cells {g c : Nat} {l : List Int} {w : World} (h : Room g c l w) (k : Nat) (hk : k < c) : (w.cell? ⟨g, k, none⟩).isSome = true := by
  obtain ⟨cur, h1, h2, -⟩ := h
  simp [World.cell?, h1]
  omega
theorem Room.free {g c : Nat} {l : List Int} {w : World} (h : Room g c l w) (k : Nat) : w.frozen? ⟨g, k, none⟩ = false := by
  obtain ⟨cur, h1, -⟩ := h
  simp [World.frozen?, h1]
theorem below_cells {B g : Nat} {w0 w : World} (h : Below B w0 w) (hg : B ≤ g) (o : Nat) (x : Value) : Below B w0 (w.setCells g o [x]) := h.setCell (p := ⟨g, o, none⟩) hg x
/-- Inserted between: what two copies make of a row. -/
theorem spliced {cur : List Value} {l : List Int} {c i : Nat} {x : Int} (h2 : cur.length = c) (h3 : l.length < c) (h4 : cur.take l.length = l.map runeV) (hi : i ≤ l.length) :
    (splice (splice cur (i + 1) ((l.drop i).map runeV)) i [runeV x]).length = c ∧ (splice (splice cur (i + 1) ((l.drop i).map runeV)) i [runeV x]).take (l.length + 1) = (l.take i ++ [x] ++ l.drop i).map runeV := by
  have e1 : (splice cur (i + 1) ((l.drop i).map runeV)).length = c := by rw [length_splice _ _ _ (by rw [List.length_map, List.length_drop]; omega), h2]
  refine ⟨by rw [length_splice _ _ _ (by simp only [List.length_singleton]; omega), e1], ?_⟩
  have e2 : (splice cur (i + 1) ((l.drop i).map runeV)).take i = (l.take i).map runeV := by
    unfold splice
    rw [List.take_append_of_le_length (by rw [List.length_take]; omega), List.take_take, Nat.min_eq_left (by omega), List.map_take, ← h4, List.take_take, Nat.min_eq_left hi]
  have e3 : (splice cur (i + 1) ((l.drop i).map runeV)).drop (i + 1) = (l.drop i).map runeV ++ cur.drop (i + 1 + (l.length - i)) := by
    unfold splice
    have : (cur.take (i + 1)).length = i + 1 := by rw [List.length_take]; omega
    rw [List.drop_append_of_le_length (by omega), List.drop_of_length_le (by omega), List.nil_append, List.length_map, List.length_drop]
  unfold splice at e2 e3 ⊢
  rw [e2, List.length_singleton, e3, List.map_append, List.map_append, List.append_assoc]
  have hlen : ((l.take i).map runeV ++ ([runeV x] ++ (l.drop i).map runeV)).length = l.length + 1 := by
    rw [List.length_append, List.length_append, List.length_map, List.length_map, List.length_take, List.length_drop, List.length_singleton]
    omega
  rw [show (l.take i).map runeV ++ ([runeV x] ++ ((l.drop i).map runeV ++ cur.drop (i + 1 + (l.length - i)))) = ((l.take i).map runeV ++ ([runeV x] ++ (l.drop i).map runeV)) ++ cur.drop (i + 1 + (l.length - i)) by simp, List.take_left' hlen]
  rfl
section
variable {P : Program}
/-- A copy inside a row, as one step of a region that draws its order; the world behind it told outright. -/
theorem step_copy_here {ops : Array Oper} {o : Oper} {a : Act} {w : World} {K : Act → World → Prop} {Q : Exit → Act → World → Prop} {E : Prop} (hgd : o.guard = none) (d s : Operand) (dT sT : TypeId)
    (ho : o.op = .call { callee := .builtin .copy, args := #[d, s], argTypes := #[dT, sT] }) (elem : TypeId) (hu : P.underlying dT = some (.slice elem)) (hsz : (P.info? elem).map (·.size) = some 1)
    (g off dLen dCap : Nat) (ad : Addr) (sLen sCap : Nat) (hd : a.eval d = .slice (some ⟨g, off, none⟩) dLen dCap) (hs : a.eval s = .slice (some ad) sLen sCap)
    (cur : List Value) (t : TypeId) (hg : w.heap[g]? = some (.cells cur.toArray t (0, 0))) (cs : List Value) (hn : cs.length = Nat.min sLen dLen)
    (hsrc : ∀ j v, cs[j]? = some v → w.cell? (ad.add j) = some v) (hfit : off + cs.length ≤ cur.length) (h1 : ∀ v ∈ cs, v.oneCell' = true)
    (h : ∀ w', Hid (w' = w.setRow g (splice cur off cs).toArray) → K (a.put o.dst (goInt cs.length)) w') :
    if Region.wanted o (yielded ops a.tmps) = true then Oper.wp P o a w K Q else E := by
  have hw : Region.wanted o (yielded ops a.tmps) = true := by simp [Region.wanted, hgd]
  rw [if_pos hw]
  have hrun := run_copy_row (P := P) w dT sT o.type elem g off dLen dCap ad sLen sCap cur.toArray t cs hu hsz hg hn hsrc (by simpa using hfit) h1
  unfold Oper.wp
  simp [execOp, ho, resolve, invoke, builtin, hd, hs, hrun, Result.andThen]
  exact h _ (show _ = _ by simp [splice])
end
def InsPost (base g c : Nat) (l : List Int) (w : World) (e : Ending) (w' : World) : Prop := e = .returned (.slice (some ⟨g, 0, none⟩) l.length c) ∧ Room g c l w' ∧ Below base w w'
end Go.Proofs.YtmbammhkkcnoaaaGreat
namespace Go.Proofs.YtmbammhkkcnoaaaGreat
open Go.RowKit Utf
namespace Utf
theorem eightFrom_is : ∀ (t : List UInt8) (k : Nat), (eightFrom t k = -1 ∧ ∀ c ∈ t, c.toNat < 128) ∨ (0 ≤ eightFrom t k ∧ ∃ c ∈ t, 128 ≤ c.toNat)
  | [], _ => .inl ⟨rfl, fun c hc => by cases hc⟩
  | b :: t, k => by
    unfold eightFrom
    by_cases h : b.toNat < 128
    · rw [if_pos h]
      rcases eightFrom_is t (k + 1) with ⟨h1, h2⟩ | ⟨h1, c, h2, h3⟩
      · refine .inl ⟨h1, fun c hc => ?_⟩
        rcases List.mem_cons.1 hc with rfl | hc
        · exact h
        · exact h2 c hc
      · exact .inr ⟨h1, c, List.mem_cons_of_mem _ h2, h3⟩
    · rw [if_neg h]
      exact .inr ⟨by omega, b, by simp, by omega⟩
end Utf
namespace Puny
theorem valB_lt {c : UInt8} {v : Int} (h : valB c = some v) : c.toNat < 128 := by
  unfold valB valOf byteZ at h
  split at h
  · omega
  · split at h
    · omega
    · split at h
      · omega
      · cases h
theorem wide_iff {bs : List UInt8} : wideB bs = true ↔ ∃ c ∈ bs, 128 ≤ c.toNat := by
  unfold wideB
  rw [List.any_eq_true]
  constructor
  · rintro ⟨c, h1, h2⟩
    exact ⟨c, h1, by have := of_decide_eq_true h2; omega⟩
  · rintro ⟨c, h1, h2⟩
    exact ⟨c, h1, decide_eq_true (by omega)⟩
/-- A byte that is 80 or more can't be read, wherever it stands. -/
theorem decB_plain {bs : List UInt8} (h : ∀ c ∈ bs.take (dashAt bs), c.toNat < 128) : decB bs = decL bs.length (bs.drop (tailAt bs)) 72 true (start ((bs.take (dashAt bs)).map byteZ)) := by
  unfold decB
  cases hw : wideB bs with
  | false => rw [if_neg (by decide)]
  | true =>
    rw [if_pos rfl]
    cases hd : decL bs.length (bs.drop (tailAt bs)) 72 true (start ((bs.take (dashAt bs)).map byteZ)) with
    | none => rfl
    | some out =>
      exfalso
      obtain ⟨ds, -, -, h3, -, -⟩ := decL_back _ _ _ _ _ _ hd (Int.le_refl 128) (Int.le_refl 0) (fun x hx => (rightZ_iff x).2 (by
        obtain ⟨c, hc, rfl⟩ := List.mem_map.1 hx
        have := h c hc
        unfold byteZ
        omega))
      have hr : ∀ c ∈ bs.drop (tailAt bs), c.toNat < 128 := fun c hc => by
        have hm : valB c ∈ (bs.drop (tailAt bs)).map valB := List.mem_map.2 ⟨c, hc, rfl⟩
        rw [h3] at hm
        obtain ⟨v, -, hv⟩ := List.mem_map.1 hm
        exact valB_lt hv.symm
      obtain ⟨c, hc, h8⟩ := wide_iff.1 hw
      by_cases h0 : dashAt bs = 0
      · unfold tailAt at hr
        rw [if_pos h0, List.drop_zero] at hr
        have := hr c hc
        omega
      · unfold tailAt at hr
        rw [if_neg h0] at hr
        rw [at_dash h0] at hc
        rcases List.mem_append.1 hc with hc | hc
        · rcases List.mem_append.1 hc with hc | hc
          · have := h c hc; omega
          · rw [List.mem_singleton] at hc; subst hc; exact absurd h8 (by decide)
        · have := hr c hc; omega
theorem decB_wide {bs : List UInt8} (h : ∃ c ∈ bs.take (dashAt bs), 128 ≤ c.toNat) : decB bs = none := by
  obtain ⟨c, h1, h2⟩ := h
  unfold decB
  rw [wide_iff.2 ⟨c, List.mem_of_mem_take h1, h2⟩, if_pos rfl]
theorem decP_next {bs R : List UInt8} {u L m : Nat} {ro : List Int} {rn ri q d b b' : Int} {f : Bool}
    (I : ∃ fuel, R.length ≤ fuel ∧ decB bs = decL fuel R b f ⟨ro, rn, ri⟩) (hN : numB b R 36 1 0 0 = some (d, u))
    (hL : L = ro.length) (hq : (ri + d) / ((L : Int) + 1) = q) (hm : (ri + d) % ((L : Int) + 1) = (m : Int)) (hb : b' = adapt d ((L : Int) + 1) f) (hov : ri + d ≤ 2147483647) (hR : rightZ (rn + q) = true) :
    ∃ fuel, (R.drop u).length ≤ fuel ∧ decB bs = decL fuel (R.drop u) b' false ⟨ro.take m ++ [rn + q] ++ ro.drop m, rn + q, m + 1⟩ := by
  obtain ⟨fuel, h1, h2⟩ := I
  have hbd := numB_bd b _ _ _ _ _ _ _ hN (by decide) (by decide)
  cases R with
  | nil => cases hN
  | cons x l =>
    obtain ⟨k, rfl⟩ : ∃ k, fuel = k + 1 := ⟨fuel - 1, by simp only [List.length_cons] at h1; omega⟩
    have hm1 := Int.emod_lt_of_pos (ri + d) (show (0 : Int) < (L : Int) + 1 by omega)
    have hok : okStep ⟨ro, rn, ri⟩ d = true := by
      unfold okStep limit
      show (decide (ri + d ≤ 2147483647) && rightZ (rn + (ri + d) / ((ro.length : Int) + 1))) = true
      rw [← hL, hq, hR, decide_eq_true hov]; rfl
    refine ⟨k, by rw [List.length_drop]; simp only [List.length_cons] at h1 ⊢; omega, ?_⟩
    rw [h2, decL_more hN hok]
    have e1 : rstep ⟨ro, rn, ri⟩ d = ⟨ro.take m ++ [rn + q] ++ ro.drop m, rn + q, m + 1⟩ := by
      have h3 := rstep_out ⟨ro, rn, ri⟩ d
      have h4 : (rstep ⟨ro, rn, ri⟩ d).n = rn + q := by show rn + (ri + d) / ((ro.length : Int) + 1) = rn + q; rw [← hL, hq]
      have h5 : (rstep ⟨ro, rn, ri⟩ d).i = (m : Int) + 1 := by show (ri + d) % ((ro.length : Int) + 1) + 1 = m + 1; rw [← hL, hm]
      have h6 : (rstep ⟨ro, rn, ri⟩ d).out = ro.take m ++ [rn + q] ++ ro.drop m := by
        rw [h3, h4]
        show ro.take ((ri + d) % ((ro.length : Int) + 1)).toNat ++ ((rn + q) :: ro.drop ((ri + d) % ((ro.length : Int) + 1)).toNat) = _
        rw [← hL, hm]
        simp
      cases hr : rstep ⟨ro, rn, ri⟩ d with
      | mk o n i => rw [hr] at h4 h5 h6; simp only at h4 h5 h6; rw [h4, h5, h6]
    rw [e1, hb, hL]
theorem decP_none {bs R : List UInt8} {r : Rd} {b : Int} {f : Bool} (I : ∃ fuel, R.length ≤ fuel ∧ decB bs = decL fuel R b f r) (hR : R ≠ []) (hN : numB b R 36 1 0 0 = none) : decB bs = none := by
  obtain ⟨fuel, -, h2⟩ := I
  cases R with
  | nil => exact absurd rfl hR
  | cons x l => rw [h2, decL_none hN]
theorem decP_bad {bs R : List UInt8} {r : Rd} {b d : Int} {u : Nat} {f : Bool} (I : ∃ fuel, R.length ≤ fuel ∧ decB bs = decL fuel R b f r) (hN : numB b R 36 1 0 0 = some (d, u)) (ho : okStep r d = false) : decB bs = none := by
  obtain ⟨fuel, -, h2⟩ := I
  cases R with
  | nil => cases hN
  | cons x l => rw [h2, decL_bad hN ho]
theorem decP_end {bs : List UInt8} {r : Rd} {b : Int} {f : Bool} (I : ∃ fuel, ([] : List UInt8).length ≤ fuel ∧ decB bs = decL fuel [] b f r) : decB bs = some r.out := by
  obtain ⟨fuel, -, h2⟩ := I
  rw [h2]
  cases fuel <;> rfl
end Puny
/-- All but block g is as it was. -/
structure Only (g : Nat) (w w' : World) : Prop where
  os : w'.os = w.os
  tape : w'.tape = w.tape
  output : w'.output = w.output
  size : w.heap.size ≤ w'.heap.size
  block : ∀ k, k < w.heap.size → k ≠ g → w'.heap[k]? = w.heap[k]?
theorem Only.refl (g : Nat) (w : World) : Only g w w := ⟨rfl, rfl, rfl, Nat.le_refl _, fun _ _ _ => rfl⟩
theorem Only.trans {g : Nat} {a b c : World} (h : Only g a b) (k : Only g b c) : Only g a c :=
  ⟨k.os.trans h.os, k.tape.trans h.tape, k.output.trans h.output, Nat.le_trans h.size k.size, fun i hi hne => (k.block i (Nat.lt_of_lt_of_le hi h.size) hne).trans (h.block i hi hne)⟩
theorem Only.below {g : Nat} {w w' : World} (h : Only g w w') {base : Nat} (hb : base ≤ w.heap.size) (hg : base ≤ g) : Below base w w' := ⟨h.os, h.tape, h.output, h.size, fun k hk => h.block k (by omega) (by omega)⟩
section
variable {P : Program}
/-- 'append(v, x)', where there is room for it. -/
theorem append_push (W : World) (ht : P.underlying 51 = some (.slice 21)) (hi : (P.info? 21).map (fun i => (i.zero, i.size, i.bytes)) = some (some (.int .i32 0), 1, 4)) (g c : Nat) (l : List Int) (x : Int) (hr : Room g c l W) (hc : l.length < c) (n : Nat) (hn : n = l.length) (N : Nat) (hN : N = W.heap.size)
    {ops : Array Oper} {rest : List Oper} {o : Oper} {a : Act} {Q : Exit → Act → World → Prop} (hgd : o.guard = none) (s y : Operand)
    (ho : o.op = .call { callee := .builtin .append, args := #[s, y], argTypes := #[51, 51] })
    (hs : a.eval s = .slice (some ⟨g, 0, none⟩) n c) (hx : a.eval y = .slice (some ⟨N, 0, none⟩) 1 1)
    (h : ∀ w', Room g c (l ++ [x]) w' → Only g W w' → wpList P ops Q rest (a.put o.dst (.slice (some ⟨g, 0, none⟩) (n + 1) c)) w') : wpList P ops Q (o :: rest) a (W.alloc (.cells #[.int .i32 x] 21)) := by
  subst hN hn
  have hgl := hr.lt
  have hold : (W.alloc (.cells #[.int .i32 x] 21)).heap[g]? = W.heap[g]? := heap_alloc_old W _ hgl
  have hr2 := hr.keep hold
  have hnew : (W.alloc (.cells #[.int .i32 x] 21)).heap[W.heap.size]? = some (.cells #[.int .i32 x] 21 (0, 0)) := heap_alloc_new W _
  have hsrc : Src P 1 51 (.slice (some ⟨W.heap.size, 0, none⟩) 1 1) 1 [.int .i32 x] (W.alloc (.cells #[.int .i32 x] 21)) := Src.ofSlice _ ht ⟨W.heap.size, 0, none⟩ 1 1 [.int .i32 x] rfl (fun j u hj => by
    rw [Addr.add_lit]
    match j, hj with
    | 0, hj => simp only [List.getElem?_cons_zero, Option.some.injEq] at hj; subst hj; unfold World.cell?; rw [hnew]; rfl
    | j + 1, hj => simp at hj) (fun u hu => by rw [List.mem_singleton] at hu; subst hu; rfl)
  refine wpList_append_room1 _ hgd s y 51 51 ho 21 _ _ ht hi g 0 l.length c hs _ hx 1 [.int .i32 x] hsrc (by omega) (fun j hj => hr2.cells _ (by simp only [List.length_singleton] at hj; omega)) (fun j _ => hr2.free _) ?_
  have hb : Below 0 (W.alloc (.cells #[.int .i32 x] 21)) ((W.alloc (.cells #[.int .i32 x] 21)).setCell ⟨g, 0 + l.length, none⟩ (.int .i32 x)) := (Below.refl _ _).setCell (p := ⟨g, 0 + l.length, none⟩) (Nat.zero_le _) _
  refine h _ (by rw [Nat.zero_add]; exact hr2.push hc x) ⟨hb.os, hb.tape, hb.output, ?_, fun k hk hne => ?_⟩
  · have := hb.size
    simp at this
    simp only [World.setCells]
    simp
  · show ((W.alloc (.cells #[.int .i32 x] 21)).setCell ⟨g, 0 + l.length, none⟩ (.int .i32 x)).heap[k]? = _
    rw [Below.heap_setCell _ _ _ _ hne]
    exact heap_alloc_old W _ hk
end
end Go.Proofs.YtmbammhkkcnoaaaGreat
namespace Go.Proofs.YtmbammhkkcnoaaaGreat
open Go.RowKit Utf
theorem bytes_len (R : ByteArray) : R.data.toList.length = R.size := by simp
theorem rightZ_wrap {z : Int} (h0 : 1114111 < z) (h1 : z ≤ 4294967295) : rightZ (wrap32 z) = false := by
  have : wrap32 z < 0 ∨ 1114111 < wrap32 z := by unfold wrap32; omega
  cases h : rightZ (wrap32 z) with
  | false => rfl
  | true => have := (rightZ_iff _).1 h; omega
theorem dec_yes {l : List Int} {o : Option (List Int)} {g c base : Nat} {w w' : World} (h : o = some l) (hr : Room g c l w') (hg : base ≤ g) (hc : c ≤ 1000000) (hb : Below w.heap.size w w') : DecPost o w (.returned (.tuple #[.slice (some ⟨g, 0, none⟩) l.length c, .bool true])) w' := by
  subst h
  exact ⟨_, c, rfl, (hr.own hg (by simp only [maxLen]; omega)).runes, hb⟩
end Go.Proofs.YtmbammhkkcnoaaaGreat
namespace Go.Proofs.YtmbammhkkcnoaaaGreat
open Go.RowKit Utf
theorem encP_at (v : Value) (l : List Int) (w : World) (hl : Runes v l w) (hn : l.length ≤ 420) (hr : rightsZ l = true) {bs : List UInt8} (hb : Puny.encB l = bs) :
    Calls Tryz.prog 93 #[v] w (Wrote bs true w) := by
  subst hb
  exact encodeP_yes v l w hl hn hr
/-- What was read, as a walk takes it. -/
def DecAt (l : List Int) (n : Nat) (ok : Bool) (w : World) (e : Ending) (w' : World) : Prop := ∃ A c, e = .returned (.tuple #[.slice A n c, .bool ok]) ∧ Runes (.slice A n c) l w' ∧ Below w.heap.size w w'
end Go.Proofs.YtmbammhkkcnoaaaGreat
