/-
  Proved here: slices.Insert of one character into a row of the call's own that has room for it. Conditions: as they stand in each.
-/
import Derived.Test.YtkgikkdgfhonlaaPunyDec
import Derived.Laws.CopyOwn
import Derived.Lib.Overlaps
import Derived.Lib.JoinLaws
import Derived.BigRegion
import Derived.Deep.RegionLaw
namespace Go.Proofs.Ytkgikkdgfhonlaa
open Go.RowKit Utf
/-- A row of characters in block g, with room for c. -/
def Room (g c : Nat) (l : List Int) (w : World) : Prop := ∃ cur : List Value, w.heap[g]? = some (.cells cur.toArray 21 (0, 0)) ∧ cur.length = c ∧ l.length ≤ c ∧ cur.take l.length = l.map runeV
theorem Room.own {base g c : Nat} {l : List Int} {w : World} (h : Room g c l w) (hg : base ≤ g) (hc : c ≤ maxLen) : OwnR base (.slice (some ⟨g, 0, none⟩) l.length c) l w := by
  obtain ⟨cur, h1, h2, h3, h4⟩ := h
  exact ⟨by rw [List.length_map, Nat.mul_one], .inr ⟨g, c, cur.toArray, rfl, hg, h1, h3, hc, by rw [Nat.mul_one]; simpa using h2, by rw [Nat.mul_one]; exact h4⟩⟩
theorem Room.of_own {base g c n : Nat} {l : List Int} {w : World} (h : OwnR base (.slice (some ⟨g, 0, none⟩) n c) l w) : Room g c l w ∧ n = l.length := by
  rcases h.2 with ⟨h0, -⟩ | ⟨g', cap, cur, h0, h1, h2, h3, h4, h5, h6⟩
  · cases h0
  · injection h0 with e1 e2 e3
    injection e1 with e1
    injection e1 with e1
    subst e1 e2 e3
    exact ⟨⟨cur.toList, h2, by rw [Nat.mul_one] at h5; simpa using h5, h3, by rw [Nat.mul_one] at h6; exact h6⟩, rfl⟩
theorem Room.keep {g c : Nat} {l : List Int} {w w' : World} (h : Room g c l w) (hb : w'.heap[g]? = w.heap[g]?) : Room g c l w' := by
  obtain ⟨cur, h1, h2⟩ := h
  exact ⟨cur, hb.trans h1, h2⟩
theorem Room.lt {g c : Nat} {l : List Int} {w : World} (h : Room g c l w) : g < w.heap.size := by
  obtain ⟨cur, h1, -⟩ := h
  exact (Array.getElem?_eq_some_iff.1 h1).1
theorem Room.push {g c : Nat} {l : List Int} {w : World} (h : Room g c l w) (hc : l.length < c) (x : Int) : Room g c (l ++ [x]) (w.setCells g l.length [.int .i32 x]) := by
  obtain ⟨cur, h1, h2, h3, h4⟩ := h
  refine ⟨cur.set l.length (.int .i32 x), ?_, by rw [List.length_set]; exact h2, by rw [List.length_append]; show l.length + 1 ≤ c; omega, ?_⟩
  · show (w.setCell ⟨g, l.length, none⟩ (.int .i32 x)).heap[g]? = _
    simp [World.setCell, Array.getElem?_modify, h1]
  · rw [List.length_append, List.map_append, List.length_singleton]
    rw [List.take_succ_eq_append_getElem (by rw [List.length_set]; omega), List.getElem_set_self, List.take_set_of_le (Nat.le_refl _), h4]
    rfl
theorem Room.cells {g c : Nat} {l : List Int} {w : World} (h : Room g c l w) (k : Nat) (hk : k < c) : (w.cell? ⟨g, k, none⟩).isSome = true := by
  obtain ⟨cur, h1, h2, -⟩ := h
  simp [World.cell?, h1]
  omega
theorem Room.free {g c : Nat} {l : List Int} {w : World} (h : Room g c l w) (k : Nat) : w.frozen? ⟨g, k, none⟩ = false := by
  obtain ⟨cur, h1, -⟩ := h
  simp [World.frozen?, h1]
theorem below_cells {B g : Nat} {w0 w : World} (h : Below B w0 w) (hg : B ≤ g) (o : Nat) (x : Value) : Below B w0 (w.setCells g o [x]) := h.setCell (p := ⟨g, o, none⟩) hg x
/-- Inserted between: what two copies make of a row. -/
theorem spliced {cur : List Value} {l : List Int} {c i : Nat} {x : Int} (h2 : cur.length = c) (h3 : l.length < c) (h4 : cur.take l.length = l.map runeV) (hi : i ≤ l.length) :
    (splice (splice cur (i + 1) ((l.drop i).map runeV)) i [runeV x]).length = c ∧ (splice (splice cur (i + 1) ((l.drop i).map runeV)) i [runeV x]).take (l.length + 1) = (l.take i ++ [x] ++ l.drop i).map runeV := by
  have e1 : (splice cur (i + 1) ((l.drop i).map runeV)).length = c := by rw [length_splice _ _ _ (by rw [List.length_map, List.length_drop]; omega), h2]
  refine ⟨by rw [length_splice _ _ _ (by simp only [List.length_singleton]; omega), e1], ?_⟩
  have e2 : (splice cur (i + 1) ((l.drop i).map runeV)).take i = (l.take i).map runeV := by
    unfold splice
    rw [List.take_append_of_le_length (by rw [List.length_take]; omega), List.take_take, Nat.min_eq_left (by omega), List.map_take, ← h4, List.take_take, Nat.min_eq_left hi]
  have e3 : (splice cur (i + 1) ((l.drop i).map runeV)).drop (i + 1) = (l.drop i).map runeV ++ cur.drop (i + 1 + (l.length - i)) := by
    unfold splice
    have : (cur.take (i + 1)).length = i + 1 := by rw [List.length_take]; omega
    rw [List.drop_append_of_le_length (by omega), List.drop_of_length_le (by omega), List.nil_append, List.length_map, List.length_drop]
  unfold splice at e2 e3 ⊢
  rw [e2, List.length_singleton, e3, List.map_append, List.map_append, List.append_assoc]
  have hlen : ((l.take i).map runeV ++ ([runeV x] ++ (l.drop i).map runeV)).length = l.length + 1 := by
    rw [List.length_append, List.length_append, List.length_map, List.length_map, List.length_take, List.length_drop, List.length_singleton]
    omega
  rw [show (l.take i).map runeV ++ ([runeV x] ++ ((l.drop i).map runeV ++ cur.drop (i + 1 + (l.length - i)))) = ((l.take i).map runeV ++ ([runeV x] ++ (l.drop i).map runeV)) ++ cur.drop (i + 1 + (l.length - i)) by simp, List.take_left' hlen]
  rfl
section
variable {P : Program}
/-- A copy inside a row, as one step of a region that draws its order; the world behind it told outright. -/
theorem step_copy_here {ops : Array Oper} {o : Oper} {a : Act} {w : World} {K : Act → World → Prop} {Q : Exit → Act → World → Prop} {E : Prop} (hgd : o.guard = none) (d s : Operand) (dT sT : TypeId)
    (ho : o.op = .call { callee := .builtin .copy, args := #[d, s], argTypes := #[dT, sT] }) (elem : TypeId) (hu : P.underlying dT = some (.slice elem)) (hsz : (P.info? elem).map (·.size) = some 1)
    (g off dLen dCap : Nat) (ad : Addr) (sLen sCap : Nat) (hd : a.eval d = .slice (some ⟨g, off, none⟩) dLen dCap) (hs : a.eval s = .slice (some ad) sLen sCap)
    (cur : List Value) (t : TypeId) (hg : w.heap[g]? = some (.cells cur.toArray t (0, 0))) (cs : List Value) (hn : cs.length = Nat.min sLen dLen)
    (hsrc : ∀ j v, cs[j]? = some v → w.cell? (ad.add j) = some v) (hfit : off + cs.length ≤ cur.length) (h1 : ∀ v ∈ cs, v.oneCell' = true)
    (h : ∀ w', Hid (w' = w.setRow g (splice cur off cs).toArray) → K (a.put o.dst (goInt cs.length)) w') :
    if Region.wanted o (yielded ops a.tmps) = true then Oper.wp P o a w K Q else E := by
  have hw : Region.wanted o (yielded ops a.tmps) = true := by simp [Region.wanted, hgd]
  rw [if_pos hw]
  have hrun := run_copy_row (P := P) w dT sT o.type elem g off dLen dCap ad sLen sCap cur.toArray t cs hu hsz hg hn hsrc (by simpa using hfit) h1
  unfold Oper.wp
  simp [execOp, ho, resolve, invoke, builtin, hd, hs, hrun, Result.andThen]
  exact h _ (show _ = _ by simp [splice])
end
def InsPost (base g c : Nat) (l : List Int) (w : World) (e : Ending) (w' : World) : Prop := e = .returned (.slice (some ⟨g, 0, none⟩) l.length c) ∧ Room g c l w' ∧ Below base w w'
set_option maxHeartbeats 4000000 in
set_option maxRecDepth 100000 in
theorem insert_end (base g c vb : Nat) (l : List Int) (x : Int) (w : World) (hr : Room g c l w) (hc : l.length < c) (hb : base ≤ g) (hv : w.heap[vb]? = some (.cells #[.int .i32 x] 21 (0, 0))) :
    Calls Try.prog 33 #[.slice (some ⟨g, 0, none⟩) l.length c, .int .i64 l.length, .slice (some ⟨vb, 0, none⟩) 1 1] w (InsPost base g c (l ++ [x]) w) := by
  have hsrc : Src Try.prog 1 29 (.slice (some ⟨vb, 0, none⟩) 1 1) 1 [.int .i32 x] w := Src.ofSlice w Try.underlying29 ⟨vb, 0, none⟩ 1 1 [.int .i32 x] rfl (fun j u hj => by
    rw [Addr.add_lit]
    match j, hj with
    | 0, hj => simp only [List.getElem?_cons_zero, Option.some.injEq] at hj; subst hj; simp [World.cell?, hv]
    | j + 1, hj => simp at hj) (fun u hu => by rw [List.mem_singleton] at hu; subst hu; rfl)
  have HR := Lib.hid hr
  have HS := Lib.hid hsrc
  have h1 : ∀ j, j < [Value.int .i32 x].length → (w.cell? ⟨g, 0 + l.length + j, none⟩).isSome = true := fun j hj => hr.cells _ (by simp only [List.length_singleton] at hj; omega)
  have h2 : ∀ j, j < [Value.int .i32 x].length → w.frozen? ⟨g, 0 + l.length + j, none⟩ = false := fun j _ => hr.free _
  have H1 := Lib.hid h1
  have H2 := Lib.hid h2
  have hne : ¬ c = l.length := by omega
  clear hr hsrc hv h1 h2
  go_enter Try.func33, Try.ntmps33
  go_wp2_with (at_builtin; refine wpList_append_room1 _ rfl _ _ 29 29 rfl 21 _ _ Try.underlying29 info_i32 g 0 l.length c rfl _ rfl 1 [.int .i32 x] HS.out (by omega) H1.out H2.out ?_)
  go_ret
  refine ⟨?_, HR.out.push hc x, below_cells (Below.refl _ _) hb _ _⟩
  rw [List.length_append]
  rfl
set_option maxHeartbeats 4000000 in
set_option maxRecDepth 100000 in
theorem insert_mid (base g c vb i : Nat) (l : List Int) (x : Int) (w : World) (hr : Room g c l w) (hc : l.length < c) (hcm : c ≤ 1000000) (hb : base ≤ g) (hv : w.heap[vb]? = some (.cells #[.int .i32 x] 21 (0, 0))) (hvg : vb ≠ g) (hi : i < l.length) :
    Calls Try.prog 33 #[.slice (some ⟨g, 0, none⟩) l.length c, .int .i64 i, .slice (some ⟨vb, 0, none⟩) 1 1] w (InsPost base g c (l.take i ++ [x] ++ l.drop i) w) := by
  obtain ⟨cur, h1, h2, h3, h4⟩ := hr
  have hov : ∀ lb cb, (callFunc 43 #[.slice (some ⟨vb, 0, none⟩) 1 1, .slice (some ⟨g, i + 1, none⟩) lb cb]).run Try.prog w = .ok (.value (.bool false)) w := fun lb cb => by
    rw [run_callFunc_extern Try.func43 (by kernel_rfl) (by kernel_rfl) (by kernel_rfl) (e := Extern.SlicesOverlaps.overlaps #[29, 29] #[4]) (by kernel_rfl),
      Lib.run_overlaps_apart w 29 4 21 Try.underlying29 1 (fun w => by kernel_rfl) ⟨vb, 0, none⟩ ⟨g, i + 1, none⟩ 1 1 lb cb hvg 21 21 1 c (by simp [World.shape?, hv]) (by simp [World.shape?, h1, h2]) (by omega) (by simp [World.frozen?, hv]) (by simp [World.frozen?, hv])]
    rfl
  have hsz : (Try.prog.info? 21).map (·.size) = some 1 := by kernel_rfl
  obtain ⟨N, hN⟩ : ∃ N, N = l.length := ⟨_, rfl⟩
  obtain ⟨Y, hY⟩ : ∃ Y, Y = (l.drop i).map runeV := ⟨_, rfl⟩
  have hYl : Y.length = N - i := by rw [hY, List.length_map, List.length_drop, ← hN]
  have hcell : ∀ j u, Y[j]? = some u → w.cell? ⟨g, i + j, none⟩ = some u := fun j u hj => by
    have hj2 : j < Y.length := (List.getElem?_eq_some_iff.1 hj).1
    have h5 : cur[i + j]? = some u := by
      rw [hY, List.getElem?_map, List.getElem?_drop, ← List.getElem?_map, ← h4, List.getElem?_take_of_lt (by omega)] at hj
      exact hj
    simp [World.cell?, h1, h5]
  have h1Y : ∀ u ∈ Y, u.oneCell' = true := by rw [hY]; exact one_runes _
  have hsp := spliced (x := x) h2 hc h4 (Nat.le_of_lt hi)
  rw [← hY, ← hN] at hsp
  rw [← hN] at hc hi h3 h4 ⊢
  obtain ⟨R, hR⟩ : ∃ R, R = l.take i ++ [x] ++ l.drop i := ⟨_, rfl⟩
  rw [← hR] at hsp ⊢
  have HRR := Lib.hid hR
  clear hR
  have H1 := Lib.hid h1
  have HV := Lib.hid hv
  have HCELL := Lib.hid hcell
  have H1Y := Lib.hid h1Y
  have HYL := Lib.hid hYl
  have HSP := Lib.hid hsp
  have HNN := Lib.hid hN
  have HB := Lib.hid hb
  have hb2 : ¬ c = i + 1 := by omega
  have hb4 : ¬ c = i := by omega
  have hne : ¬ (i : Int) = (N : Int) := by omega
  have hle1 : i ≤ N := by omega
  have hle2 : (0 : Int) ≤ (i : Int) + 1 := by omega
  have hle3 : (i : Int) ≤ (N : Int) + 1 := by omega
  have hw1 : IntKind.i64.wrap ((i : Int) + 1) = (i : Int) + 1 := by rw [IntKind.wrap_i64]; omega
  have htn : ((i : Int) + 1).toNat = i + 1 := by omega
  clear h1 hv hcell h1Y hYl hsp hN hb hY h4
  go_enter Try.func33, Try.ntmps33
  go_wp2_with (simp only [hov])
  have hmin : Y.length = Nat.min (N + 1 - i) (N - i) := by
    have := HYL.out
    simp only [Nat.min_def]
    split <;> omega
  have HMIN := Lib.hid hmin
  have hfit : i + 1 + Y.length ≤ cur.length := by rw [HYL.out, h2]; omega
  have HFIT := Lib.hid hfit
  have HSRC := Lib.hid (show ∀ j v, Y[j]? = some v → w.drew.cell? ((⟨g, i, none⟩ : Addr).add j) = some v from fun j v hj => by rw [Addr.add_lit]; exact HCELL.out j v hj)
  clear hmin hfit
  go_region_law (refine step_copy_here rfl (.tmp 73) (.tmp 76) 29 29 rfl 21 Try.underlying29 hsz g (i + 1) (N - i) (c - (i + 1)) ⟨g, i, none⟩ (N + 1 - i) (c - i) (by simp [Act.eval, Act.put]) (by simp [Act.eval, Act.put]) cur 21 H1.out Y HMIN.out HSRC.out HFIT.out H1Y.out ?_; intro w4 hw4)
  have G4 : Hid (w4.heap[g]? = some (.cells (splice cur (i + 1) Y).toArray 21 (0, 0))) := by rw [hw4.out]; exact setRow_heap w.drew g _ _ _ _ H1.out
  have V4 : w4.heap[vb]? = some (.cells #[.int .i32 x] 21 (0, 0)) := by rw [hw4.out, setRow_other _ _ _ _ hvg]; exact HV.out
  have B4 : Hid (Below base w w4) := by rw [hw4.out]; exact below_setRow (Below.refl _ _).drew HB.out _
  have P4 : Hid (0 < [runeV x].length → (some (⟨g, i, none⟩ : Addr) = some ⟨g, i, none⟩) ∧ ∃ ad, some (⟨vb, 0, none⟩ : Addr) = some ad ∧ ∀ j v, [runeV x][j]? = some v → w4.cell? (ad.add j) = some v) := fun _ => ⟨rfl, ⟨vb, 0, none⟩, rfl, fun j v hj => by
    rw [Addr.add_lit]
    match j, hj with
    | 0, hj => simp only [List.getElem?_cons_zero, Option.some.injEq] at hj; subst hj; simp [World.cell?, V4, runeV]
    | j + 1, hj => simp at hj⟩
  have F4 : Hid (i + [runeV x].length ≤ (splice cur (i + 1) Y).length) := by
    rw [length_splice _ _ _ HFIT.out, h2]
    simp only [List.length_singleton]
    exact (show i + 1 ≤ c by omega)
  have M4 : Hid ([runeV x].length = Nat.min 1 (N + 1 - i)) := by
    have e : Nat.min 1 (N + 1 - i) = 1 := by simp only [Nat.min_def]; split <;> omega
    rw [e]
    exact (rfl : [runeV x].length = 1)
  have O4 : Hid (∀ u ∈ [runeV x], u.oneCell' = true) := fun u hu => by rw [List.mem_singleton] at hu; subst hu; rfl
  clear V4 hw4
  go_wp2_with ((with_reducible refine wpList_copy_splice rfl (.tmp 80) (.tmp 81) 29 29 rfl 21 Try.underlying29 hsz (some ⟨g, i, none⟩) (some ⟨vb, 0, none⟩) (N + 1 - i) (c - i) 1 1 rfl rfl g i (splice cur (i + 1) Y) 21 G4.out [runeV x] M4.out P4.out F4.out O4.out base w B4.out HB.out ?_); intro w5 hg5 hb5; have HB5 := Lib.hid hb5; clear hb5)
  go_ret
  have hln : R.length = N + 1 := by
    rw [HRR.out, List.length_append, List.length_append, List.length_take, List.length_drop, List.length_singleton, ← HNN.out]
    omega
  refine ⟨by rw [hln]; rfl, ⟨splice (splice cur (i + 1) Y) i [runeV x], hg5.out, HSP.out.1, by rw [hln]; omega, by rw [hln]; exact HSP.out.2⟩, HB5.out⟩
theorem insert_any (base g c vb i L : Nat) (l l' : List Int) (x : Int) (w : World) (hr : Room g c l w) (hc : L < c) (hcm : c ≤ 1000000) (hb : base ≤ g) (hv : w.heap[vb]? = some (.cells #[.int .i32 x] 21 (0, 0))) (hvg : vb ≠ g) (hL : L = l.length) (hi : i ≤ L) (hl' : l' = l.take i ++ [x] ++ l.drop i) :
    Calls Try.prog 33 #[.slice (some ⟨g, 0, none⟩) L c, .int .i64 i, .slice (some ⟨vb, 0, none⟩) 1 1] w fun e w' => e = .returned (.slice (some ⟨g, 0, none⟩) (L + 1) c) ∧ Room g c l' w' ∧ Below base w w' := by
  have hn : l'.length = L + 1 := by
    rw [hl', List.length_append, List.length_append, List.length_take, List.length_drop, List.length_singleton]
    omega
  subst hL
  by_cases h : i < l.length
  · have K := insert_mid base g c vb i l x w hr hc hcm hb hv hvg h
    rw [← hl'] at K
    refine K.mono fun e w' hh => ⟨?_, hh.2.1, hh.2.2⟩
    rw [hh.1, hn]
  · obtain rfl : i = l.length := by omega
    have K := insert_end base g c vb l x w hr hc hb hv
    rw [show l ++ [x] = l' by rw [hl']; simp] at K
    refine K.mono fun e w' hh => ⟨?_, hh.2.1, hh.2.2⟩
    rw [hh.1, hn]
end Go.Proofs.Ytkgikkdgfhonlaa
