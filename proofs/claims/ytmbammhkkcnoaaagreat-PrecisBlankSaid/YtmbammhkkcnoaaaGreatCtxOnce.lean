/-
  Proved here: context's rule of the joiner that keeps letters apart; a rule that is asked once; the map of all rules. Conditions: the row can be read, and holds at most 1000 numbers.
-/
import Derived.Test.YtmbammhkkcnoaaaGreatCtxBack
import Derived.Maps.OwnOps
namespace Go.Proofs.YtmbammhkkcnoaaaGreat
open Go.RowKit
set_option maxHeartbeats 2000000 in
set_option maxRecDepth 100000 in
theorem parts_any (g : Nat) (t v : Value) (l : List Int) (k : Nat) (w : World) (hR : RowIs g t v l w) (hn : l.length ≤ 1000) (hk : k < l.length) :
    Calls Tryz.prog 103 #[.pointer (some ⟨g, 0, none⟩), .int .i64 k] w fun e w' => e = .returned (.bool (Ctx.virama l k || Ctx.joined l k)) ∧ Below w.heap.size w w' := by
  have KJ := Lib.hid (joins_any g t v l k w hR hn hk)
  have KB := Lib.hid (fun W (h : Below w.heap.size w W) => joinBehind_any g t v l k W (hR.keep h) hn hk)
  have KA := Lib.hid (fun W (h : Below w.heap.size w W) => joinAhead_any g t v l k W (hR.keep h) hn hk)
  rw [← joined_is]
  generalize Ctx.virama l k = b at KJ ⊢
  generalize joinsOf (Ctx.ahead l k) = x at KA ⊢
  generalize joinsOf (Ctx.behind l (k + 1)) = y at KB ⊢
  clear hR hn hk
  cases b
  · cases h1 : (x == 1)
    · go_enter Tryz.func103, Tryz.ntmps103
      go_wp2_with fail
      refine KJ.out.mono ?_
      rintro e w2 ⟨rfl, hb2⟩
      have B2 := Lib.hid hb2
      clear hb2
      go_wp2_with fail
      refine (KB.out w2 B2.out).mono ?_
      rintro e w3 ⟨rfl, hb3⟩
      have B3 := Lib.hid (below_then B2.out hb3)
      clear hb3
      go_wp2_with fail
      refine (KA.out w3 B3.out).mono ?_
      rintro e w4 ⟨rfl, hb4⟩
      have B4 := Lib.hid (below_then B3.out hb4)
      clear hb4
      go_wp2
      go_ret
      exact ⟨rfl, B4.out⟩
    · cases h2 : (y == 1) <;> cases h3 : (y == 2)
      all_goals
        go_enter Tryz.func103, Tryz.ntmps103
        go_wp2_with fail
        refine KJ.out.mono ?_
        rintro e w2 ⟨rfl, hb2⟩
        have B2 := Lib.hid hb2
        clear hb2
        go_wp2_with fail
        refine (KB.out w2 B2.out).mono ?_
        rintro e w3 ⟨rfl, hb3⟩
        have B3 := Lib.hid (below_then B2.out hb3)
        clear hb3
        go_wp2_with fail
        refine (KA.out w3 B3.out).mono ?_
        rintro e w4 ⟨rfl, hb4⟩
        have B4 := Lib.hid (below_then B3.out hb4)
        clear hb4
        go_wp2
        go_ret
        exact ⟨rfl, B4.out⟩
  · go_enter Tryz.func103, Tryz.ntmps103
    go_wp2_with fail
    refine KJ.out.mono ?_
    rintro e w2 ⟨rfl, hb2⟩
    have B2 := Lib.hid hb2
    clear hb2
    go_wp2
    go_ret
    exact ⟨rfl, B2.out⟩
/-- A rule that is asked once lies in blocks c, c + 1, c + 2: whom it asks, whether it has, and the answer. -/
def OnceAt (c g f : Nat) (b : Bool) (w : World) : Prop :=
  ∃ a : Bool, w.heap[c]? = some (.cells #[.func (.func f) #[.pointer (some ⟨g, 0, none⟩)] #[]] 22 (0, 0)) ∧ w.heap[c + 1]? = some (.cells #[.bool a] 4 (0, 0)) ∧ w.heap[c + 2]? = some (.cells #[.bool (a && b)] 4 (0, 0))
theorem OnceAt.same {c g f : Nat} {b : Bool} {w w' : World} (h : OnceAt c g f b w) (h0 : w'.heap[c]? = w.heap[c]?) (h1 : w'.heap[c + 1]? = w.heap[c + 1]?) (h2 : w'.heap[c + 2]? = w.heap[c + 2]?) : OnceAt c g f b w' := by
  obtain ⟨a, e0, e1, e2⟩ := h
  exact ⟨a, h0.trans e0, h1.trans e1, h2.trans e2⟩
theorem OnceAt.lt {c g f : Nat} {b : Bool} {w : World} (h : OnceAt c g f b w) : c + 2 < w.heap.size := by
  obtain ⟨a, -, -, h⟩ := h
  exact (Array.getElem?_eq_some_iff.1 h).1
theorem OnceAt.keep {c g f : Nat} {b : Bool} {w w' : World} (h : OnceAt c g f b w) (hb : Below w.heap.size w w') : OnceAt c g f b w' := by
  have := h.lt
  exact h.same (hb.block _ (by omega)) (hb.block _ (by omega)) (hb.block _ (by omega))
def OncePost (c g f : Nat) (b : Bool) (w : World) (e : Ending) (w' : World) : Prop :=
  e = .returned (.bool b) ∧ OnceAt c g f b w' ∧ Below c w w' ∧ ∀ j, c + 2 < j → j < w.heap.size → w'.heap[j]? = w.heap[j]?
set_option maxHeartbeats 2000000 in
set_option maxRecDepth 100000 in
theorem onceIn_any (c g f : Nat) (b : Bool) (k : Int) (w : World) (hO : OnceAt c g f b w) (eg : ∀ args w, (callFunc f args).run Tryz.prog w = .ok (.enter f args) w)
    (hf : Calls Tryz.prog f #[.pointer (some ⟨g, 0, none⟩)] w fun e w' => e = .returned (.bool b) ∧ Below w.heap.size w w') :
    Calls Tryz.prog 143 #[.int .i64 k, .pointer (some ⟨c + 1, 0, none⟩), .pointer (some ⟨c, 0, none⟩), .pointer (some ⟨c + 2, 0, none⟩)] w (OncePost c g f b w) := by
  have HO := Lib.hid hO
  have hlt := hO.lt
  obtain ⟨a, e0, e1, e2⟩ := hO
  have c0 : w.cell? ⟨c, 0, none⟩ = some (.func (.func f) #[.pointer (some ⟨g, 0, none⟩)] #[]) := by simp [World.cell?, e0]
  have c1 : w.cell? ⟨c + 1, 0, none⟩ = some (.bool a) := by simp [World.cell?, e1]
  have c2 : w.cell? ⟨c + 2, 0, none⟩ = some (.bool (a && b)) := by simp [World.cell?, e2]
  have E0 := Lib.hid e0
  have E1 := Lib.hid e1
  have E2 := Lib.hid e2
  have HF := Lib.hid hf
  clear e0 e1 e2 hf
  cases a
  · go_enter Tryz.func143, Tryz.ntmps143
    go_wp2_with fail
    refine HF.out.mono ?_
    rintro e w2 ⟨rfl, hb⟩
    have HB := Lib.hid hb
    have d1 := (hb.cell (p := ⟨c + 1, 0, none⟩) (show c + 1 < w.heap.size by omega)).trans c1
    have d2 := (hb.cell (p := ⟨c + 2, 0, none⟩) hlt).trans c2
    have f1 : w2.frozen? ⟨c + 1, 0, none⟩ = false := by have := (hb.block (c + 1) (by omega)).trans E1.out; simp [World.frozen?, this]
    have f2 : w2.frozen? ⟨c + 2, 0, none⟩ = false := by have := (hb.block (c + 2) (by omega)).trans E2.out; simp [World.frozen?, this]
    have HS := Lib.hid hb.size
    clear hb c0 c1 c2
    go_wp2
    go_ret
    have hB := HB.out
    have g0 := (hB.block c (by omega)).trans E0.out
    have g1 := (hB.block (c + 1) (by omega)).trans E1.out
    have g2 := (hB.block (c + 2) (by omega)).trans E2.out
    refine ⟨rfl, ⟨true, ?_, ?_, ?_⟩, ?_, fun j hj hlt => ?_⟩
    · simp [World.setCell, Array.getElem?_modify, g0]
    · simp [World.setCell, Array.getElem?_modify, g1]
    · simp [World.setCell, Array.getElem?_modify, g2]
    · exact ((hB.mono (show c ≤ w.heap.size by omega)).setCell (p := ⟨c + 1, 0, none⟩) (show c ≤ c + 1 by omega) _).setCell (p := ⟨c + 2, 0, none⟩) (show c ≤ c + 2 by omega) _
    · rw [← hB.block j hlt]
      simp [World.setCell, Array.getElem?_modify, show c + 1 ≠ j by omega, show c + 2 ≠ j by omega]
  · go_enter Tryz.func143, Tryz.ntmps143
    go_wp2
    go_ret
    exact ⟨rfl, HO.out, Below.refl _ _, fun _ _ _ => rfl⟩
def MadePost (c g f : Nat) (w : World) (e : Ending) (w' : World) : Prop :=
  e = .returned (.func (.func 143) #[] #[.pointer (some ⟨c + 1, 0, none⟩), .pointer (some ⟨c, 0, none⟩), .pointer (some ⟨c + 2, 0, none⟩)]) ∧ w'.heap.size = c + 3 ∧ (∀ b, OnceAt c g f b w') ∧ Below w.heap.size w w'
set_option maxHeartbeats 2000000 in
set_option maxRecDepth 100000 in
theorem once_any (g f c : Nat) (w : World) (hc : c = w.heap.size) :
    Calls Tryz.prog 108 #[.func (.func f) #[.pointer (some ⟨g, 0, none⟩)] #[]] w (MadePost c g f w) := by
  subst hc
  go_enter Tryz.func108, Tryz.ntmps108
  go_wp2
  go_ret
  refine ⟨rfl, by simp, fun b => ⟨false, ?_, ?_, ?_⟩, below_three _ _ _ _⟩
  · exact (((Below.refl _ _).alloc (Nat.le_refl _) _).alloc (by simp) _).block w.heap.size (by simp) |>.trans (heap_alloc_new w _)
  · have h := heap_alloc_new (w.alloc (.cells #[.func (.func f) #[.pointer (some ⟨g, 0, none⟩)] #[]] 22)) (.cells #[.bool false] 4)
    rw [World.size_alloc] at h
    exact (((Below.refl _ _).alloc (Nat.le_refl _) _).block (w.heap.size + 1) (by simp)).trans h
  · have h := heap_alloc_new ((w.alloc (.cells #[.func (.func f) #[.pointer (some ⟨g, 0, none⟩)] #[]] 22)).alloc (.cells #[.bool false] 4)) (.cells #[.bool false] 4)
    rw [World.size_alloc, World.size_alloc] at h
    exact h
section
variable {P : Program}
theorem map_insert (w : World) {T K E : TypeId} (hm : P.underlying T = some (.map K E)) (hk : P.underlying K = some (.int .i32)) {b n : Nat} {es : Array MapEntry} (hb : w.heap[b]? = some (.map es n)) (x : Int) (v : Value) (hf : Instr.findNow (.int .i32) (.int .i32 x) es.toList 0 = some none) :
    (Instr.mapUpdate T (.map (some b)) (.int .i32 x) v).run P w = .ok () { w with heap := w.heap.setIfInBounds b (.map (es.push { key := .int .i32 x, val := v, born := n }) (n + 1)) } := by
  have hc : (Instr.checkKey false 10000 K (.int .i32 x)).run P w = .ok () w := MapKept.run_checkKey hk (by simp [MapKept.IsKey]) false 9999
  simp [Instr.mapUpdate, run_underlying hm, MapKept.run_getObj_map hb, hc, MapKept.run_findKey hk hf, MapKept.run_setObj_map _ hb, Result.andThen]
/-- An entry of a map's literal. -/
theorem map_insert_ex (w : World) {T K E : TypeId} (hm : P.underlying T = some (.map K E)) (hk : P.underlying K = some (.int .i32)) {b n : Nat} {es : Array MapEntry} (hb : w.heap[b]? = some (.map es n)) (x : Int) (v : Value) (hf : Instr.findNow (.int .i32) (.int .i32 x) es.toList 0 = some none) :
    ∃ w', (Instr.mapUpdate T (.map (some b)) (.int .i32 x) v).run P w = .ok () w' ∧ w'.heap[b]? = some (.map (es.push { key := .int .i32 x, val := v, born := n }) (n + 1)) ∧ w'.heap.size = w.heap.size ∧ (∀ j, j ≠ b → w'.heap[j]? = w.heap[j]?) ∧ Below b w w' := by
  have hs := MapKept.heap_set (o' := .map (es.push { key := .int .i32 x, val := v, born := n }) (n + 1)) hb
  exact ⟨_, map_insert w hm hk hb x v hf, hs.1, by simp, hs.2, ⟨rfl, rfl, rfl, by simp, fun j hj => hs.2 j (by omega)⟩⟩
theorem look_some (w : World) {T K E : TypeId} (hm : P.underlying T = some (.map K E)) (hk : P.underlying K = some (.int .i32)) {b n i : Nat} {es : Array MapEntry} (hb : w.heap[b]? = some (.map es n)) (x : Int) (v : Value) (hf : Instr.findNow (.int .i32) (.int .i32 x) es.toList 0 = some (some (i, v))) :
    (Instr.lookup T (.map (some b)) (.int .i32 x) true).run P w = .ok (.tuple #[v, .bool true]) w := by
  have hc : (Instr.checkKey es.isEmpty 10000 K (.int .i32 x)).run P w = .ok () w := MapKept.run_checkKey hk (by simp [MapKept.IsKey]) _ 9999
  simp [Instr.lookup, run_underlying hm, MapKept.run_getObj_map hb, hc, MapKept.run_findKey hk hf, Result.andThen]
theorem look_none (w : World) {T K E : TypeId} (hm : P.underlying T = some (.map K E)) (hk : P.underlying K = some (.int .i32)) {z : Value} (hz : (zeroValue E).run P w = .ok z w) {b n : Nat} {es : Array MapEntry} (hb : w.heap[b]? = some (.map es n)) (x : Int) (hf : Instr.findNow (.int .i32) (.int .i32 x) es.toList 0 = some none) :
    (Instr.lookup T (.map (some b)) (.int .i32 x) true).run P w = .ok (.tuple #[z, .bool false]) w := by
  have hc : (Instr.checkKey es.isEmpty 10000 K (.int .i32 x)).run P w = .ok () w := MapKept.run_checkKey hk (by simp [MapKept.IsKey]) _ 9999
  simp [Instr.lookup, run_underlying hm, MapKept.run_getObj_map hb, hc, MapKept.run_findKey hk hf, hz, Result.andThen]
end
def onceV (c : Nat) : Value := .func (.func 143) #[] #[.pointer (some ⟨c + 1, 0, none⟩), .pointer (some ⟨c, 0, none⟩), .pointer (some ⟨c + 2, 0, none⟩)]
def methV (g f : Nat) : Value := .func (.func f) #[.pointer (some ⟨g, 0, none⟩)] #[]
/-- The map of all rules. -/
def rulesOf (g c1 c2 c3 : Nat) : List MapEntry := [⟨.int .i32 8204, methV g 103, 0⟩, ⟨.int .i32 8205, methV g 104, 1⟩, ⟨.int .i32 183, methV g 105, 2⟩, ⟨.int .i32 885, methV g 106, 3⟩,
  ⟨.int .i32 1523, methV g 107, 4⟩, ⟨.int .i32 12539, onceV c1, 5⟩, ⟨.int .i32 1632, onceV c2, 6⟩, ⟨.int .i32 1776, onceV c3, 7⟩]
def RulesAt (B g c1 c2 c3 : Nat) (w : World) : Prop := w.heap[B]? = some (.map (rulesOf g c1 c2 c3).toArray 8)
def RulesPost (g B : Nat) (w : World) (e : Ending) (w' : World) : Prop :=
  ∃ c1 c2 c3, e = .returned (.map (some B)) ∧ Below w.heap.size w w' ∧ B < c1 ∧ c1 + 2 < c2 ∧ c2 + 2 < c3 ∧ RulesAt B g c1 c2 c3 w' ∧ (∀ b, OnceAt c1 g 109 b w') ∧ (∀ b, OnceAt c2 g 110 b w') ∧ ∀ b, OnceAt c3 g 111 b w'
set_option maxHeartbeats 4000000 in
set_option maxRecDepth 100000 in
theorem rules_any (g B : Nat) (w : World) (hB : B = w.heap.size) :
    Calls Tryz.prog 66 #[.pointer (some ⟨g, 0, none⟩)] w (RulesPost g B w) := by
  have hmm := @run_makeMap Tryz.prog
  subst hB
  have h0 : (w.alloc (.map #[] 0)).heap[w.heap.size]? = some (.map #[] 0) := heap_alloc_new w _
  have s0 : (w.alloc (.map #[] 0)).heap.size = w.heap.size + 1 := by simp
  have l0 : Below w.heap.size w (w.alloc (.map #[] 0)) := below_one _ _
  have H0 := Lib.hid h0
  have S0 := Lib.hid s0
  have L0 := Lib.hid l0
  clear h0 s0 l0
  obtain ⟨c1, hc1⟩ : ∃ c, c = w.heap.size + 1 := ⟨_, rfl⟩
  obtain ⟨c2, hc2⟩ : ∃ c, c = c1 + 3 := ⟨_, rfl⟩
  obtain ⟨c3, hc3⟩ : ∃ c, c = c2 + 3 := ⟨_, rfl⟩
  obtain ⟨c4, hc4⟩ : ∃ c, c = c3 + 3 := ⟨_, rfl⟩
  have C1 := Lib.hid hc1
  have C2 := Lib.hid hc2
  have C3 := Lib.hid hc3
  have C4 := Lib.hid hc4
  have G1 := Lib.hid (show w.heap.size < c1 by omega)
  have G2 := Lib.hid (show w.heap.size < c2 by omega)
  have G3 := Lib.hid (show w.heap.size < c3 by omega)
  have S0 := Lib.hid (S0.out.trans hc1.symm)
  clear hc1 hc2 hc3 hc4
  go_enter Tryz.func66, Tryz.ntmps66
  obtain ⟨w1, r1, h1, s1, o1, l1⟩ := map_insert_ex _ Tryz.underlying87 Tryz.underlying21 H0.out 8204 (.func (.func 103) #[.pointer (some ⟨g, 0, none⟩)] #[]) rfl
  have H1 := Lib.hid h1
  have S1 := Lib.hid (s1.trans S0.out)
  have L1 := Lib.hid (L0.out.trans l1)
  clear h1 s1 o1 l1
  go_wp2_with fail
  clear r1
  obtain ⟨w2, r2, h2, s2, o2, l2⟩ := map_insert_ex _ Tryz.underlying87 Tryz.underlying21 H1.out 8205 (.func (.func 104) #[.pointer (some ⟨g, 0, none⟩)] #[]) rfl
  have H2 := Lib.hid h2
  have S2 := Lib.hid (s2.trans S1.out)
  have L2 := Lib.hid (L1.out.trans l2)
  clear h2 s2 o2 l2
  rw [r2]
  clear r2
  go_wp2_with fail
  obtain ⟨w3, r3, h3, s3, o3, l3⟩ := map_insert_ex _ Tryz.underlying87 Tryz.underlying21 H2.out 183 (.func (.func 105) #[.pointer (some ⟨g, 0, none⟩)] #[]) rfl
  have H3 := Lib.hid h3
  have S3 := Lib.hid (s3.trans S2.out)
  have L3 := Lib.hid (L2.out.trans l3)
  clear h3 s3 o3 l3
  rw [r3]
  clear r3
  go_wp2_with fail
  obtain ⟨w4, r4, h4, s4, o4, l4⟩ := map_insert_ex _ Tryz.underlying87 Tryz.underlying21 H3.out 885 (.func (.func 106) #[.pointer (some ⟨g, 0, none⟩)] #[]) rfl
  have H4 := Lib.hid h4
  have S4 := Lib.hid (s4.trans S3.out)
  have L4 := Lib.hid (L3.out.trans l4)
  clear h4 s4 o4 l4
  rw [r4]
  clear r4
  go_wp2_with fail
  obtain ⟨w5, r5, h5, s5, o5, l5⟩ := map_insert_ex _ Tryz.underlying87 Tryz.underlying21 H4.out 1523 (.func (.func 107) #[.pointer (some ⟨g, 0, none⟩)] #[]) rfl
  have H5 := Lib.hid h5
  have S5 := Lib.hid (s5.trans S4.out)
  have L5 := Lib.hid (L4.out.trans l5)
  clear h5 s5 o5 l5
  rw [r5]
  clear r5
  go_wp2_with fail
  have HO1 := Lib.hid (fun W h => once_any g 109 c1 W h)
  refine (HO1.out _ S5.out.symm).mono ?_
  clear HO1
  rintro e w6 ⟨rfl, s6, q6, b6⟩
  have H6 := Lib.hid ((b6.block w.heap.size (by have := G1.out; have := S5.out; omega)).trans H5.out)
  have L6 := Lib.hid (L5.out.trans (b6.mono L5.out.size))
  have Q6_1 := Lib.hid q6
  have S6 := Lib.hid (s6.trans C2.out.symm)
  clear s6 q6 b6
  obtain ⟨w7, r7, h7, s7, o7, l7⟩ := map_insert_ex _ Tryz.underlying87 Tryz.underlying21 H6.out 12539 (.func (.func 143) #[] #[.pointer (some ⟨c1 + 1, 0, none⟩), .pointer (some ⟨c1, 0, none⟩), .pointer (some ⟨c1 + 2, 0, none⟩)]) rfl
  have H7 := Lib.hid h7
  have S7 := Lib.hid (s7.trans S6.out)
  have L7 := Lib.hid (L6.out.trans l7)
  have Q7_1 := Lib.hid (fun b => (Q6_1.out b).same (o7 _ (by have := G1.out; omega)) (o7 _ (by have := G1.out; omega)) (o7 _ (by have := G1.out; omega)))
  clear h7 s7 o7 l7
  go_wp2_with fail
  clear r7
  have HO2 := Lib.hid (fun W h => once_any g 110 c2 W h)
  refine (HO2.out _ S7.out.symm).mono ?_
  clear HO2
  rintro e w8 ⟨rfl, s8, q8, b8⟩
  have H8 := Lib.hid ((b8.block w.heap.size (by have := G2.out; have := S7.out; omega)).trans H7.out)
  have L8 := Lib.hid (L7.out.trans (b8.mono L7.out.size))
  have Q8_1 := Lib.hid (fun b => (Q7_1.out b).keep b8)
  have Q8_2 := Lib.hid q8
  have S8 := Lib.hid (s8.trans C3.out.symm)
  clear s8 q8 b8
  obtain ⟨w9, r9, h9, s9, o9, l9⟩ := map_insert_ex _ Tryz.underlying87 Tryz.underlying21 H8.out 1632 (.func (.func 143) #[] #[.pointer (some ⟨c2 + 1, 0, none⟩), .pointer (some ⟨c2, 0, none⟩), .pointer (some ⟨c2 + 2, 0, none⟩)]) rfl
  have H9 := Lib.hid h9
  have S9 := Lib.hid (s9.trans S8.out)
  have L9 := Lib.hid (L8.out.trans l9)
  have Q9_1 := Lib.hid (fun b => (Q8_1.out b).same (o9 _ (by have := G1.out; omega)) (o9 _ (by have := G1.out; omega)) (o9 _ (by have := G1.out; omega)))
  have Q9_2 := Lib.hid (fun b => (Q8_2.out b).same (o9 _ (by have := G2.out; omega)) (o9 _ (by have := G2.out; omega)) (o9 _ (by have := G2.out; omega)))
  clear h9 s9 o9 l9
  go_wp2_with fail
  clear r9
  have HO3 := Lib.hid (fun W h => once_any g 111 c3 W h)
  refine (HO3.out _ S9.out.symm).mono ?_
  clear HO3
  rintro e w10 ⟨rfl, s10, q10, b10⟩
  have H10 := Lib.hid ((b10.block w.heap.size (by have := G3.out; have := S9.out; omega)).trans H9.out)
  have L10 := Lib.hid (L9.out.trans (b10.mono L9.out.size))
  have Q10_1 := Lib.hid (fun b => (Q9_1.out b).keep b10)
  have Q10_2 := Lib.hid (fun b => (Q9_2.out b).keep b10)
  have Q10_3 := Lib.hid q10
  have S10 := Lib.hid (s10.trans C4.out.symm)
  clear s10 q10 b10
  obtain ⟨w11, r11, h11, s11, o11, l11⟩ := map_insert_ex _ Tryz.underlying87 Tryz.underlying21 H10.out 1776 (.func (.func 143) #[] #[.pointer (some ⟨c3 + 1, 0, none⟩), .pointer (some ⟨c3, 0, none⟩), .pointer (some ⟨c3 + 2, 0, none⟩)]) rfl
  have H11 := Lib.hid h11
  have S11 := Lib.hid (s11.trans S10.out)
  have L11 := Lib.hid (L10.out.trans l11)
  have Q11_1 := Lib.hid (fun b => (Q10_1.out b).same (o11 _ (by have := G1.out; omega)) (o11 _ (by have := G1.out; omega)) (o11 _ (by have := G1.out; omega)))
  have Q11_2 := Lib.hid (fun b => (Q10_2.out b).same (o11 _ (by have := G2.out; omega)) (o11 _ (by have := G2.out; omega)) (o11 _ (by have := G2.out; omega)))
  have Q11_3 := Lib.hid (fun b => (Q10_3.out b).same (o11 _ (by have := G3.out; omega)) (o11 _ (by have := G3.out; omega)) (o11 _ (by have := G3.out; omega)))
  clear h11 s11 o11 l11
  go_wp2_with fail
  clear r11
  go_wp2
  go_ret
  exact ⟨c1, c2, c3, rfl, L11.out, G1.out, by have := C2.out; omega, by have := C3.out; omega, H11.out, Q11_1.out, Q11_2.out, Q11_3.out⟩
end Go.Proofs.YtmbammhkkcnoaaaGreat
