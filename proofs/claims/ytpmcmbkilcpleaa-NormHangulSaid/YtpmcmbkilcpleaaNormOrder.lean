/-
  Proved here: norm.Order: all marks that stand together come into their order, and nothing else changes its place. Conditions: the table is one that New made; the slice can be read, and holds at most 10,000 numbers.
-/
import Derived.Test.YtpmcmbkilcpleaaSortStable
import Derived.Test.YtpmcmbkilcpleaaNormBubble
namespace Go.Proofs.Ytpmcmbkilcpleaa
open Go.RowKit Utf
namespace Norm
/-- No mark behind one of greater class, at i and behind it. -/
def okAt (M : List Int) (i : Nat) : Prop := ¬ (0 < clsOf M[i + 1]! ∧ clsOf M[i + 1]! < clsOf M[i]!)
theorem sorted_of : ∀ {M : List Int}, (∀ i, i + 1 < M.length → okAt M i) → sorted M = true
  | [], _ => rfl
  | [x], _ => rfl
  | x :: y :: l, h => by
    have h0 := h 0 (by simp)
    have ih : sorted (y :: l) = true := sorted_of fun i hi => by
      have := h (i + 1) (by simp at hi ⊢; omega)
      unfold okAt at this ⊢
      simpa using this
    unfold okAt at h0
    simp only [Nat.zero_add, List.getElem!_cons_zero, List.getElem!_cons_succ] at h0
    unfold sorted
    rw [ih, Bool.and_true, Bool.not_eq_true', Bool.and_eq_false_iff, decide_eq_false_iff_not, decide_eq_false_iff_not]
    omega
/-- In its order up to k; what stands just ahead of k is no mark. -/
structure Ord (l M : List Int) (k : Nat) : Prop where
  sim : Sim l M
  len : M.length = l.length
  ok : ∀ i, i + 1 < k → i + 1 < M.length → okAt M i
  ahead : k = 0 ∨ M.length < k ∨ clsOf M[k - 1]! ≤ 0
theorem Ord.start (l : List Int) : Ord l l 0 := ⟨.refl _, rfl, fun i h _ => by omega, .inl rfl⟩
theorem Ord.done {l M : List Int} {k : Nat} (h : Ord l M k) (hk : M.length ≤ k) : M = order l := order_is h.sim (sorted_of fun i hi => h.ok i (by omega) hi)
theorem cut_three (M : List Int) {k e : Nat} (h1 : k ≤ e) (h2 : e ≤ M.length) : M = M.take k ++ ((M.take e).drop k ++ M.drop e) := by
  have l1 : (M.take k).length = k := by rw [List.length_take]; omega
  have l2 : ((M.take e).drop k).length = e - k := by rw [List.length_drop, List.length_take]; omega
  refine bang_ext (by simp only [List.length_append, List.length_drop, l1, l2]; omega) fun i hi => ?_
  by_cases i1 : i < k
  · rw [bang_left (by omega), bang_take i1]
  rw [bang_right (by omega), l1]
  by_cases i2 : i < e
  · rw [bang_left (by omega), bang_drop, bang_take (by omega), show k + (i - k) = i by omega]
  rw [bang_right (by omega), l2, bang_drop, show e + (i - k - (e - k)) = i by omega]
theorem Ord.next {l M N : List Int} {k e : Nat} (h : Ord l M k) (h1 : k ≤ e) (h2 : e ≤ M.length) (hm : ∀ i, k ≤ i → i < e → 0 < clsOf M[i]!) (he : e = M.length ∨ clsOf M[e]! ≤ 0)
    (hN : Moved 0 (e - k) ((M.take e).drop k) N) (u : Up N 0 (e - k)) : Ord l (M.take k ++ (N ++ M.drop e)) (e + 1) := by
  have l1 : (M.take k).length = k := by rw [List.length_take]; omega
  have l2 : ((M.take e).drop k).length = e - k := by rw [List.length_drop, List.length_take]; omega
  have l3 : N.length = e - k := hN.len.trans l2
  have b1 : ∀ i, i < k → (M.take k ++ (N ++ M.drop e))[i]! = M[i]! := fun i hi => by rw [bang_left (by omega), bang_take hi]
  have b2 : ∀ i, k ≤ i → i < e → (M.take k ++ (N ++ M.drop e))[i]! = N[i - k]! := fun i h3 h4 => by rw [bang_right (by omega), l1, bang_left (by omega)]
  have b3 : ∀ i, e ≤ i → (M.take k ++ (N ++ M.drop e))[i]! = M[i]! := fun i h3 => by rw [bang_right (by omega), l1, bang_right (by omega), l3, bang_drop, show e + (i - k - (e - k)) = i by omega]
  have hl : (M.take k ++ (N ++ M.drop e)).length = M.length := by simp only [List.length_append, List.length_drop, l1, l3]; omega
  refine ⟨?_, hl.trans h.len, fun i h3 h4 => ?_, ?_⟩
  · refine .trans h.sim ?_
    have hs := hN.sim fun i _ h4 => by
      rw [bang_drop, bang_take (by omega)]
      exact hm _ (by omega) (by omega)
    have := (hs.behind (M.drop e)).ahead (M.take k)
    rwa [← cut_three M h1 h2] at this
  · unfold okAt
    by_cases c1 : i + 1 < k
    · rw [b1 i (by omega), b1 (i + 1) c1]; exact h.ok i c1 (by omega)
    by_cases c2 : i + 1 = k
    · rw [b1 i (by omega)]
      have := h.ahead
      rw [show k - 1 = i by omega] at this
      intro hh
      omega
    by_cases c3 : i + 1 < e
    · rw [b2 i (by omega) (by omega), b2 (i + 1) (by omega) c3]
      have := u (i - k) (i + 1 - k) (by omega) (by omega) (by omega)
      omega
    · rw [b3 (i + 1) (by omega)]
      obtain rfl : e = i + 1 := by omega
      omega
  · rcases he with rfl | he
    · right; left; rw [hl]; omega
    · right; right
      rw [Nat.add_sub_cancel, b3 e (Nat.le_refl _)]
      exact he
end Norm
set_option maxHeartbeats 400000 in
theorem isMark_any (t : Value) (x : Int) (w : World) (hT : Table w t) : Calls Try.prog 35 #[t, .int .i32 x] w fun e w' => e = .returned (.bool (decide (0 < clsOf x))) ∧ Below w.heap.size w w' := by
  have hr := fun W (h : Below w.heap.size w W) => class_any t x W (hT.below h)
  obtain ⟨b0, b1, b2, b3, rfl, -, -, -, -⟩ := hT
  generalize clsOf x = c at hr ⊢
  have HF := Lib.hid hr
  clear hr
  go_enter Try.func35, Try.ntmps35
  go_wp2_with fail
  refine (HF.out _ ((Below.refl _ w).alloc (Nat.le_refl _) _)).mono ?_
  rintro e w1 ⟨rfl, hb1⟩
  have HB := Lib.hid (((Below.refl _ w).alloc (Nat.le_refl _) _).trans (hb1.mono (by simp)))
  clear hb1
  go_wp2
  go_ret
  exact ⟨rfl, HB.out⟩
/-- A part of a row as a place. -/
theorem seg_of {base g n c : Nat} {M : List Int} {w0 w : World} (h : OwnR base (.slice (some ⟨g, 0, none⟩) n c) M w) (hb : Below base w0 w) (hg : base ≤ g) {k e : Nat} (h1 : k ≤ e) (h2 : e ≤ M.length) :
    Seg ⟨base, w0, g, k, M.take k, M.drop e, n, c⟩ ((M.take e).drop k) w := by
  refine ⟨?_, hb, by simp only [List.length_take]; omega, hg⟩
  simp only
  rw [← Norm.cut_three M h1 h2]
  exact h
theorem OwnR.cap {base n c : Nat} {A : Option Addr} {l : List Int} {w : World} (h : OwnR base (.slice A n c) l w) : l.length ≤ c := by
  obtain ⟨A', c', e, hc, -⟩ := h.runes.form
  injection e with _ _ e2
  omega
/-- The box of a table. -/
theorem boxed_new {b0 b1 b2 b3 : Nat} {w : World} (hT : Table w (.agg #[.slice (some ⟨b0, 0, none⟩) 74 74, .slice (some ⟨b1, 0, none⟩) 10 10, .slice (some ⟨b2, 0, none⟩) 11 11, .slice (some ⟨b3, 0, none⟩) 42 42])) :
    Boxed w.heap.size (w.alloc (.cells #[.slice (some ⟨b0, 0, none⟩) 74 74, .slice (some ⟨b1, 0, none⟩) 10 10, .slice (some ⟨b2, 0, none⟩) 11 11, .slice (some ⟨b3, 0, none⟩) 42 42] 30)) :=
  ⟨b0, b1, b2, b3, hT.below (below_one _ _), by simp, by go_simp, by go_simp, by go_simp, by go_simp⟩
set_option maxHeartbeats 8000000 in
set_option maxRecDepth 100000 in
theorem order_any (t : Value) (v : Value) (l : List Int) (w : World) (hT : Table w t) (hl : Runes v l w) (hn : l.length ≤ 10000) : Calls Try.prog 13 #[t, v] w (PiecesPost (Norm.order l) w) := by
  have hT' := hT
  obtain ⟨b0, b1, b2, b3, rfl, -, -, -, -⟩ := hT'
  have HL := Lib.hid hl
  obtain ⟨w0, hw0⟩ : ∃ w0, w0 = w.alloc (.cells #[.slice (some ⟨b0, 0, none⟩) 74 74, .slice (some ⟨b1, 0, none⟩) 10 10, .slice (some ⟨b2, 0, none⟩) 11 11, .slice (some ⟨b3, 0, none⟩) 42 42] 30) := ⟨_, rfl⟩
  have hB0 : Below w.heap.size w w0 := by rw [hw0]; exact below_one _ _
  have hX0 : Boxed w.heap.size w0 := by rw [hw0]; exact boxed_new hT
  have hz0 : w0.heap.size = w.heap.size + 1 := by rw [hw0]; simp
  have HB0 := Lib.hid hB0
  have HX0 := Lib.hid hX0
  have HZ0 := Lib.hid hz0
  have HT := Lib.hid (hT.below hB0)
  clear hT hl hB0 hX0 hz0
  go_enter Try.func13, Try.ntmps13
  go_wp2_with (at_builtin; (rw [← hw0]); refine append_row w0 22 21 (.int .i32 0) 4 Try.underlying22 info_i32 rfl (by omega) w0.heap.size _ _ _ (World.ownsRow_nil w0 w0.heap.size _ _) (Nat.le_refl _) (by omega) _ _ (HL.out.keep HB0.out) (one_runes _) (by rw [List.length_map]; omega) rfl _ _ rfl rfl rfl ?_; intro v2 w2 ho2 hb2; have hO2 : OwnR w0.heap.size v2 l w2 := (OwnR.more (l := []) ho2 rfl (by rw [List.length_map])); obtain ⟨A, c, rfl, hA⟩ := hO2.shape; have O2 := Lib.hid hO2; have HA := Lib.hid hA; have B2 := Lib.hid hb2; clear ho2 hb2 hO2 hA hw0)
  go_loopg [7, 8] (l.length + 2) (fun gk sf _ wr => ∃ (k : Nat) (M : List Int), sf = .int .i64 k ∧ k ≤ l.length + 1 ∧ l.length + 1 - k < gk ∧ Hid (Norm.Ord l M k ∧ OwnR w0.heap.size (.slice A l.length c) M wr ∧ Below w0.heap.size w0 wr))
  case atStart => exact ⟨0, l, rfl, by omega, by omega, ⟨Norm.Ord.start l, O2.out, B2.out⟩⟩
  case round =>
    obtain ⟨k, M, rfl, hkl, hg, I⟩ := hrel
    by_cases hlt : k < l.length
    · obtain ⟨g, rfl, hgb, -⟩ := HA.out (by omega)
      have HG := Lib.hid hgb
      clear hgb
      have hML := I.out.1.len
      have HML := Lib.hid hML
      go_wp2
      go_loopg [8] (l.length + 1) (fun gk se wr => ∃ (e : Nat), se = .int .i64 e ∧ k ≤ e ∧ e ≤ l.length ∧ l.length - e < gk ∧ Hid ((∀ i, k ≤ i → i < e → 0 < clsOf M[i]!) ∧ OwnR w0.heap.size (.slice (some ⟨g, 0, none⟩) l.length c) M wr ∧ Below w0.heap.size w0 wr))
      case atStart => exact ⟨k, rfl, Nat.le_refl _, by omega, by omega, ⟨fun i h1 h2 => by omega, I.out.2.1, I.out.2.2⟩⟩
      case round =>
        obtain ⟨e, rfl, hke, hel, hge, J⟩ := hrel
        by_cases helt : e < l.length
        · have hez : (e : Int) < (l.length : Int) := by omega
          have g1 : (0 : Int) ≤ (e : Int) := by omega
          obtain ⟨x, hx⟩ : ∃ x, x = M[e]! := ⟨_, rfl⟩
          have c1 := J.out.2.1.cell e (by rw [HML.out]; exact helt)
          rw [← hx] at c1
          have hBX := HX0.out.keep J.out.2.2
          obtain ⟨a0, a1, a2, a3, hTT, hlt0, d0, d1, d2, d3⟩ := hBX
          have K := Lib.hid (isMark_any _ x wr.drew (hTT.below (Below.refl _ wr).drew))
          have HX := Lib.hid hx
          clear hx hTT
          by_cases hm : 0 < clsOf x
          · rw [decide_eq_true hm] at K
            have HM := Lib.hid hm
            clear hm
            go_wp2
            go_region_held3 (fun w' => w'.cell? ⟨g, e, none⟩ = some (.int .i32 x) ∧ w'.cell? ⟨w.heap.size, 0, none⟩ = some (.slice (some ⟨a0, 0, none⟩) 74 74) ∧ w'.cell? ⟨w.heap.size, 1, none⟩ = some (.slice (some ⟨a1, 0, none⟩) 10 10) ∧ w'.cell? ⟨w.heap.size, 2, none⟩ = some (.slice (some ⟨a2, 0, none⟩) 11 11) ∧ w'.cell? ⟨w.heap.size, 3, none⟩ = some (.slice (some ⟨a3, 0, none⟩) 42 42)) (go_keep) ((go_at_call 35; (with_reducible refine K.out.mono ?_); rintro e1 w3 ⟨rfl, hb3⟩; have HB3 := Lib.hid (below_of_drew hb3); have q1 := (HB3.out.cell (p := ⟨g, e, none⟩) (by exact World.block_lt_of_cell? _ _ c1)).trans c1; have q2 := (HB3.out.cell (p := ⟨w.heap.size, 0, none⟩) hlt0).trans d0; have q3 := (HB3.out.cell (p := ⟨w.heap.size, 1, none⟩) hlt0).trans d1; have q4 := (HB3.out.cell (p := ⟨w.heap.size, 2, none⟩) hlt0).trans d2; have q5 := (HB3.out.cell (p := ⟨w.heap.size, 3, none⟩) hlt0).trans d3; clear hb3))
            all_goals
              have J2 : Hid ((∀ i, k ≤ i → i < e + 1 → 0 < clsOf M[i]!) ∧ OwnR w0.heap.size (.slice (some ⟨g, 0, none⟩) l.length c) M w3 ∧ Below w0.heap.size w0 w3) := by
                refine ⟨fun i h1 h2 => ?_, J.out.2.1.keep HB3.out, J.out.2.2.trans (HB3.out.mono J.out.2.2.size)⟩
                by_cases hi : i = e
                · rw [hi, ← HX.out]; exact HM.out
                · exact J.out.1 i h1 (by omega)
              clear J c1 d0 d1 d2 d3
              go_wp2
              go_roundg (l.length - e)
              case measure => omega
              case rel => exact ⟨e + 1, by go_num, by omega, by omega, by omega, J2⟩
          · rw [decide_eq_false hm] at K
            have HM := Lib.hid hm
            clear hm
            have hcap := J.out.2.1.cap
            have hcz : (e : Int) ≤ (c : Int) := by have := HML.out; omega
            have hkz : (k : Int) ≤ (e : Int) := by omega
            go_wp2
            go_region_held3 (fun w' => w'.cell? ⟨g, e, none⟩ = some (.int .i32 x) ∧ w'.cell? ⟨w.heap.size, 0, none⟩ = some (.slice (some ⟨a0, 0, none⟩) 74 74) ∧ w'.cell? ⟨w.heap.size, 1, none⟩ = some (.slice (some ⟨a1, 0, none⟩) 10 10) ∧ w'.cell? ⟨w.heap.size, 2, none⟩ = some (.slice (some ⟨a2, 0, none⟩) 11 11) ∧ w'.cell? ⟨w.heap.size, 3, none⟩ = some (.slice (some ⟨a3, 0, none⟩) 42 42)) (go_keep) ((go_at_call 35; (with_reducible refine K.out.mono ?_); rintro e1 w3 ⟨rfl, hb3⟩; have HB3 := Lib.hid (below_of_drew hb3); have q1 := (HB3.out.cell (p := ⟨g, e, none⟩) (by exact World.block_lt_of_cell? _ _ c1)).trans c1; have q2 := (HB3.out.cell (p := ⟨w.heap.size, 0, none⟩) hlt0).trans d0; have q3 := (HB3.out.cell (p := ⟨w.heap.size, 1, none⟩) hlt0).trans d1; have q4 := (HB3.out.cell (p := ⟨w.heap.size, 2, none⟩) hlt0).trans d2; have q5 := (HB3.out.cell (p := ⟨w.heap.size, 3, none⟩) hlt0).trans d3; clear hb3))
            all_goals
              go_wp2_with fail
              have hl2 : ((M.take e).drop k).length = e - k := by rw [List.length_drop, List.length_take]; have := HML.out; omega
              have hc := sortStable_any (p := ⟨w0.heap.size, w0, g, k, M.take k, M.drop e, l.length, c⟩) (bt := w.heap.size) ⟨rfl, HX0.out⟩ ((M.take e).drop k) w3 (seg_of (J.out.2.1.keep HB3.out) (J.out.2.2.trans (HB3.out.mono J.out.2.2.size)) HG.out hke (by have := HML.out; omega)) (e - k) (c - k) hl2 (by omega)
              refine hc.mono ?_
              rintro e2 w4 ⟨N, rfl, ⟨k4, v4⟩, s4⟩
              have J2 : Hid (Norm.Ord l (M.take k ++ (N ++ M.drop e)) (e + 1) ∧ OwnR w0.heap.size (.slice (some ⟨g, 0, none⟩) l.length c) (M.take k ++ (N ++ M.drop e)) w4 ∧ Below w0.heap.size w0 w4) :=
                ⟨I.out.1.next hke (by have := HML.out; omega) J.out.1 (.inr (by rw [← HX.out]; have := HM.out; omega)) k4 v4, s4.1, s4.2.1⟩
              clear hc k4 v4 s4 hl2
              go_wp2
              go_roundg (l.length + 1 - k)
              case measure => omega
              case rel => exact ⟨e + 1, _, by go_num, by omega, by omega, J2⟩
        · obtain rfl : e = l.length := by omega
          have hez : ¬ (l.length : Int) < (l.length : Int) := by omega
          have hcap := J.out.2.1.cap
          have hcz : (l.length : Int) ≤ (c : Int) := by have := HML.out; omega
          have hkz : (k : Int) ≤ (l.length : Int) := by omega
          go_wp2
          go_quiet (fail)
          go_wp2_with fail
          have hl2 : ((M.take l.length).drop k).length = l.length - k := by rw [List.length_drop, List.length_take]; have := HML.out; omega
          have hc := sortStable_any (p := ⟨w0.heap.size, w0, g, k, M.take k, M.drop l.length, l.length, c⟩) (bt := w.heap.size) ⟨rfl, HX0.out⟩ ((M.take l.length).drop k) (wr.drewN nq) (seg_of (J.out.2.1.drewN nq) (below_drewN J.out.2.2 nq) HG.out hke (by have := HML.out; omega)) (l.length - k) (c - k) hl2 (by omega)
          refine hc.mono ?_
          rintro e2 w4 ⟨N, rfl, ⟨k4, v4⟩, s4⟩
          have J2 : Hid (Norm.Ord l (M.take k ++ (N ++ M.drop l.length)) (l.length + 1) ∧ OwnR w0.heap.size (.slice (some ⟨g, 0, none⟩) l.length c) (M.take k ++ (N ++ M.drop l.length)) w4 ∧ Below w0.heap.size w0 w4) :=
            ⟨I.out.1.next hke (by have := HML.out; omega) J.out.1 (.inl HML.out.symm) k4 v4, s4.1, s4.2.1⟩
          clear hc k4 v4 s4 hl2
          go_wp2
          go_roundg (l.length + 1 - k)
          case measure => omega
          case rel => exact ⟨l.length + 1, _, by go_num, by omega, by omega, J2⟩
    · have hz : ¬ (k : Int) < (l.length : Int) := by omega
      have hO := I.out.1.done (by have := I.out.1.len; omega)
      have R : Hid (OwnR w.heap.size (.slice A l.length c) (Norm.order l) wr ∧ Below w.heap.size w wr) := by
        refine ⟨?_, HB0.out.trans (I.out.2.2.mono HB0.out.size)⟩
        rw [← hO]
        exact I.out.2.1.lower HB0.out.size
      clear hO
      go_wp2
      go_ret
      exact ⟨_, rfl, R.out.1, R.out.2⟩
end Go.Proofs.Ytpmcmbkilcpleaa
