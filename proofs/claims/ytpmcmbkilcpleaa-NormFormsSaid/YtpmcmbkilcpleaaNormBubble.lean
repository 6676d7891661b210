/-
  PLAIN: marks that are turned, neighbour by neighbour, as often as there are characters, come to stand in their order. Conditions: none. Nothing of the program is imported here.
-/
import Derived.Test.YtpmcmbkilcpleaaNormPlain
namespace Go.Proofs.Ytpmcmbkilcpleaa
namespace Norm
theorem cls_nonneg (x : Int) : 0 ≤ clsOf x := by
  rcases mark_cases x with h | h
  · simp only [markOk, decide_eq_true_eq] at h; omega
  · omega
/-- x goes ahead as long as what follows is of less class. -/
def bub (x : Int) : List Int → List Int
  | [] => [x]
  | y :: t => if 0 < clsOf y ∧ clsOf y < clsOf x then y :: bub x t else x :: bub y t
def pass : List Int → List Int
  | [] => []
  | x :: t => bub x t
def passes : Nat → List Int → List Int
  | 0, l => l
  | n + 1, l => passes n (pass l)
theorem bub_sim : ∀ (t : List Int) (x : Int), Sim (x :: t) (bub x t)
  | [], _ => .refl _
  | y :: t, x => by
    unfold bub
    split
    · rename_i h
      exact .trans (Sim.swap [] x y t (by omega) h.1 (by omega)) ((bub_sim t x).ahead [y])
    · exact (bub_sim t y).ahead [x]
theorem pass_sim (l : List Int) : Sim l (pass l) := by
  cases l with
  | nil => exact .refl _
  | cons x t => exact bub_sim t x
theorem passes_sim : ∀ (n : Nat) (l : List Int), Sim l (passes n l)
  | 0, _ => .refl _
  | n + 1, l => .trans (pass_sim l) (passes_sim n (pass l))
theorem bub_len : ∀ (t : List Int) (x : Int), (bub x t).length = t.length + 1
  | [], _ => rfl
  | y :: t, x => by
    unfold bub
    split
    · simp [bub_len t x]
    · simp [bub_len t y]
theorem pass_len (l : List Int) : (pass l).length = l.length := by
  cases l with
  | nil => rfl
  | cons x t => simp [pass, bub_len]
theorem passes_len : ∀ (n : Nat) (l : List Int), (passes n l).length = l.length
  | 0, _ => rfl
  | n + 1, l => by rw [passes, passes_len n, pass_len]
/-- How many of ctx are of greater class. -/
def cnt (ctx : List Int) (c : Int) : Nat := ctx.countP fun e => decide (c < clsOf e)
/-- Ahead of each mark, among those that stand together with it, at most k are of greater class. -/
def Fit (k : Nat) : List Int → List Int → Prop
  | _, [] => True
  | ctx, y :: t => if clsOf y = 0 then Fit k [] t else cnt ctx (clsOf y) ≤ k ∧ Fit k (y :: ctx) t
theorem fit_congr {k : Nat} : ∀ {t a b : List Int}, (∀ c, 0 < c → cnt a c = cnt b c) → Fit k a t → Fit k b t
  | [], _, _, _, _ => trivial
  | y :: t, a, b, h, hf => by
    unfold Fit at hf ⊢
    have hy := cls_nonneg y
    split at hf
    · rename_i h0
      rw [if_pos h0]
      exact hf
    · rename_i h0
      rw [if_neg h0]
      refine ⟨by rw [← h _ (by omega)]; exact hf.1, fit_congr (fun c hc => ?_) hf.2⟩
      have := h c hc
      simp only [cnt, List.countP_cons] at this ⊢
      omega
theorem cnt_zero {ctx : List Int} {c : Int} (h : ∀ e ∈ ctx, clsOf e ≤ c) : cnt ctx c = 0 := by
  unfold cnt
  rw [List.countP_eq_zero]
  intro e he
  have := h e he
  simp only [decide_eq_true_eq]
  omega
theorem bub_fit {k : Nat} : ∀ (t : List Int) (x : Int) (E : List Int), (clsOf x = 0 ∨ ∀ e ∈ E, clsOf e ≤ clsOf x) → Fit (k + 1) (if clsOf x = 0 then [] else x :: E) t → Fit k E (bub x t)
  | [], x, E, hE, _ => by
    unfold bub Fit
    split
    · trivial
    · rename_i h0
      rcases hE with h | h
      · exact absurd h h0
      · exact ⟨by rw [cnt_zero h]; omega, trivial⟩
  | y :: t, x, E, hE, hf => by
    have hx := cls_nonneg x
    have hy := cls_nonneg y
    unfold bub
    by_cases hs : 0 < clsOf y ∧ clsOf y < clsOf x
    · have hx0 : ¬ clsOf x = 0 := by omega
      have hy0 : ¬ clsOf y = 0 := by omega
      have hE' : ∀ e ∈ E, clsOf e ≤ clsOf x := hE.resolve_left hx0
      rw [if_pos hs]
      rw [if_neg hx0] at hf
      unfold Fit at hf ⊢
      rw [if_neg hy0] at hf ⊢
      have hc : cnt (x :: E) (clsOf y) = cnt E (clsOf y) + 1 := by
        simp only [cnt, List.countP_cons]
        rw [if_pos (by simpa using hs.2)]
      refine ⟨by have := hf.1; omega, bub_fit t x (y :: E) (.inr fun e he => ?_) ?_⟩
      · rcases List.mem_cons.1 he with rfl | he
        · omega
        · exact hE' e he
      · rw [if_neg hx0]
        refine fit_congr (fun c _ => ?_) hf.2
        simp only [cnt, List.countP_cons]
        omega
    · rw [if_neg hs]
      by_cases hx0 : clsOf x = 0
      · rw [if_pos hx0] at hf
        unfold Fit at hf ⊢
        rw [if_pos hx0]
        refine bub_fit t y [] (.inr fun e he => by cases he) ?_
        split at hf
        · rename_i h0
          rw [if_pos h0]; exact hf
        · rename_i h0
          rw [if_neg h0]; exact hf.2
      · have hE' : ∀ e ∈ E, clsOf e ≤ clsOf x := hE.resolve_left hx0
        rw [if_neg hx0] at hf
        unfold Fit at hf ⊢
        rw [if_neg hx0]
        refine ⟨by rw [cnt_zero hE']; omega, ?_⟩
        by_cases hy0 : clsOf y = 0
        · rw [if_pos hy0] at hf
          exact bub_fit t y (x :: E) (.inl hy0) (by rw [if_pos hy0]; exact hf)
        · rw [if_neg hy0] at hf
          refine bub_fit t y (x :: E) (.inr fun e he => ?_) (by rw [if_neg hy0]; exact hf.2)
          rcases List.mem_cons.1 he with rfl | he
          · omega
          · have := hE' e he; omega
theorem pass_fit {k : Nat} {l : List Int} (h : Fit (k + 1) [] l) : Fit k [] (pass l) := by
  cases l with
  | nil => trivial
  | cons x t =>
    refine bub_fit t x [] (.inr fun e he => by cases he) ?_
    unfold Fit at h
    split at h
    · rename_i h0
      rw [if_pos h0]; exact h
    · rename_i h0
      rw [if_neg h0]; exact h.2
theorem fit_more {k : Nat} : ∀ (l ctx : List Int), ctx.length + l.length ≤ k → Fit k ctx l
  | [], _, _ => trivial
  | y :: t, ctx, h => by
    unfold Fit
    simp only [List.length_cons] at h
    split
    · exact fit_more t [] (by simp; omega)
    · refine ⟨Nat.le_trans (List.countP_le_length) (by omega), fit_more t (y :: ctx) (by simp only [List.length_cons]; omega)⟩
theorem fit_pass : ∀ (k : Nat) (l : List Int), Fit k [] l → Fit 0 [] (passes k l)
  | 0, _, h => h
  | k + 1, l, h => fit_pass k (pass l) (pass_fit h)
theorem fit_sorted : ∀ (l ctx : List Int), Fit 0 ctx l → sorted l = true
  | [], _, _ => rfl
  | x :: l, ctx, h => by
    have hx := cls_nonneg x
    unfold sorted
    rw [Bool.and_eq_true]
    unfold Fit at h
    cases l with
    | nil => exact ⟨rfl, rfl⟩
    | cons y t =>
      have hy := cls_nonneg y
      by_cases h0 : clsOf x = 0
      · rw [if_pos h0] at h
        refine ⟨?_, fit_sorted _ _ h⟩
        simp only [Bool.not_eq_true', Bool.and_eq_false_iff, decide_eq_false_iff_not]
        omega
      · rw [if_neg h0] at h
        refine ⟨?_, fit_sorted _ _ h.2⟩
        have h2 := h.2
        unfold Fit at h2
        simp only [Bool.not_eq_true', Bool.and_eq_false_iff, decide_eq_false_iff_not]
        by_cases hy0 : clsOf y = 0
        · omega
        · rw [if_neg hy0] at h2
          right
          intro hlt
          have h3 := h2.1
          simp only [cnt, List.countP_cons] at h3
          rw [if_pos (by simpa using hlt)] at h3
          omega
/-- The document's own way of ordering. -/
theorem passes_order (l : List Int) : passes l.length l = order l :=
  order_is (passes_sim _ _) (fit_sorted _ _ (fit_pass _ _ (fit_more l [] (by simp))))
end Norm
end Go.Proofs.Ytpmcmbkilcpleaa
