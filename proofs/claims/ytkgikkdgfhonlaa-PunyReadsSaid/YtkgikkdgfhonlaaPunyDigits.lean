/-
  PLAIN: deltas in digits, one behind the other, each by a bias out of those ahead of it; what is written is read as it was, and what is read was written so. Conditions: as they stand in each. Nothing of the program is imported here.
-/
import Derived.Test.YtkgikkdgfhonlaaPunyPlain
namespace Go.Proofs.Ytkgikkdgfhonlaa
namespace Puny
theorem digits_ne (n k b : Int) : digits n k b ≠ [] := by
  by_cases h : n < thr k b
  · rw [digits_last h]; simp
  · rw [digits_more (by omega)]; simp
/-- ad: how a bias comes of a delta, a count, and whether it is the first. -/
def emit (ad : Int → Int → Bool → Int) : List Int → Int → Int → Bool → List Int
  | [], _, _, _ => []
  | d :: ds, b, c, f => digits d 36 b ++ emit ad ds (ad d (c + 1) f) (c + 1) false
def parse (ad : Int → Int → Bool → Int) : Nat → List Int → Int → Int → Bool → Option (List Int)
  | _, [], _, _, _ => some []
  | 0, _ :: _, _, _, _ => none
  | k + 1, x :: l, b, c, f => match num b (x :: l) 36 1 0 0 with
    | none => none
    | some (d, m) => (parse ad k ((x :: l).drop m) (ad d (c + 1) f) (c + 1) false).map (d :: ·)
theorem parse_emit (ad : Int → Int → Bool → Int) (N : Int) (hN : N ≤ 126322567) : ∀ (ds : List Int) (k : Nat) (b c : Int) (f : Bool), ds.length ≤ k → (∀ d ∈ ds, 0 ≤ d ∧ d ≤ N) → parse ad k (emit ad ds b c f) b c f = some ds
  | [], k, _, _, _, _, _ => by cases k <;> rfl
  | d :: ds, 0, _, _, _, h, _ => by simp at h
  | d :: ds, k + 1, b, c, f, h, hd => by
    have h0 := hd d (by simp)
    have ih := parse_emit ad N hN ds k (ad d (c + 1) f) (c + 1) false (by simpa using h) (fun x hx => hd x (by simp [hx]))
    have hnum := num_digits b N hN (d.toNat + 1) d 36 1 0 0 (emit ad ds (ad d (c + 1) f) (c + 1) false) (by omega) h0.1 (by omega) (by omega) (by omega) (by decide) (fun _ => ⟨0, rfl⟩)
    unfold emit
    obtain ⟨y, ys, hy⟩ : ∃ y ys, digits d 36 b = y :: ys := by
      cases e : digits d 36 b with
      | nil => exact absurd e (digits_ne d 36 b)
      | cons y ys => exact ⟨y, ys, rfl⟩
    have hdrop : (digits d 36 b ++ emit ad ds (ad d (c + 1) f) (c + 1) false).drop (0 + (digits d 36 b).length) = emit ad ds (ad d (c + 1) f) (c + 1) false := by simp
    rw [hy, List.cons_append] at hnum hdrop ⊢
    unfold parse
    rw [hnum]
    simp only
    rw [hdrop, show (0 : Int) + d * 1 = d by omega, ih]
    rfl
theorem emit_parse (ad : Int → Int → Bool → Int) : ∀ (k : Nat) (l : List Int) (b c : Int) (f : Bool) (ds : List Int), (∀ x ∈ l, 0 ≤ x ∧ x < 36) → parse ad k l b c f = some ds → l = emit ad ds b c f ∧ ∀ d ∈ ds, 0 ≤ d
  | _, [], _, _, _, ds, _, h => by
    have : ds = [] := by unfold parse at h; exact (Option.some.inj h).symm
    subst this
    exact ⟨rfl, fun d hd => by cases hd⟩
  | 0, _ :: _, _, _, _, _, _, h => by unfold parse at h; cases h
  | k + 1, x :: l, b, c, f, ds, hl, h => by
    unfold parse at h
    cases hn : num b (x :: l) 36 1 0 0 with
    | none => rw [hn] at h; cases h
    | some p =>
      obtain ⟨d, m⟩ := p
      rw [hn] at h
      simp only at h
      obtain ⟨n, m', h0, hx, hv, -, -, ht⟩ := num_back b (x :: l) 36 1 0 0 d m hl hn
      have e1 : d = n := by omega
      have e2 : m = m' := by omega
      subst e1 e2
      cases hp : parse ad k ((x :: l).drop m) (ad d (c + 1) f) (c + 1) false with
      | none => rw [hp] at h; cases h
      | some es =>
        rw [hp] at h
        have hds : ds = d :: es := (Option.some.inj h).symm
        obtain ⟨g1, g2⟩ := emit_parse ad k _ _ _ _ es (fun y hy => hl y (List.mem_of_mem_drop hy)) hp
        subst hds
        refine ⟨?_, fun y hy => ?_⟩
        · unfold emit
          rw [← ht, ← g1, List.take_append_drop]
        · rcases List.mem_cons.1 hy with rfl | hy
          · exact h0
          · exact g2 y hy
end Puny
end Go.Proofs.Ytkgikkdgfhonlaa
