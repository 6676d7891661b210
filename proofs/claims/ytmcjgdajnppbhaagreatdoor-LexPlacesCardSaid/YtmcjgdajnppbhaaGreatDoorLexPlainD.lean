/-
  PLAIN: rows of tokens: their Sources are cut into them again; where they stand; how deep notes may stand; what can be quoted. Conditions: as they stand in each. Nothing of the program is used here.
-/
import Derived.Test.YtmcjgdajnppbhaaGreatDoorLexPlainC
namespace Go.Proofs.YtmcjgdajnppbhaaGreatDoor
open Utf
namespace Lex
/-- The tokens of l, the first of which stands at a. -/
inductive Cuts : Nat → List UInt8 → List Tok → Prop
  | nil (a : Nat) : Cuts a [] []
  | cons {a n : Nat} {l x : List UInt8} {k : Int} {ts : List Tok} (h : one l = (k, .fine x n)) (t : Cuts (a + n) (l.drop n) ts) : Cuts a l (⟨k, x, a⟩ :: ts)
theorem one_nil : one [] = (0, .bad 0) := rfl
theorem all_ok : ∀ (f a : Nat) (l : List UInt8), l.length ≤ f → (all f a l).1 = 0 → (all f a l).2.1 = 0 ∧ Cuts a l (all f a l).2.2
  | 0, a, l, h, _ => by
    obtain rfl : l = [] := List.eq_nil_of_length_eq_zero (by omega)
    exact ⟨rfl, .nil a⟩
  | f + 1, a, l, h, h0 => by
    rw [all] at h0 ⊢
    by_cases hl : l = []
    · rw [if_pos hl] at h0 ⊢
      subst hl
      exact ⟨rfl, .nil a⟩
    · rw [if_neg hl] at h0 ⊢
      obtain ⟨⟨k, r⟩, hk⟩ : ∃ q, q = one l := ⟨_, rfl⟩
      rw [← hk] at h0 ⊢
      cases r with
      | fine x n =>
        obtain ⟨g1, g2, -⟩ := one_fine hk.symm
        simp only at h0 ⊢
        have ih := all_ok f (a + n) (l.drop n) (by rw [List.length_drop]; omega)
        by_cases hz : (all f (a + n) (l.drop n)).1 = 0
        · rw [if_pos hz]
          exact ⟨rfl, .cons hk.symm (ih hz).2⟩
        · rw [if_neg hz] at h0
          exact absurd h0 hz
      | bad i => exact absurd (show (4 : Int) = 0 from h0) (by decide)
      | gap => exact absurd (show (4 : Int) = 0 from h0) (by decide)
      | deep i => exact absurd (show (6 : Int) = 0 from h0) (by decide)
theorem all_of : ∀ {a : Nat} {l : List UInt8} {ts : List Tok}, Cuts a l ts → ∀ f, l.length ≤ f → all f a l = (0, 0, ts) := by
  intro a l ts h
  induction h with
  | nil a =>
    intro f _
    cases f with
    | zero => rfl
    | succ f => rw [all, if_pos rfl]
  | @cons a n l x k ts h1 _ ih =>
    intro f hf
    obtain ⟨g1, g2, -⟩ := one_fine h1
    cases f with
    | zero => omega
    | succ f =>
      have h2 := ih f (by rw [List.length_drop]; omega)
      rw [all, if_neg (fun e => by rw [e] at g2; simp at g2; omega), h1]
      simp only
      rw [h2]
      simp only
      rfl
/-- Nothing is told beside an error; fuel that is enough is enough. -/
theorem all_none : ∀ (f a : Nat) (l : List UInt8), (all f a l).1 ≠ 0 → (all f a l).2.2 = []
  | 0, _, _, h => absurd rfl h
  | f + 1, a, l, h => by
    rw [all] at h ⊢
    by_cases hl : l = []
    · rw [if_pos hl] at h; exact absurd rfl h
    · rw [if_neg hl] at h ⊢
      obtain ⟨⟨k, r⟩, hk⟩ : ∃ q, q = one l := ⟨_, rfl⟩
      rw [← hk] at h ⊢
      cases r with
      | fine x n =>
        simp only at h ⊢
        by_cases hz : (all f (a + n) (l.drop n)).1 = 0
        · rw [if_pos hz] at h; exact absurd rfl h
        · rw [if_neg hz] at h ⊢
          exact all_none f _ _ h
      | bad i => rfl
      | gap => rfl
      | deep i => rfl
theorem all_more : ∀ (f g a : Nat) (l : List UInt8), l.length ≤ f → l.length ≤ g → all f a l = all g a l
  | 0, g, a, l, h, _ => by
    obtain rfl : l = [] := List.eq_nil_of_length_eq_zero (by omega)
    cases g with
    | zero => rfl
    | succ g => rw [all, all, if_pos rfl]
  | f + 1, 0, a, l, _, h => by
    obtain rfl : l = [] := List.eq_nil_of_length_eq_zero (by omega)
    rw [all, all, if_pos rfl]
  | f + 1, g + 1, a, l, h1, h2 => by
    rw [all, all]
    by_cases hl : l = []
    · rw [if_pos hl, if_pos hl]
    · rw [if_neg hl, if_neg hl]
      obtain ⟨⟨k, r⟩, hk⟩ : ∃ q, q = one l := ⟨_, rfl⟩
      rw [← hk]
      cases r with
      | fine x n =>
        obtain ⟨g1, g2, -⟩ := one_fine hk.symm
        simp only
        rw [all_more f g (a + n) (l.drop n) (by rw [List.length_drop]; omega) (by rw [List.length_drop]; omega)]
      | bad i => rfl
      | gap => rfl
      | deep i => rfl
/-! ### the Sources -/
def outs : List Tok → List UInt8
  | [] => []
  | k :: ts => srcT k.kind k.text ++ outs ts
def says (k : Tok) : Int × List UInt8 := (k.kind, k.text)
theorem outs_head {a : Nat} {l : List UInt8} {ts : List Tok} (h : Cuts a l ts) : (l = [] ∧ outs ts = []) ∨ ∃ c t u, l = c :: t ∧ outs ts = c :: u ∧ (c.toNat = 13 → white l ≠ 0) := by
  cases h with
  | nil => exact .inl ⟨rfl, rfl⟩
  | @cons a n l x k ts h1 h2 =>
    obtain ⟨-, -, -, -, -, ⟨c, t, u, e1, e2, e3⟩, -⟩ := one_fine h1
    exact .inr ⟨c, t, u ++ outs ts, e1, by show srcT k x ++ outs ts = _; rw [e2]; rfl, e3⟩
theorem cuts_back {a : Nat} {l : List UInt8} {ts : List Tok} (h : Cuts a l ts) : ∀ b, ∃ ts', Cuts b (outs ts) ts' ∧ ts'.map says = ts.map says := by
  induction h with
  | nil a => exact fun b => ⟨[], .nil b, rfl⟩
  | @cons a n l x k ts h1 h2 ih =>
    intro b
    obtain ⟨-, -, -, -, -, -, g⟩ := one_fine h1
    obtain ⟨ts', ht, hs⟩ := ih (b + (srcT k x).length)
    have hhead := outs_head h2
    have hone := g (outs ts) (fun _ hA c t e => by
      rcases hhead with ⟨-, e2⟩ | ⟨c', t', u, e1, e2, -⟩
      · rw [e2] at e; cases e
      · rw [e2] at e
        injection e with e3 e4
        rw [← e3]
        exact hA c' t' e1) (fun _ hw => by
      rcases hhead with ⟨-, e2⟩ | ⟨c', t', u, e1, e2, e3⟩
      · rw [e2]; rfl
      · rw [e2]
        refine white_none ?_ (fun e => e3 e hw)
        cases hb : blankN c'.toNat with
        | false => rfl
        | true =>
          rw [e1, white_blank hb] at hw
          omega)
    refine ⟨⟨k, x, b⟩ :: ts', .cons hone ?_, ?_⟩
    · show Cuts _ ((srcT k x ++ outs ts).drop (srcT k x).length) ts'
      rw [List.drop_left]
      exact ht
    · rw [List.map_cons, List.map_cons, hs]
      rfl
theorem outs_len {a : Nat} {l : List UInt8} {ts : List Tok} (h : Cuts a l ts) : (outs ts).length ≤ l.length ∧ ts.length ≤ l.length := by
  induction h with
  | nil a => exact ⟨Nat.le_refl _, Nat.le_refl _⟩
  | @cons a n l x k ts h1 h2 ih =>
    obtain ⟨g1, g2, g3, -⟩ := one_fine h1
    rw [List.length_drop] at ih
    show (srcT k x ++ outs ts).length ≤ _ ∧ _
    rw [List.length_append, List.length_cons]
    omega
theorem outs_plain {a : Nat} {l : List UInt8} {ts : List Tok} (h : Cuts a l ts) : (∀ k ∈ ts, k.kind ≠ 1) → outs ts = l := by
  induction h with
  | nil a => exact fun _ => rfl
  | @cons a n l x k ts h1 h2 ih =>
    intro hq
    obtain ⟨-, -, -, g, -⟩ := one_fine h1
    show srcT k x ++ outs ts = l
    rw [g (hq ⟨k, x, a⟩ (by simp)), ih (fun k hk => hq k (by simp [hk])), List.take_append_drop]
theorem outs_ok {a : Nat} {l : List UInt8} {ts : List Tok} (h : Cuts a l ts) : ∀ pre, ok (pre ++ l) → ok (pre ++ outs ts) := by
  induction h with
  | nil a => exact fun pre h => h
  | @cons a n l x k ts h1 h2 ih =>
    intro pre hp
    obtain ⟨-, -, -, g4, g5, -⟩ := one_fine h1
    show ok (pre ++ (srcT k x ++ outs ts))
    rw [← List.append_assoc]
    refine ih _ ?_
    rw [List.append_assoc]
    by_cases hk : k = 1
    · exact (g5 hk).2 pre hp
    · rw [g4 hk, List.take_append_drop]
      exact hp
/-- What was cut is cut again. -/
theorem lex_back {s : List UInt8} {ts : List Tok} (h : lexE s = (0, 0, ts)) : ∃ ts', lexE (outs ts) = (0, 0, ts') ∧ ts'.map says = ts.map says ∧ ((∀ k ∈ ts, k.kind ≠ 1) → outs ts = s) := by
  unfold lexE at h
  by_cases hl : 2000 < s.length
  · rw [if_pos hl] at h; cases h
  rw [if_neg hl] at h
  by_cases hr : (rdOf s).2 = -1
  case neg => rw [if_neg hr] at h; cases h
  rw [if_pos hr] at h
  have hc := (all_ok s.length 0 s (Nat.le_refl _) (by rw [h])).2
  rw [h] at hc
  simp only at hc
  obtain ⟨ts', ht, hs⟩ := cuts_back hc 0
  refine ⟨ts', ?_, hs, outs_plain hc⟩
  unfold lexE
  have h1 := outs_len hc
  have ho : (rdOf (outs ts)).2 = -1 := outs_ok hc [] hr
  rw [if_neg (by omega), if_pos ho, all_of ht _ (Nat.le_refl _)]
/-! ### places -/
theorem quo_bad (m : Nat) : ∀ (t : List UInt8) (i : Nat), t.length ≤ m → quo t = .bad i → i < t.length := by
  induction m with
  | zero =>
    intro t i ht h
    obtain rfl : t = [] := List.eq_nil_of_length_eq_zero (by omega)
    cases h
  | succ m ih =>
    intro t i ht h
    rcases quo_cases t with ⟨rfl, e⟩ | ⟨c, r, rfl, hc, e⟩ | ⟨c, rfl, hc, e⟩ | ⟨c, d, r, rfl, hc, hd, e⟩ | ⟨c, d, r, rfl, hc, hd, e⟩ | ⟨c, r, rfl, h1, h2, hc, e⟩ | ⟨c, r, rfl, h1, h2, hc, e⟩ <;> rw [e] at h
    · cases h
    · cases h
    · cases h
    · obtain ⟨i', hr, rfl⟩ := on_bad h
      simp only [List.length_cons] at ht ⊢
      have := ih r i' (by omega) hr
      omega
    · injection h with h; subst h; simp
    · obtain ⟨i', hr, rfl⟩ := on_bad h
      simp only [List.length_cons] at ht ⊢
      have := ih r i' (by omega) hr
      omega
    · injection h with h; subst h; simp
theorem quo_deep (m : Nat) : ∀ (t : List UInt8) (i : Nat), t.length ≤ m → quo t ≠ .deep i := by
  induction m with
  | zero =>
    intro t i ht h
    obtain rfl : t = [] := List.eq_nil_of_length_eq_zero (by omega)
    cases h
  | succ m ih =>
    intro t i ht h
    rcases quo_cases t with ⟨rfl, e⟩ | ⟨c, r, rfl, hc, e⟩ | ⟨c, rfl, hc, e⟩ | ⟨c, d, r, rfl, hc, hd, e⟩ | ⟨c, d, r, rfl, hc, hd, e⟩ | ⟨c, r, rfl, h1, h2, hc, e⟩ | ⟨c, r, rfl, h1, h2, hc, e⟩ <;> rw [e] at h
    · cases h
    · cases h
    · cases h
    · obtain ⟨i', hr, rfl⟩ := on_deep h
      simp only [List.length_cons] at ht
      exact ih r i' (by omega) hr
    · cases h
    · obtain ⟨i', hr, rfl⟩ := on_deep h
      simp only [List.length_cons] at ht
      exact ih r i' (by omega) hr
    · cases h
theorem lit_bad : ∀ (t : List UInt8) (i : Nat), (lit t = .bad i → i < t.length) ∧ lit t ≠ .deep i
  | [], i => ⟨fun h => (by cases h), fun h => (by cases h)⟩
  | c :: t, i => by
    rw [lit]
    split
    · exact ⟨fun h => (by cases h), fun h => (by cases h)⟩
    · split
      · refine ⟨fun h => ?_, fun h => ?_⟩
        · obtain ⟨i', hr, rfl⟩ := on_bad h
          have := (lit_bad t i').1 hr
          simp only [List.length_cons]
          omega
        · obtain ⟨i', hr, rfl⟩ := on_deep h
          exact (lit_bad t i').2 hr
      · exact ⟨fun h => (by injection h with h; subst h; simp), fun h => (by cases h)⟩
theorem note_bad (m : Nat) : ∀ (t : List UInt8) (i d : Nat), t.length ≤ m → note t d = .bad i ∨ note t d = .deep i → i < t.length := by
  induction m with
  | zero =>
    intro t i d ht h
    obtain rfl : t = [] := List.eq_nil_of_length_eq_zero (by omega)
    rw [note] at h
    rcases h with h | h <;> cases h
  | succ m ih =>
    intro t i d ht h
    rcases note_cases t d with ⟨rfl, e⟩ | ⟨c, r, rfl, hc, e⟩ | ⟨c, r, rfl, hc, e⟩ | ⟨c, rfl, hc, e⟩ | ⟨c, b, r, rfl, hc, e⟩ | ⟨c, r, rfl, h0, h1, h2, e⟩ <;> rw [e] at h
    · rcases h with h | h <;> cases h
    · simp only [List.length_cons] at ht ⊢
      split at h
      · rcases h with h | h
        · cases h
        · injection h with h; omega
      · rcases h with h | h
        · obtain ⟨i', hr, rfl⟩ := on_bad h
          have := ih r i' _ (by omega) (.inl hr)
          omega
        · obtain ⟨i', hr, rfl⟩ := on_deep h
          have := ih r i' _ (by omega) (.inr hr)
          omega
    · simp only [List.length_cons] at ht ⊢
      split at h
      · rcases h with h | h <;> cases h
      · rcases h with h | h
        · obtain ⟨i', hr, rfl⟩ := on_bad h
          have := ih r i' _ (by omega) (.inl hr)
          omega
        · obtain ⟨i', hr, rfl⟩ := on_deep h
          have := ih r i' _ (by omega) (.inr hr)
          omega
    · rcases h with h | h <;> cases h
    · simp only [List.length_cons] at ht ⊢
      split at h
      · rcases h with h | h
        · obtain ⟨i', hr, rfl⟩ := on_bad h
          have := ih r i' _ (by omega) (.inl hr)
          omega
        · obtain ⟨i', hr, rfl⟩ := on_deep h
          have := ih r i' _ (by omega) (.inr hr)
          omega
      · rcases h with h | h
        · injection h with h; omega
        · cases h
    · simp only [List.length_cons] at ht ⊢
      split at h
      · rcases h with h | h
        · obtain ⟨i', hr, rfl⟩ := on_bad h
          have := ih r i' _ (by omega) (.inl hr)
          omega
        · obtain ⟨i', hr, rfl⟩ := on_deep h
          have := ih r i' _ (by omega) (.inr hr)
          omega
      · rcases h with h | h
        · injection h with h; omega
        · cases h
theorem top_not {r : Cut} : (∀ i, r.top = .bad i → i = 0 ∨ ∃ j, r = .bad j ∧ i = j + 1) ∧ (∀ i, r.top = .deep i → ∃ j, r = .deep j ∧ i = j + 1) ∧ r.top ≠ .gap := by
  cases r with
  | fine x n => exact ⟨fun i h => (by cases h), fun i h => (by cases h), fun h => (by cases h)⟩
  | bad j => exact ⟨fun i h => (by injection h with h; exact .inr ⟨j, rfl, h.symm⟩), fun i h => (by cases h), fun h => (by cases h)⟩
  | gap => exact ⟨fun i h => (by injection h with h; exact .inl h.symm), fun i h => (by cases h), fun h => (by cases h)⟩
  | deep j => exact ⟨fun i h => (by cases h), fun i h => (by injection h with h; exact ⟨j, rfl, h.symm⟩), fun h => (by cases h)⟩
theorem one_not {l : List UInt8} (hl : l ≠ []) : (∀ k i, one l = (k, .bad i) → i < l.length) ∧ (∀ k i, one l = (k, .deep i) → i < l.length) ∧ ∀ k, one l ≠ (k, .gap) := by
  cases l with
  | nil => exact absurd rfl hl
  | cons c t =>
    rcases one_cases c t with h1 | h1 | h1 | h1 | h1 | h1 | h1
    · rw [one_atom t h1]; exact ⟨fun k i h => (by cases h), fun k i h => (by cases h), fun k h => (by cases h)⟩
    · rw [one_sign t h1]; exact ⟨fun k i h => (by cases h), fun k i h => (by cases h), fun k h => (by cases h)⟩
    · rw [one_white h1]; exact ⟨fun k i h => (by cases h), fun k i h => (by cases h), fun k h => (by cases h)⟩
    · rw [one_quo c t h1]
      refine ⟨fun k i h => ?_, fun k i h => ?_, fun k h => ?_⟩ <;> injection h with _ h
      · rcases top_not.1 i h with rfl | ⟨j, hj, rfl⟩
        · simp
        · have := quo_bad _ t j (Nat.le_refl _) hj
          simp only [List.length_cons]; omega
      · obtain ⟨j, hj, rfl⟩ := top_not.2.1 i h
        exact absurd hj (quo_deep _ t j (Nat.le_refl _))
      · exact top_not.2.2 h
    · rw [one_lit c t h1]
      refine ⟨fun k i h => ?_, fun k i h => ?_, fun k h => ?_⟩ <;> injection h with _ h
      · rcases top_not.1 i h with rfl | ⟨j, hj, rfl⟩
        · simp
        · have := (lit_bad t j).1 hj
          simp only [List.length_cons]; omega
      · obtain ⟨j, hj, rfl⟩ := top_not.2.1 i h
        exact absurd hj (lit_bad t j).2
      · exact top_not.2.2 h
    · rw [one_note c t h1]
      refine ⟨fun k i h => ?_, fun k i h => ?_, fun k h => ?_⟩ <;> injection h with _ h
      · rcases top_not.1 i h with rfl | ⟨j, hj, rfl⟩
        · simp
        · have := note_bad _ t j 1 (Nat.le_refl _) (.inl hj)
          simp only [List.length_cons]; omega
      · obtain ⟨j, hj, rfl⟩ := top_not.2.1 i h
        have := note_bad _ t j 1 (Nat.le_refl _) (.inr hj)
        simp only [List.length_cons]; omega
      · exact top_not.2.2 h
    · rw [h1]
      refine ⟨fun k i h => ?_, fun k i h => (by cases h), fun k h => (by cases h)⟩
      injection h with _ h
      injection h with h
      subst h
      simp
theorem all_bad : ∀ (f a : Nat) (l : List UInt8), (all f a l).1 ≠ 0 → ((all f a l).1 = 4 ∨ (all f a l).1 = 6) ∧ (all f a l).2.1 < a + l.length
  | 0, _, _, h => absurd rfl h
  | f + 1, a, l, h => by
    rw [all] at h ⊢
    by_cases hl : l = []
    · rw [if_pos hl] at h; exact absurd rfl h
    · rw [if_neg hl] at h ⊢
      obtain ⟨o1, o2, o3⟩ := one_not hl
      obtain ⟨⟨k, r⟩, hk⟩ : ∃ q, q = one l := ⟨_, rfl⟩
      rw [← hk] at h o1 o2 o3 ⊢
      cases r with
      | fine x n =>
        obtain ⟨g1, g2, -⟩ := one_fine hk.symm
        simp only at h ⊢
        by_cases hz : (all f (a + n) (l.drop n)).1 = 0
        · rw [if_pos hz] at h; exact absurd rfl h
        · rw [if_neg hz]
          have := all_bad f _ _ hz
          rw [List.length_drop] at this
          exact ⟨this.1, by omega⟩
      | bad i => exact ⟨.inl rfl, by have := o1 k i rfl; show a + i < _; omega⟩
      | gap => exact absurd rfl (o3 k)
      | deep i => exact ⟨.inr rfl, by have := o2 k i rfl; show a + i < _; omega⟩
theorem lex_cases (s : List UInt8) : (2000 < s.length ∧ lexE s = (5, 0, [])) ∨ (s.length ≤ 2000 ∧ ∃ E p, lexE s = (E, p, []) ∧ (E = 4 ∨ E = 6 ∨ E = 7) ∧ p < s.length) ∨ (s.length ≤ 2000 ∧ ∃ ts, lexE s = (0, 0, ts) ∧ Cuts 0 s ts ∧ ok s) := by
  unfold lexE
  by_cases hl : 2000 < s.length
  · exact .inl ⟨hl, by rw [if_pos hl]⟩
  rw [if_neg hl]
  right
  by_cases hr : (rdOf s).2 = -1
  · rw [if_pos hr]
    by_cases h0 : (all s.length 0 s).1 = 0
    · obtain ⟨h1, h2⟩ := all_ok s.length 0 s (Nat.le_refl _) h0
      exact .inr ⟨by omega, _, Prod.ext h0 (Prod.ext h1 rfl), h2, hr⟩
    · have h1 := all_none _ _ _ h0
      have h2 := all_bad _ _ _ h0
      exact .inl ⟨by omega, (all s.length 0 s).1, (all s.length 0 s).2.1, Prod.ext rfl (Prod.ext rfl h1), by rcases h2.1 with h | h; exact .inl h; exact .inr (.inl h), by have := h2.2; omega⟩
  · rw [if_neg hr]
    obtain ⟨-, -, h3⟩ := rd_cases (s := s) (m := (rdOf s).1) (z := (rdOf s).2) rfl
    rcases h3 with ⟨h3, -⟩ | ⟨k, hk, h4, -⟩
    · exact absurd h3 hr
    · exact .inl ⟨by omega, 7, k, by rw [hk]; rfl, .inr (.inr rfl), h4⟩
theorem one_kind {l x : List UInt8} {k : Int} {n : Nat} (h : one l = (k, .fine x n)) : k = 0 ∨ k = 1 ∨ k = 2 ∨ k = 3 ∨ k = 4 ∨ k = 5 := by
  cases l with
  | nil => rw [one] at h; injection h with h; omega
  | cons c t =>
    rw [one] at h
    split at h
    · injection h with h; omega
    split at h
    · injection h with h; omega
    split at h
    · injection h with h; omega
    split at h
    · injection h with h; omega
    split at h
    · injection h with h; omega
    split at h
    · injection h with h; omega
    · injection h with h; omega
def nth (ts : List Tok) (i : Nat) : Tok := ts.getD i ⟨0, [], 0⟩
theorem nth_0 (k : Tok) (ts : List Tok) : nth (k :: ts) 0 = k := rfl
theorem nth_succ (k : Tok) (ts : List Tok) (i : Nat) : nth (k :: ts) (i + 1) = nth ts i := rfl
theorem nth_mem {ts : List Tok} {i : Nat} (h : i < ts.length) : nth ts i ∈ ts := by unfold nth; rw [List.getD_eq_getElem?_getD, List.getElem?_eq_getElem h]; exact List.getElem_mem h
/-- Where the i-th token ends. -/
def endT (ts : List Tok) (n i : Nat) : Nat := if i + 1 < ts.length then (nth ts (i + 1)).place else n
theorem cuts_first {a : Nat} {l : List UInt8} {ts : List Tok} (h : Cuts a l ts) : (ts = [] ∧ l = []) ∨ (0 < ts.length ∧ l ≠ [] ∧ (nth ts 0).place = a) := by
  cases h with
  | nil => exact .inl ⟨rfl, rfl⟩
  | @cons a n l x k ts h1 h2 =>
    refine .inr ⟨by simp, fun e => ?_, rfl⟩
    subst e
    rw [one_nil] at h1
    injection h1 with _ h1
    cases h1
/-- What is said of the i-th token's place. -/
structure Stands (s : List UInt8) (ts : List Tok) (i : Nat) : Prop where
  lt : (nth ts i).place < endT ts s.length i
  le : endT ts s.length i ≤ s.length
  src : (nth ts i).kind ≠ 1 → srcT (nth ts i).kind (nth ts i).text = (s.drop (nth ts i).place).take (endT ts s.length i - (nth ts i).place)
  quo : (nth ts i).kind = 1 → (nth ts i).text.length + 2 ≤ endT ts s.length i - (nth ts i).place ∧ s[(nth ts i).place]? = some 34
theorem cuts_stand (s : List UInt8) : ∀ {a : Nat} {l : List UInt8} {ts : List Tok}, Cuts a l ts → l = s.drop a → a ≤ s.length → ∀ i, i < ts.length → a ≤ (nth ts i).place ∧ Stands s ts i := by
  intro a l ts h
  induction h with
  | nil a => exact fun _ _ i hi => absurd hi (Nat.not_lt_zero _)
  | @cons a n l x k ts h1 h2 ih =>
    intro hl ha i hi
    obtain ⟨g1, g2, g3, g4, g5, ⟨c, t, u, e1, e2, -⟩, -⟩ := one_fine h1
    have hll : l.length = s.length - a := by rw [hl, List.length_drop]
    have ih' := ih (by rw [hl, List.drop_drop]) (by omega)
    cases i with
    | zero =>
      rw [nth_0]
      have hend : endT (⟨k, x, a⟩ :: ts) s.length 0 = a + n := by
        unfold endT
        rcases cuts_first h2 with ⟨rfl, h3⟩ | ⟨h3, -, h4⟩
        · rw [if_neg (by simp)]
          have := congrArg List.length h3
          rw [List.length_drop, List.length_nil] at this
          omega
        · rw [if_pos (by simp; omega), nth_succ, h4]
      refine ⟨Nat.le_refl _, ?_, ?_, fun hk => ?_, fun hk => ?_⟩
      · rw [nth_0, hend]; show a < a + n; omega
      · rw [hend]; omega
      · rw [nth_0] at hk ⊢
        rw [hend]
        show srcT k x = (s.drop a).take (a + n - a)
        rw [g4 hk, hl, Nat.add_sub_cancel_left]
      · rw [nth_0] at hk ⊢
        rw [hend]
        have hk : k = 1 := hk
        refine ⟨by show x.length + 2 ≤ a + n - a; have := (g5 hk).1; omega, ?_⟩
        have hh : s.drop a = 34 :: t := by
          rw [← hl, e1]
          have : srcT k x = 34 :: (esc x ++ [34]) := by rw [hk]; rfl
          rw [this] at e2
          injection e2 with e3 _
          rw [e3]
        have := congrArg (fun q => q[0]?) hh
        simp only [List.getElem?_drop, Nat.add_zero, List.getElem?_cons_zero] at this
        exact this
    | succ i =>
      have hi' : i < ts.length := by simpa using hi
      obtain ⟨p1, p2⟩ := ih' i hi'
      have hend : endT (⟨k, x, a⟩ :: ts) s.length (i + 1) = endT ts s.length i := by
        unfold endT
        rw [List.length_cons, nth_succ]
        by_cases h : i + 1 < ts.length
        · rw [if_pos h, if_pos (by omega)]
        · rw [if_neg h, if_neg (by omega)]
      rw [nth_succ]
      refine ⟨by omega, ⟨by rw [nth_succ, hend]; exact p2.lt, by rw [hend]; exact p2.le, by rw [nth_succ, hend]; exact p2.src, by rw [nth_succ, hend]; exact p2.quo⟩⟩
/-! ### notes in notes -/
def wrap : Nat → List UInt8 → List UInt8
  | 0, s => s
  | n + 1, s => 40 :: (wrap n s ++ [41])
theorem wrap_len : ∀ (n : Nat) (s : List UInt8), (wrap n s).length = s.length + 2 * n
  | 0, s => rfl
  | n + 1, s => by rw [wrap, List.length_cons, List.length_append, wrap_len n s]; simp; omega
/-- Behind n notes' opening ends: what stands behind their closing ends is read on. -/
theorem note_plain : ∀ (s : List UInt8) (r : List UInt8) (d : Nat), (∀ b ∈ s, atomB b = true) → note (s ++ r) d = (note r d).on s s.length
  | [], r, d, _ => by
    show note r d = _
    cases note r d <;> rfl
  | b :: s, r, d, h => by
    obtain ⟨h1, -, -, -, -, -, h2, h3, h4⟩ := atom_not b (h b (by simp))
    rw [List.cons_append, note_on h2 h3 h4, h1, if_pos rfl, note_plain s r d (fun y hy => h y (by simp [hy]))]
    cases note r d <;> simp [Cut.on] <;> omega
theorem note_wrap (s : List UInt8) (hs : ∀ b ∈ s, atomB b = true) : ∀ (n : Nat) (r : List UInt8) (d : Nat), 1 ≤ d → n + d ≤ 32 → note (wrap n s ++ r) d = (note r d).on (wrap n s) (wrap n s).length
  | 0, r, d, _, _ => note_plain s r d hs
  | n + 1, r, d, h1, h2 => by
    show note (40 :: (wrap n s ++ [41] ++ r)) d = _
    rw [note_40 rfl, if_neg (by omega), List.append_assoc, note_wrap s hs n _ (d + 1) (by omega) (by omega)]
    show (Cut.on (wrap n s) _ (note (41 :: r) (d + 1))).on [40] 1 = _
    rw [note_41 rfl, if_neg (by omega), Nat.add_sub_cancel]
    cases note r d <;> simp [Cut.on, wrap] <;> omega
theorem note_deep (s r : List UInt8) : ∀ (n d : Nat), d ≤ 32 → 32 < n + d → note (wrap n s ++ r) d = .deep (32 - d)
  | 0, d, h1, h2 => by omega
  | n + 1, d, h1, h2 => by
    show note (40 :: (wrap n s ++ [41] ++ r)) d = _
    rw [note_40 rfl]
    by_cases hd : 32 ≤ d
    · rw [if_pos hd]
      congr 1
      omega
    · rw [if_neg hd, List.append_assoc, note_deep s ([41] ++ r) n (d + 1) (by omega) (by omega)]
      show Cut.deep _ = _
      congr 1
      omega
theorem wrap_low {s : List UInt8} (h : ∀ b ∈ s, b.toNat < 128) : ∀ n, ∀ b ∈ wrap n s, b.toNat < 128
  | 0 => h
  | n + 1 => fun b hb => by
    rcases List.mem_cons.1 hb with rfl | hb
    · decide
    · rcases List.mem_append.1 hb with hb | hb
      · exact wrap_low h n b hb
      · rw [List.mem_singleton.1 hb]; decide
theorem lex_wrap {s : List UInt8} {n : Nat} (hs : ∀ b ∈ s, atomB b = true) (hlow : ∀ b ∈ s, b.toNat < 128) (hl : s.length ≤ 100) (hn : 1 ≤ n) (hn2 : n ≤ 60) :
    lexE (wrap n s) = if 32 < n then (6, 32, []) else (0, 0, [⟨3, wrap (n - 1) s, 0⟩]) := by
  obtain ⟨n, rfl⟩ : ∃ m, n = m + 1 := ⟨n - 1, by omega⟩
  have hw := wrap_len (n + 1) s
  have hok : (rdOf (wrap (n + 1) s)).2 = -1 := ok_ascii (wrap_low hlow (n + 1))
  unfold lexE
  rw [if_neg (by omega), if_pos hok, hw]
  have hfu : s.length + 2 * (n + 1) = (s.length + 2 * n + 1) + 1 := by omega
  rw [hfu, all, if_neg (by rw [wrap]; simp)]
  have h1 : one (wrap (n + 1) s) = (3, (note (wrap n s ++ [41]) 1).top) := one_note 40 _ rfl
  rw [h1]
  by_cases h : 32 < n + 1
  · rw [if_pos h, note_deep s [41] n 1 (by omega) (by omega)]
    rfl
  · rw [if_neg h, note_wrap s hs n [41] 1 (by omega) (by omega)]
    have h41 : note [41] 1 = .fine [] 1 := by rw [note_41 rfl, if_pos (Nat.le_refl _)]
    rw [h41]
    simp only [Cut.on, Cut.top, List.append_nil]
    rw [List.drop_of_length_le (by rw [hw, wrap_len]; omega), all, if_pos rfl]
    simp
/-! ### what can be quoted -/
theorem lex_quote {x : List UInt8} (hl : x.length ≤ 900) (hok : (rdOf (srcT 1 x)).2 = -1) : (((∀ b ∈ x, fineB b = true) ∧ lexE (srcT 1 x) = (0, 0, [⟨1, x, 0⟩])) ∨ ((∃ b ∈ x, fineB b = false) ∧ ∃ p, lexE (srcT 1 x) = (4, p, []))) := by
  have hs : srcT 1 x = 34 :: (esc x ++ [34]) := rfl
  have hel := esc_len x
  have hlen : (srcT 1 x).length = (esc x).length + 1 + 1 := by rw [hs]; simp
  unfold lexE
  rw [if_neg (by omega), if_pos hok, hlen, all, if_neg (by rw [hs]; simp)]
  have h1 : one (srcT 1 x) = (1, (quo (esc x ++ 34 :: [])).top) := one_quo 34 _ rfl
  rw [h1]
  by_cases h : ∀ b ∈ x, fineB b = true
  · left
    refine ⟨h, ?_⟩
    rw [quo_back x [] h]
    simp only [Cut.top]
    rw [List.drop_of_length_le (by rw [hlen]; omega), all, if_pos rfl]
    simp
  · right
    have hb : ∃ b ∈ x, fineB b = false := by
      apply Classical.byContradiction
      intro hn
      apply h
      intro b hb
      cases hf : fineB b with
      | true => rfl
      | false => exact absurd ⟨b, hb, hf⟩ hn
    obtain ⟨i, hi⟩ := quo_not x [] hb
    refine ⟨hb, ?_⟩
    rw [hi]
    exact ⟨_, rfl⟩
end Lex
end Go.Proofs.YtmcjgdajnppbhaaGreatDoor
