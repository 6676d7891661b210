/-
  PLAIN: what characters are split into, marks in their order, what is joined; that each form, done again, changes nothing, and what the forms of forms are. Conditions: none. Nothing of the program is imported here.
-/
import Derived.Test.YtpmcmbkilcpleaaFacts
namespace Go.Proofs.Ytpmcmbkilcpleaa
namespace Norm
/-- A syllable of Hangul. -/
def syl (r : Int) : Bool := decide (44032 ≤ r) && decide (r ≤ 55203)
def sylParts (r : Int) : List Int := [4352 + (r - 44032) / 588, 4449 + (r - 44032) % 588 / 28] ++ (if (r - 44032) % 28 = 0 then [] else [4519 + (r - 44032) % 28])
/-- What a character is split into, n steps deep. -/
def one : Nat → Bool → Int → List Int
  | 0, _, r => [r]
  | n + 1, soft, r => if syl r then sylParts r else match splitOf r with
    | none => [r]
    | some x => if x.soft && !soft then [r] else one n soft x.one ++ (if x.two = 0 then [] else one n soft x.two)
def pieces (soft : Bool) (r : Int) : List Int := one 4 soft r
/-- It is split into itself. -/
def whole (soft : Bool) (c : Int) : Bool := pieces soft c == [c]
theorem whole_iff {soft : Bool} {c : Int} : whole soft c = true ↔ pieces soft c = [c] := by unfold whole; rw [beq_iff_eq]
def rowOk (soft : Bool) (x a b : Int) : Bool := decide (one 3 soft a = one 4 soft a) && decide (one 3 soft b = one 4 soft b) && (pieces soft x).all (whole soft) && (pieces true x).all (whole false) && decide ((pieces false x).flatMap (pieces true) = pieces true x) && !syl x
theorem rows_one : ∀ y ∈ splits, rowOk false y.rune y.one y.two = true ∧ rowOk true y.rune y.one y.two = true := by decide +kernel
theorem wide_one : ∀ i ∈ List.range 94, rowOk false (65281 + i) (65281 + i - 65248) 0 = true ∧ rowOk true (65281 + i) (65281 + i - 65248) 0 = true := by decide +kernel
theorem split_one (soft : Bool) {x : Int} {y : Sp} (h : splitOf x = some y) : rowOk soft x y.one y.two = true := by
  rcases split_cases h with ⟨hy, rfl⟩ | ⟨hw, rfl⟩
  · cases soft
    · exact (rows_one y hy).1
    · exact (rows_one y hy).2
  · simp only [wideOf, Bool.and_eq_true, decide_eq_true_eq] at hw
    have := wide_one (x - 65281).toNat (by rw [List.mem_range]; omega)
    rw [show (65281 : Int) + ((x - 65281).toNat : Int) = x by omega] at this
    cases soft
    · exact this.1
    · exact this.2
theorem syl_iff (r : Int) : syl r = true ↔ 44032 ≤ r ∧ r ≤ 55203 := by unfold syl; simp
/-- How a character is split, one step. -/
theorem pieces_eq (soft : Bool) (r : Int) : pieces soft r = if syl r then sylParts r else match splitOf r with
    | none => [r]
    | some x => if x.soft && !soft then [r] else pieces soft x.one ++ (if x.two = 0 then [] else pieces soft x.two) := by
  show one 4 soft r = _
  rw [one]
  cases hs : syl r with
  | true => rfl
  | false =>
    simp only [Bool.false_eq_true, if_false]
    cases h : splitOf r with
    | none => rfl
    | some x =>
      have := split_one soft h
      simp only [rowOk, Bool.and_eq_true, decide_eq_true_eq] at this
      simp only [this.1.1.1.1.1, this.1.1.1.1.2]
      rfl
/-- The parts of syllables. -/
def jamo (c : Int) : Bool := (decide (4352 ≤ c) && decide (c ≤ 4370)) || (decide (4449 ≤ c) && decide (c ≤ 4469)) || (decide (4520 ≤ c) && decide (c ≤ 4546))
theorem jamo_iff (c : Int) : jamo c = true ↔ (4352 ≤ c ∧ c ≤ 4370) ∨ (4449 ≤ c ∧ c ≤ 4469) ∨ (4520 ≤ c ∧ c ≤ 4546) := by
  unfold jamo; simp [or_assoc]
def jamoOk (c : Int) : Bool := whole false c && whole true c && decide (clsOf c = 0)
theorem rows_jamo : ∀ i ∈ List.range 195, jamo (4352 + i) = true → jamoOk (4352 + i) = true := by decide +kernel
theorem jamo_ok {c : Int} (h : jamo c = true) : whole false c = true ∧ whole true c = true ∧ clsOf c = 0 := by
  have h' := (jamo_iff c).1 h
  have := rows_jamo (c - 4352).toNat (by rw [List.mem_range]; omega)
  rw [show (4352 : Int) + ((c - 4352).toNat : Int) = c by omega] at this
  have := this h
  simp only [jamoOk, Bool.and_eq_true, decide_eq_true_eq] at this
  exact ⟨this.1.1, this.1.2, this.2⟩
theorem jamo_whole {c : Int} (h : jamo c = true) (soft : Bool) : whole soft c = true := by
  cases soft
  · exact (jamo_ok h).1
  · exact (jamo_ok h).2.1
theorem syl_jamo {r : Int} (h : syl r = true) : ∀ c ∈ sylParts r, jamo c = true := by
  have h' := (syl_iff r).1 h
  intro c hc
  unfold sylParts at hc
  rw [jamo_iff]
  split at hc
  · simp only [List.append_nil, List.mem_cons, List.not_mem_nil, or_false] at hc
    omega
  · simp only [List.cons_append, List.nil_append, List.mem_cons, List.not_mem_nil, or_false] at hc
    omega
/-- What it is split into is split no more. -/
theorem pieces_whole (soft : Bool) (r : Int) : ∀ c ∈ pieces soft r, whole soft c = true := by
  cases hs : syl r with
  | true =>
    rw [pieces_eq, hs]
    exact fun c hc => jamo_whole (syl_jamo hs c hc) soft
  | false =>
    cases h : splitOf r with
    | none =>
      have e : pieces soft r = [r] := by rw [pieces_eq, hs, h]; rfl
      intro c hc
      rw [e, List.mem_singleton] at hc
      rw [hc]
      exact whole_iff.2 e
    | some x =>
      have := split_one soft h
      simp only [rowOk, Bool.and_eq_true] at this
      exact List.all_eq_true.1 this.1.1.1.2
theorem pieces_soft_whole (r : Int) : ∀ c ∈ pieces true r, whole false c = true := by
  cases hs : syl r with
  | true =>
    rw [pieces_eq, hs]
    exact fun c hc => jamo_whole (syl_jamo hs c hc) false
  | false =>
    cases h : splitOf r with
    | none =>
      have e : ∀ b, pieces b r = [r] := fun b => by rw [pieces_eq, hs, h]; rfl
      intro c hc
      rw [e, List.mem_singleton] at hc
      rw [hc]
      exact whole_iff.2 (e false)
    | some x =>
      have := split_one true h
      simp only [rowOk, Bool.and_eq_true] at this
      exact List.all_eq_true.1 this.1.1.2
theorem flatMap_whole (soft : Bool) {l : List Int} (h : ∀ c ∈ l, whole soft c = true) : l.flatMap (pieces soft) = l := by
  induction l with
  | nil => rfl
  | cons a l ih =>
    rw [List.flatMap_cons, whole_iff.1 (h a (by simp)), ih fun c hc => h c (by simp [hc])]
    rfl
theorem pieces_twice (r : Int) : (pieces false r).flatMap (pieces true) = pieces true r := by
  cases hs : syl r with
  | true =>
    have e : ∀ b, pieces b r = sylParts r := fun b => by rw [pieces_eq, hs]; rfl
    rw [e, e]
    exact flatMap_whole true fun c hc => jamo_whole (syl_jamo hs c hc) true
  | false =>
    cases h : splitOf r with
    | none =>
      have e : ∀ b, pieces b r = [r] := fun b => by rw [pieces_eq, hs, h]; rfl
      rw [e false]
      simp
    | some x =>
      have := split_one true h
      simp only [rowOk, Bool.and_eq_true, decide_eq_true_eq] at this
      exact this.1.2
theorem rows_le : ∀ y ∈ classes, y.hi ≤ 12441 := by decide +kernel
theorem syl_cls {r : Int} (h : syl r = true) : clsOf r = 0 := by
  have h' := (syl_iff r).1 h
  unfold clsOf
  cases hc : classOf r with
  | none => rfl
  | some y =>
    obtain ⟨h1, h2, h3⟩ := seek_some hc
    have := rows_le y h1
    omega
/-- A mark is split into itself. -/
theorem mark_whole (soft : Bool) {c : Int} (h : 0 < clsOf c) : whole soft c = true := by
  rw [whole_iff, pieces_eq]
  cases hs : syl c with
  | true => rw [syl_cls hs] at h; omega
  | false =>
    cases hp : splitOf c with
    | none => rfl
    | some x =>
      have := split_parts hp
      simp only [partsOk, decide_eq_true_eq] at this
      omega
/-- What two make. -/
def make2 (a b : Int) : Option Int :=
  if 4352 ≤ a ∧ a ≤ 4370 ∧ 4449 ≤ b ∧ b ≤ 4469 then some (44032 + (a - 4352) * 588 + (b - 4449) * 28)
  else if syl a = true ∧ (a - 44032) % 28 = 0 ∧ 4520 ≤ b ∧ b ≤ 4546 then some (a + b - 4519)
  else pairOf a b
/-- What was made is split into what it was made of. -/
theorem make2_one (soft : Bool) {a b x : Int} (h : make2 a b = some x) : pieces soft x = pieces soft a ++ pieces soft b := by
  unfold make2 at h
  by_cases h1 : 4352 ≤ a ∧ a ≤ 4370 ∧ 4449 ≤ b ∧ b ≤ 4469
  · rw [if_pos h1] at h
    have hx := (Option.some.inj h).symm
    have ha : jamo a = true := (jamo_iff a).2 (by omega)
    have hb : jamo b = true := (jamo_iff b).2 (by omega)
    rw [whole_iff.1 (jamo_whole ha soft), whole_iff.1 (jamo_whole hb soft), pieces_eq, if_pos ((syl_iff x).2 (by omega))]
    unfold sylParts
    rw [if_pos (by omega), show 4352 + (x - 44032) / 588 = a by omega, show 4449 + (x - 44032) % 588 / 28 = b by omega]
    rfl
  · rw [if_neg h1] at h
    by_cases h2 : syl a = true ∧ (a - 44032) % 28 = 0 ∧ 4520 ≤ b ∧ b ≤ 4546
    · rw [if_pos h2] at h
      have hx := (Option.some.inj h).symm
      have ha := (syl_iff a).1 h2.1
      have hb : jamo b = true := (jamo_iff b).2 (by omega)
      rw [whole_iff.1 (jamo_whole hb soft), pieces_eq, if_pos ((syl_iff x).2 (by omega)), pieces_eq, if_pos h2.1]
      unfold sylParts
      rw [if_pos h2.2.1, if_neg (by omega), show 4352 + (x - 44032) / 588 = 4352 + (a - 44032) / 588 by omega, show 4449 + (x - 44032) % 588 / 28 = 4449 + (a - 44032) % 588 / 28 by omega, show 4519 + (x - 44032) % 28 = b by omega]
      rfl
    · rw [if_neg h2] at h
      obtain ⟨y, hy, rfl, rfl, ho⟩ := pair_split h
      obtain ⟨-, h3, h4⟩ := split_pair hy ho
      have h5 := split_one soft hy
      simp only [rowOk, Bool.and_eq_true, Bool.not_eq_true'] at h5
      rw [pieces_eq soft x, h5.2, hy]
      simp only [h4, Bool.false_and, Bool.false_eq_true, if_false, if_neg h3]
/-- Marks of unlike classes that stand together may be turned. -/
inductive Sim : List Int → List Int → Prop
  | refl (l : List Int) : Sim l l
  | swap (p : List Int) (a b : Int) (q : List Int) : 0 < clsOf a → 0 < clsOf b → clsOf a ≠ clsOf b → Sim (p ++ a :: b :: q) (p ++ b :: a :: q)
  | trans {x y z : List Int} : Sim x y → Sim y z → Sim x z
theorem Sim.symm {x y : List Int} (h : Sim x y) : Sim y x := by
  induction h with
  | refl l => exact .refl l
  | swap p a b q h1 h2 h3 => exact .swap p b a q h2 h1 fun e => h3 e.symm
  | trans _ _ ih1 ih2 => exact .trans ih2 ih1
theorem Sim.ahead {x y : List Int} (h : Sim x y) (p : List Int) : Sim (p ++ x) (p ++ y) := by
  induction h with
  | refl l => exact .refl _
  | swap p' a b q h1 h2 h3 =>
    rw [← List.append_assoc, ← List.append_assoc]
    exact .swap _ a b q h1 h2 h3
  | trans _ _ ih1 ih2 => exact .trans ih1 ih2
theorem Sim.behind {x y : List Int} (h : Sim x y) (q : List Int) : Sim (x ++ q) (y ++ q) := by
  induction h with
  | refl l => exact .refl _
  | swap p a b q' h1 h2 h3 =>
    simp only [List.append_assoc, List.cons_append]
    exact .swap p a b _ h1 h2 h3
  | trans _ _ ih1 ih2 => exact .trans ih1 ih2
/-- x, put ahead of a row in its order. -/
def ins (x : Int) : List Int → List Int
  | [] => [x]
  | y :: l => if 0 < clsOf y ∧ clsOf y < clsOf x then y :: ins x l else x :: y :: l
def order : List Int → List Int
  | [] => []
  | x :: l => ins x (order l)
theorem ins_less {a b : Int} (ha : 0 < clsOf a) (hab : clsOf a < clsOf b) : ∀ L : List Int, ins a (ins b L) = ins b (ins a L)
  | [] => by simp only [ins]; rw [if_neg (by omega), if_pos ⟨ha, hab⟩]
  | y :: l => by
    by_cases h1 : 0 < clsOf y ∧ clsOf y < clsOf b
    · by_cases h2 : clsOf y < clsOf a
      · simp only [ins, if_pos h1, if_pos (show 0 < clsOf y ∧ clsOf y < clsOf a from ⟨h1.1, h2⟩)]
        rw [ins_less ha hab l]
      · simp only [ins, if_pos h1, if_neg (show ¬ (0 < clsOf y ∧ clsOf y < clsOf a) from fun h => h2 h.2), if_pos (show 0 < clsOf a ∧ clsOf a < clsOf b from ⟨ha, hab⟩)]
    · simp only [ins, if_neg h1, if_neg (show ¬ (0 < clsOf y ∧ clsOf y < clsOf a) from fun h => h1 ⟨h.1, by omega⟩), if_pos (show 0 < clsOf a ∧ clsOf a < clsOf b from ⟨ha, hab⟩), if_neg (show ¬ (0 < clsOf b ∧ clsOf b < clsOf a) from fun h => by omega)]
theorem ins_comm {a b : Int} (ha : 0 < clsOf a) (hb : 0 < clsOf b) (h : clsOf a ≠ clsOf b) (L : List Int) : ins a (ins b L) = ins b (ins a L) := by
  rcases (show clsOf a < clsOf b ∨ clsOf b < clsOf a by omega) with h1 | h1
  · exact ins_less ha h1 L
  · exact (ins_less hb h1 L).symm
theorem order_append (p q : List Int) : order (p ++ q) = p.foldr ins (order q) := by
  induction p with
  | nil => rfl
  | cons x p ih => simp only [List.cons_append, order, List.foldr_cons, ih]
/-- What may be turned into one another has one order. -/
theorem order_sim {x y : List Int} (h : Sim x y) : order x = order y := by
  induction h with
  | refl l => rfl
  | swap p a b q h1 h2 h3 => rw [order_append, order_append]; simp only [order]; rw [ins_comm h1 h2 h3]
  | trans _ _ ih1 ih2 => exact ih1.trans ih2
theorem ins_sim (x : Int) : ∀ L : List Int, Sim (x :: L) (ins x L)
  | [] => .refl _
  | y :: l => by
    unfold ins
    split
    · rename_i h
      exact .trans (Sim.swap [] x y l (by omega) h.1 (by omega)) ((ins_sim x l).ahead [y])
    · exact .refl _
theorem sim_order : ∀ l : List Int, Sim l (order l)
  | [] => .refl _
  | x :: l => .trans ((sim_order l).ahead [x]) (ins_sim x _)
theorem order_order (l : List Int) : order (order l) = order l := (order_sim (sim_order l)).symm
/-- No mark stands behind one of greater class. -/
def sorted : List Int → Bool
  | [] => true
  | x :: l => (match l with | [] => true | y :: _ => !(decide (0 < clsOf y) && decide (clsOf y < clsOf x))) && sorted l
theorem order_sorted : ∀ {l : List Int}, sorted l = true → order l = l
  | [], _ => rfl
  | [x], _ => rfl
  | x :: y :: l, h => by
    simp only [sorted, Bool.and_eq_true, Bool.not_eq_true', Bool.and_eq_false_iff, decide_eq_false_iff_not] at h
    have ih : order (y :: l) = y :: l := order_sorted (by simp only [sorted, Bool.and_eq_true]; exact h.2)
    show ins x (order (y :: l)) = _
    rw [ih]
    unfold ins
    rw [if_neg (fun hh => by rcases h.1 with h1 | h1 <;> omega)]
theorem order_is {l m : List Int} (h : Sim l m) (hs : sorted m = true) : m = order l := (order_sorted hs).symm.trans (order_sim h).symm
/-- All are split. -/
def split (soft : Bool) (l : List Int) : List Int := l.flatMap (pieces soft)
theorem split_append (soft : Bool) (p q : List Int) : split soft (p ++ q) = split soft p ++ split soft q := List.flatMap_append
theorem split_whole (soft : Bool) {l : List Int} (h : ∀ c ∈ l, whole soft c = true) : split soft l = l := flatMap_whole soft h
theorem split_sim (soft : Bool) {x y : List Int} (h : Sim x y) : Sim (split soft x) (split soft y) := by
  induction h with
  | refl l => exact .refl _
  | swap p a b q h1 h2 h3 =>
    simp only [split, List.flatMap_append, List.flatMap_cons, whole_iff.1 (mark_whole soft h1), whole_iff.1 (mark_whole soft h2), List.cons_append, List.nil_append]
    exact .swap _ a b _ h1 h2 h3
  | trans _ _ ih1 ih2 => exact .trans ih1 ih2
theorem split_twice (l : List Int) : split true (split false l) = split true l := by
  unfold split
  rw [List.flatMap_assoc]
  congr 1
  funext r
  exact pieces_twice r
/-- One more, held against what is made by then (the last one first). -/
def step (R : List Int) (c : Int) : List Int :=
  match R.dropWhile (fun y => decide (0 < clsOf y)) with
  | [] => c :: R
  | s :: A => if (R.takeWhile (fun y => decide (0 < clsOf y))).all (fun y => decide (clsOf y < clsOf c)) then
      (match make2 s c with | some x => R.takeWhile (fun y => decide (0 < clsOf y)) ++ x :: A | none => c :: R)
    else c :: R
def joinR (l : List Int) : List Int := l.foldl step []
def join (l : List Int) : List Int := (joinR l).reverse
theorem while_mem {p : Int → Bool} : ∀ {l : List Int} {y : Int}, y ∈ l.takeWhile p → p y = true
  | [], _, h => by cases h
  | x :: l, y, h => by
    rw [List.takeWhile_cons] at h
    split at h
    · rcases List.mem_cons.1 h with rfl | h
      · assumption
      · exact while_mem h
    · cases h
theorem sim_past {c : Int} : ∀ {M : List Int}, (∀ y ∈ M, 0 < clsOf y ∧ clsOf y < clsOf c) → Sim (c :: M) (M ++ [c])
  | [], _ => .refl _
  | y :: M, h => by
    have hy := h y (by simp)
    exact .trans (Sim.swap [] c y M (by omega) hy.1 (by omega)) ((sim_past fun z hz => h z (by simp [hz])).ahead [y])
theorem step_sim (soft : Bool) (R p : List Int) (c : Int) (hc : whole soft c = true) (h : Sim (split soft R.reverse) p) : Sim (split soft (step R c).reverse) (p ++ [c]) := by
  have plain : Sim (split soft (c :: R).reverse) (p ++ [c]) := by
    rw [List.reverse_cons, split_append]
    have e : split soft [c] = [c] := split_whole soft (by simpa using hc)
    rw [e]
    exact h.behind [c]
  unfold step
  split
  · exact plain
  · rename_i s A hA
    split
    · rename_i hfree
      split
      · rename_i x hx
        have hR : R = R.takeWhile (fun y => decide (0 < clsOf y)) ++ s :: A := by rw [← hA]; exact (List.takeWhile_append_dropWhile).symm
        have hM : ∀ y ∈ (R.takeWhile (fun y => decide (0 < clsOf y))).reverse, 0 < clsOf y ∧ clsOf y < clsOf c := by
          intro y hy
          rw [List.mem_reverse] at hy
          exact ⟨of_decide_eq_true (while_mem hy), of_decide_eq_true (List.all_eq_true.1 hfree y hy)⟩
        generalize R.takeWhile (fun y => decide (0 < clsOf y)) = M at hR hM
        subst hR
        refine .trans ?_ (h.behind [c])
        simp only [List.reverse_append, List.reverse_cons, List.append_assoc, List.singleton_append, split_append]
        have eM : split soft M.reverse = M.reverse := split_whole soft fun y hy => mark_whole soft (hM y hy).1
        have ex : split soft (x :: M.reverse) = pieces soft s ++ (c :: M.reverse) := by
          show pieces soft x ++ split soft M.reverse = _
          rw [make2_one soft hx, whole_iff.1 hc, eM, List.append_assoc]
          rfl
        have es : split soft (s :: M.reverse) = pieces soft s ++ M.reverse := by
          show pieces soft s ++ split soft M.reverse = _
          rw [eM]
        rw [ex, es, List.append_assoc]
        exact ((sim_past hM).ahead _).ahead _
      · exact plain
    · exact plain
theorem joinR_sim (soft : Bool) : ∀ (l R p : List Int), (∀ c ∈ l, whole soft c = true) → Sim (split soft R.reverse) p → Sim (split soft (l.foldl step R).reverse) (p ++ l)
  | [], R, p, _, h => by simpa using h
  | c :: l, R, p, hl, h => by
    have := joinR_sim soft l (step R c) (p ++ [c]) (fun y hy => hl y (by simp [hy])) (step_sim soft R p c (hl c (by simp)) h)
    simpa using this
/-- What was joined is split into what it was, but for the order of marks. -/
theorem join_sim (soft : Bool) {l : List Int} (h : ∀ c ∈ l, whole soft c = true) : Sim (split soft (join l)) l := by
  have := joinR_sim soft l [] [] h (.refl _)
  exact this
/-- Split, and in order. -/
def down (soft : Bool) (l : List Int) : List Int := order (split soft l)
theorem sim_mem {x y : List Int} (h : Sim x y) : ∀ c, c ∈ x ↔ c ∈ y := by
  induction h with
  | refl l => intro c; exact Iff.rfl
  | swap p a b q _ _ _ => intro c; simp only [List.mem_append, List.mem_cons]; constructor <;> (rintro (h | h | h | h) <;> simp [h])
  | trans _ _ ih1 ih2 => exact fun c => (ih1 c).trans (ih2 c)
theorem down_mem (soft : Bool) (l : List Int) : ∀ c ∈ down soft l, ∃ r ∈ l, c ∈ pieces soft r := by
  intro c hc
  have := (sim_mem (sim_order (split soft l)) c).2 hc
  exact List.mem_flatMap.1 this
theorem down_whole (soft : Bool) (l : List Int) : ∀ c ∈ down soft l, whole soft c = true := fun c hc => by
  obtain ⟨r, -, h⟩ := down_mem soft l c hc
  exact pieces_whole soft r c h
theorem down_soft_whole (l : List Int) : ∀ c ∈ down true l, whole false c = true := fun c hc => by
  obtain ⟨r, -, h⟩ := down_mem true l c hc
  exact pieces_soft_whole r c h
theorem down_sim (soft : Bool) {x y : List Int} (h : Sim x y) : down soft x = down soft y := order_sim (split_sim soft h)
theorem down_order (soft : Bool) (l : List Int) : order (down soft l) = down soft l := order_order _
/-- P3.6: each form, done again, changes nothing; and the forms of forms. -/
theorem down_down (soft : Bool) (l : List Int) : down soft (down soft l) = down soft l := by
  show order (split soft (down soft l)) = _
  rw [split_whole soft (down_whole soft l), down_order]
theorem down_join (soft : Bool) (l : List Int) : down soft (join (down soft l)) = down soft l := by
  show order (split soft (join (down soft l))) = _
  rw [order_sim (join_sim soft (down_whole soft l)), down_order]
theorem down_join_soft (l : List Int) : down false (join (down true l)) = down true l := by
  show order (split false (join (down true l))) = _
  rw [order_sim (join_sim false (down_soft_whole l)), down_order]
theorem soft_down (l : List Int) : down true (down false l) = down true l := by
  show order (split true (order (split false l))) = _
  rw [← order_sim (split_sim true (sim_order (split false l))), split_twice]
  rfl
theorem soft_join (l : List Int) : down true (join (down false l)) = down true l := by
  rw [← soft_down (join (down false l)), down_join, soft_down]
end Norm
end Go.Proofs.Ytpmcmbkilcpleaa
