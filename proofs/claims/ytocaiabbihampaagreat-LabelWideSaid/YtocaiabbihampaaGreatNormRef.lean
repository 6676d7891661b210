/-
  Proved here: the document's own 'syllable', 'one' and 'Split' of layer 3: what a character is split into, and all of a slice. Conditions: the slice can be read, and holds at most 1,000 numbers.
  Proved here: the document's own 'Order' of layer 3: neighbours are turned till all marks stand in their order. Conditions: the slice can be read, and holds at most 10,000 numbers.
  Proved here: the document's own 'make2' and 'Join' of layer 3: what two make, and what is joined. Conditions: the slice can be read, and holds at most 10,000 numbers.
  Proved here: the document's own 'Form' of layer 3: a string's normal forms, by characters; all that a form has are characters. Conditions: the string has at most 100,000 bytes, and 200 characters.
-/
import Derived.Test.YtocaiabbihampaaGreatUcdAll
import Derived.Test.YtocaiabbihampaaGreatUtfA
import Derived.Test.YtocaiabbihampaaGreatUtfRow
import Derived.Test.YtocaiabbihampaaGreatPlainA
import Derived.Deep.RegionWith
import Derived.Test.YtocaiabbihampaaGreatUtfB
namespace Go.Proofs.YtocaiabbihampaaGreat
open Go.RowKit Utf
def PiecesPost (l : List Int) (w : World) (e : Ending) (w' : World) : Prop := ∃ v, e = .returned v ∧ OwnR w.heap.size v l w' ∧ Below w.heap.size w w'
/-- A character that is split no further: it stays. -/
theorem pieces_stay {soft : Bool} {r : Int} (h : Norm.syl r = false) (hs : ∀ y, splitOf r = some y → y.soft = true ∧ soft = false) : Norm.pieces soft r = [r] := by
  rw [Norm.pieces_eq, h]
  cases e : splitOf r with
  | none => rfl
  | some y =>
    obtain ⟨h1, h2⟩ := hs y e
    simp only [h1, h2]
    rfl
theorem pieces_go {soft : Bool} {r : Int} {y : Sp} (h : Norm.syl r = false) (hs : splitOf r = some y) (hn : (y.soft && !soft) = false) : Norm.pieces soft r = Norm.pieces soft y.one ++ (if y.two = 0 then [] else Norm.pieces soft y.two) := by
  rw [Norm.pieces_eq, h, hs]
  simp only [hn]
  rfl
theorem split_row (w : World) (v0 v1 v2 : Int) (v3 v4 : Bool) {w1 : World} (hb : Below (w.alloc (.cells #[.int .i32 v0, .int .i32 v1, .int .i32 v2, .bool v3, .bool v4] 71)).heap.size (w.alloc (.cells #[.int .i32 v0, .int .i32 v1, .int .i32 v2, .bool v3, .bool v4] 71)) w1) :
    w1.cell? ⟨w.heap.size, 2, none⟩ = some (.int .i32 v2) := (hb.cell (p := ⟨w.heap.size, 2, none⟩) (show w.heap.size < _ by simp)).trans (by simp)
theorem pieces_le : ∀ (n : Nat) (soft : Bool) (r : Int), (Norm.one n soft r).length ≤ 3 * 2 ^ n
  | 0, _, _ => by simp [Norm.one]
  | n + 1, soft, r => by
    unfold Norm.one
    have h1 : 1 ≤ 2 ^ n := Nat.one_le_two_pow
    have h2 : 2 ^ (n + 1) = 2 ^ n * 2 := Nat.pow_succ ..
    split
    · unfold Norm.sylParts
      split <;> simp <;> omega
    · split
      · simp; omega
      · rename_i x _
        split
        · simp; omega
        · have h3 := pieces_le n soft x.one
          have h4 := pieces_le n soft x.two
          rw [List.length_append]
          split
          · simp; omega
          · omega
theorem pieces_len (soft : Bool) (r : Int) : (Norm.pieces soft r).length ≤ 48 := pieces_le 4 soft r
def flat (x : Int) : Bool := (splitOf x).isNone
def flat1 (x : Int) : Bool := match splitOf x with | none => true | some y => flat y.one && flat y.two
theorem rows_flat : ∀ y ∈ splits, (flat1 y.one && flat1 y.two) = true := by decide +kernel
theorem wide_flat : ∀ i ∈ List.range 94, (flat1 (65281 + i - 65248) && flat1 0) = true := by decide +kernel
theorem split_flat {x : Int} {y : Sp} (h : splitOf x = some y) : flat1 y.one = true ∧ flat1 y.two = true := by
  rw [← Bool.and_eq_true]
  rcases split_cases h with ⟨hy, rfl⟩ | ⟨hw, rfl⟩
  · exact rows_flat y hy
  · simp only [wideOf, Bool.and_eq_true, decide_eq_true_eq] at hw
    have := wide_flat (x - 65281).toNat (by rw [List.mem_range]; omega)
    rwa [show (65281 : Int) + ((x - 65281).toNat : Int) = x by omega] at this
theorem split_snoc (soft : Bool) (l : List Int) (r : Int) : Norm.split soft (l ++ [r]) = Norm.split soft l ++ Norm.pieces soft r := by simp [Norm.split]
theorem rows_max : ∀ y ∈ splits, (Norm.pieces true y.rune).length ≤ 20 ∧ (Norm.pieces false y.rune).length ≤ 20 := by decide +kernel
theorem wide_max : ∀ i ∈ List.range 94, (Norm.pieces true (65281 + i)).length ≤ 20 ∧ (Norm.pieces false (65281 + i)).length ≤ 20 := by decide +kernel
theorem pieces_max (soft : Bool) (x : Int) : (Norm.pieces soft x).length ≤ 20 := by
  cases ho : splitOf x with
  | some y =>
    rcases split_cases ho with ⟨h1, rfl⟩ | ⟨h1, -⟩
    · cases soft
      · exact (rows_max y h1).2
      · exact (rows_max y h1).1
    · unfold wideOf at h1
      rw [Bool.and_eq_true, decide_eq_true_eq, decide_eq_true_eq] at h1
      have h := wide_max (x - 65281).toNat (List.mem_range.2 (by omega))
      rw [show (65281 : Int) + ((x - 65281).toNat : Nat) = x by omega] at h
      cases soft
      · exact h.2
      · exact h.1
  | none =>
    rw [Norm.pieces_eq, ho]
    split
    · unfold Norm.sylParts
      split <;> simp
    · simp
theorem split_len (soft : Bool) (l : List Int) : (Norm.split soft l).length ≤ 20 * l.length := by
  induction l with
  | nil => simp [Norm.split]
  | cons r l ih =>
    have := pieces_max soft r
    simp only [Norm.split, List.flatMap_cons, List.length_append, List.length_cons] at ih ⊢
    omega
end Go.Proofs.YtocaiabbihampaaGreat
namespace Go.Proofs.YtocaiabbihampaaGreat
open Go.RowKit Utf
namespace Norm
theorem passes_next : ∀ (n : Nat) (l : List Int), passes (n + 1) l = pass (passes n l)
  | 0, _ => rfl
  | n + 1, l => by
    show passes (n + 1) (pass l) = _
    rw [passes_next n (pass l)]
    rfl
theorem bub_turn {x y : Int} {t : List Int} (h : 0 < clsOf y ∧ clsOf y < clsOf x) : bub x (y :: t) = y :: bub x t := by
  rw [bub, if_pos h]
theorem bub_go {x y : Int} {t : List Int} (h : ¬ (0 < clsOf y ∧ clsOf y < clsOf x)) : bub x (y :: t) = x :: bub y t := by
  rw [bub, if_neg h]
theorem at_done (d : List Int) (x : Int) (t : List Int) : (d ++ x :: t)[d.length]! = x := by simp
theorem at_next (d : List Int) (x y : Int) (t : List Int) : (d ++ x :: y :: t)[d.length + 1]! = y := by
  have : (d ++ x :: y :: t) = (d ++ [x]) ++ y :: t := by simp
  rw [this, show d.length + 1 = (d ++ [x]).length by simp]
  exact at_done _ _ _
theorem set_two (d : List Int) (x y : Int) (t : List Int) : ((d ++ x :: y :: t).set d.length y).set (d.length + 1) x = d ++ y :: x :: t := by
  rw [List.set_append_right _ _ (Nat.le_refl _), List.set_append_right _ _ (by omega), Nat.sub_self, show d.length + 1 - d.length = 1 by omega]
  rfl
end Norm
/-- The state of one pass: what is done, what is carried, what is left. -/
def Going (L d : List Int) (x : Int) (t : List Int) : Prop := Norm.pass L = d ++ Norm.bub x t ∧ L.length = d.length + 1 + t.length
end Go.Proofs.YtocaiabbihampaaGreat
namespace Go.Proofs.YtocaiabbihampaaGreat
open Go.RowKit Utf
theorem mk_lv {a b : Int} (h : 4352 ≤ a ∧ a ≤ 4370 ∧ 4449 ≤ b ∧ b ≤ 4469) : Norm.make2 a b = some (44032 + (a - 4352) * 588 + (b - 4449) * 28) := by
  unfold Norm.make2; rw [if_pos h]
theorem mk_lvt {a b : Int} (h : 44032 ≤ a ∧ a ≤ 55203 ∧ (a - 44032) % 28 = 0 ∧ 4520 ≤ b ∧ b ≤ 4546) : Norm.make2 a b = some (a + b - 4519) := by
  unfold Norm.make2; rw [if_neg (by omega), if_pos ⟨(Norm.syl_iff a).2 ⟨h.1, h.2.1⟩, h.2.2⟩]
theorem mk_pair {a b : Int} (h1 : ¬ (4352 ≤ a ∧ a ≤ 4370 ∧ 4449 ≤ b ∧ b ≤ 4469)) (h2 : ¬ (44032 ≤ a ∧ a ≤ 55203 ∧ (a - 44032) % 28 = 0 ∧ 4520 ≤ b ∧ b ≤ 4546)) : Norm.make2 a b = pairOf a b := by
  unfold Norm.make2; rw [if_neg h1, if_neg fun h => h2 ⟨((Norm.syl_iff a).1 h.1).1, ((Norm.syl_iff a).1 h.1).2, h.2⟩]
namespace Norm
theorem while_all {p : Int → Bool} : ∀ {M : List Int} (B : List Int), (∀ y ∈ M, p y = true) → (∀ s t, B = s :: t → p s = false) → (M ++ B).takeWhile p = M ∧ (M ++ B).dropWhile p = B
  | [], B, _, hB => by
    cases B with
    | nil => exact ⟨rfl, rfl⟩
    | cons s t =>
      have := hB s t rfl
      simp [this]
  | y :: M, B, hM, hB => by
    obtain ⟨h1, h2⟩ := while_all B (M := M) (fun z hz => hM z (by simp [hz])) hB
    have hy := hM y (by simp)
    simp only [List.cons_append, List.takeWhile_cons, List.dropWhile_cons, hy, if_true, h1, h2]
    exact ⟨trivial, trivial⟩
/-- What is joined so far, with one more. -/
def next (o : List Int) (x : Int) : List Int := (step o.reverse x).reverse
theorem join_take (l : List Int) (k : Nat) (h : k < l.length) : join (l.take (k + 1)) = next (join (l.take k)) l[k]! := by
  unfold join joinR next
  rw [List.take_succ_eq_append_getElem h, List.foldl_append, getElem!_pos l k h, List.reverse_reverse]
  rfl
theorem next_none {M : List Int} (x : Int) (hM : ∀ y ∈ M, 0 < clsOf y) : next M x = M ++ [x] := by
  obtain ⟨h1, h2⟩ := while_all (p := fun y => decide (0 < clsOf y)) (M := M.reverse) [] (fun y hy => by simpa using hM y (by simpa using hy)) (fun s t h => by cases h)
  rw [List.append_nil] at h1 h2
  unfold next step
  rw [h2]
  simp
theorem next_at {Q M : List Int} (s x : Int) (hM : ∀ y ∈ M, 0 < clsOf y) (hs : ¬ 0 < clsOf s) :
    next (Q ++ s :: M) x = if M.all (fun y => decide (clsOf y < clsOf x)) = true then (match make2 s x with | some z => Q ++ z :: M | none => Q ++ s :: M ++ [x]) else Q ++ s :: M ++ [x] := by
  have e : (Q ++ s :: M).reverse = M.reverse ++ s :: Q.reverse := by simp
  obtain ⟨h1, h2⟩ := while_all (p := fun y => decide (0 < clsOf y)) (M := M.reverse) (s :: Q.reverse) (fun y hy => by simpa using hM y (by simpa using hy)) (fun s' t h => by cases h; simpa using hs)
  unfold next step
  rw [e, h1, h2, List.all_reverse]
  simp only
  split
  · cases make2 s x with
    | some z => simp
    | none => simp
  · simp
theorem at_end (Q : List Int) (s : Int) (M : List Int) : (Q ++ s :: M)[Q.length]! = s := by simp
theorem set_end (Q : List Int) (s z : Int) (M : List Int) : (Q ++ s :: M).set Q.length z = Q ++ z :: M := by
  rw [List.set_append_right _ _ (Nat.le_refl _), Nat.sub_self]
  rfl
theorem next_len (o : List Int) (x : Int) : (next o x).length ≤ o.length + 1 := by
  unfold next step
  split
  · simp
  · rename_i s A hA
    split
    · split
      · have := congrArg List.length (List.takeWhile_append_dropWhile (p := fun y => decide (0 < clsOf y)) (l := o.reverse))
        rw [hA] at this
        simp only [List.length_append, List.length_cons, List.length_reverse] at this ⊢
        omega
      · simp
    · simp
theorem join_len : ∀ (l : List Int) (k : Nat), k ≤ l.length → (join (l.take k)).length ≤ k
  | _, 0, _ => by simp [join, joinR]
  | l, k + 1, h => by
    rw [join_take l k (by omega)]
    have := join_len l k (by omega)
    have := next_len (join (l.take k)) l[k]!
    omega
end Norm
end Go.Proofs.YtocaiabbihampaaGreat
namespace Go.Proofs.YtocaiabbihampaaGreat
open Go.RowKit Utf
theorem rows_right : ∀ y ∈ splits, (rightZ y.rune && (Norm.pieces false y.rune).all rightZ && (Norm.pieces true y.rune).all rightZ) = true := by decide +kernel
theorem wide_right : ∀ i ∈ List.range 94, (rightZ (65281 + i) && (Norm.pieces false (65281 + i)).all rightZ && (Norm.pieces true (65281 + i)).all rightZ) = true := by decide +kernel
theorem split_right (soft : Bool) {x : Int} {y : Sp} (h : splitOf x = some y) : rightZ x = true ∧ ∀ c ∈ Norm.pieces soft x, rightZ c = true := by
  have key : (rightZ x && (Norm.pieces false x).all rightZ && (Norm.pieces true x).all rightZ) = true := by
    rcases split_cases h with ⟨hy, rfl⟩ | ⟨hw, rfl⟩
    · exact rows_right y hy
    · simp only [wideOf, Bool.and_eq_true, decide_eq_true_eq] at hw
      have := wide_right (x - 65281).toNat (by rw [List.mem_range]; omega)
      rwa [show (65281 : Int) + ((x - 65281).toNat : Int) = x by omega] at this
  simp only [Bool.and_eq_true] at key
  refine ⟨key.1.1, ?_⟩
  cases soft
  · exact List.all_eq_true.1 key.1.2
  · exact List.all_eq_true.1 key.2
theorem pieces_right (soft : Bool) {r : Int} (h : rightZ r = true) : ∀ c ∈ Norm.pieces soft r, rightZ c = true := by
  cases hs : Norm.syl r with
  | true =>
    rw [Norm.pieces_eq, hs]
    intro c hc
    have := (Norm.jamo_iff c).1 (Norm.syl_jamo hs c hc)
    exact (rightZ_iff c).2 (by omega)
  | false =>
    cases hp : splitOf r with
    | none =>
      intro c hc
      rw [Norm.pieces_eq, hs, hp] at hc
      simp only [Bool.false_eq_true, if_false, List.mem_singleton] at hc
      rw [hc]; exact h
    | some y => exact (split_right soft hp).2
theorem down_right (soft : Bool) {l : List Int} (h : rightsZ l = true) : rightsZ (Norm.down soft l) = true := by
  unfold rightsZ at h ⊢
  rw [List.all_eq_true] at h ⊢
  intro c hc
  obtain ⟨r, hr, hcr⟩ := Norm.down_mem soft l c hc
  exact pieces_right soft (h r hr) c hcr
theorem make2_right {a b x : Int} (h : Norm.make2 a b = some x) : rightZ x = true := by
  unfold Norm.make2 at h
  split at h
  · obtain rfl := Option.some.inj h
    exact (rightZ_iff _).2 (by omega)
  · split at h
    · rename_i h2
      obtain rfl := Option.some.inj h
      have := (Norm.syl_iff a).1 h2.1
      exact (rightZ_iff _).2 (by omega)
    · obtain ⟨y, hy, -⟩ := pair_split h
      exact (split_right false hy).1
theorem step_right {R : List Int} {c : Int} (hR : ∀ y ∈ R, rightZ y = true) (hc : rightZ c = true) : ∀ y ∈ Norm.step R c, rightZ y = true := by
  have plain : ∀ y ∈ c :: R, rightZ y = true := fun y hy => by
    rcases List.mem_cons.1 hy with rfl | hy
    · exact hc
    · exact hR y hy
  unfold Norm.step
  split
  · exact plain
  · rename_i s A hA
    split
    · split
      · rename_i x hx
        intro y hy
        rw [List.mem_append, List.mem_cons] at hy
        rcases hy with hy | rfl | hy
        · exact hR y ((List.takeWhile_sublist _).subset hy)
        · exact make2_right hx
        · exact hR y ((List.dropWhile_sublist (fun y => decide (0 < clsOf y))).subset (by rw [hA]; simp [hy]))
      · exact plain
    · exact plain
theorem join_right {l : List Int} (h : rightsZ l = true) : rightsZ (Norm.join l) = true := by
  have key : ∀ (l R : List Int), (∀ y ∈ l, rightZ y = true) → (∀ y ∈ R, rightZ y = true) → ∀ y ∈ l.foldl Norm.step R, rightZ y = true := by
    intro l
    induction l with
    | nil => exact fun R _ hR => hR
    | cons c l ih => exact fun R hl hR => ih (Norm.step R c) (fun y hy => hl y (by simp [hy])) (step_right hR (hl c (by simp)))
  unfold rightsZ at h ⊢
  rw [List.all_eq_true] at h ⊢
  intro c hc
  unfold Norm.join at hc
  rw [List.mem_reverse] at hc
  exact key l [] h (fun y hy => by cases hy) c hc
/-- The characters of a form. -/
def formOf (soft join : Bool) (l : List Int) : List Int := if join then Norm.join (Norm.down soft l) else Norm.down soft l
theorem form_right (soft join : Bool) {l : List Int} (h : rightsZ l = true) : rightsZ (formOf soft join l) = true := by
  unfold formOf
  split
  · exact join_right (down_right soft h)
  · exact down_right soft h
theorem sim_len {x y : List Int} (h : Norm.Sim x y) : x.length = y.length := by
  induction h with
  | refl l => rfl
  | swap p a b q _ _ _ => simp
  | trans _ _ ih1 ih2 => exact ih1.trans ih2
theorem down_len (soft : Bool) (l : List Int) : (Norm.down soft l).length ≤ 20 * l.length := by
  have := sim_len (Norm.sim_order (Norm.split soft l))
  have := split_len soft l
  show (Norm.order (Norm.split soft l)).length ≤ _
  omega
theorem join_len' (l : List Int) : (Norm.join l).length ≤ l.length := by
  have := Norm.join_len l l.length (Nat.le_refl _)
  rwa [List.take_length] at this
theorem strB_right {l : List Int} (h : rightsZ l = true) : strB l = encZ l := by unfold strB; rw [h, if_pos rfl]
end Go.Proofs.YtocaiabbihampaaGreat
