/-
  PLAIN: characters over which none joins: what is ASCII, but letters and digits, and the wide dot: what is folded is folded on both sides of them alone. Conditions: none.
-/
import Derived.Test.YtmbammhkkcnoaaaGreatLabFine
namespace Go.Proofs.YtmbammhkkcnoaaaGreat
open Go.RowKit Utf
namespace Wall
def isWall (x : Int) : Bool := (decide (0 ≤ x) && decide (x ≤ 47)) || (decide (58 ≤ x) && decide (x ≤ 64)) || (decide (91 ≤ x) && decide (x ≤ 96)) || (decide (123 ≤ x) && decide (x ≤ 127)) || x == 12290
theorem wall_in {d : Int} (h : isWall d = true) : d = 12290 ∨ ∃ n : Nat, n < 128 ∧ d = n := by
  unfold isWall at h
  simp only [Bool.or_eq_true, Bool.and_eq_true, decide_eq_true_eq, beq_iff_eq] at h
  by_cases e : d = 12290
  · exact .inl e
  · exact .inr ⟨d.toNat, by omega, by omega⟩
theorem wall_cases {d : Int} (h : isWall d = true) : (0 ≤ d ∧ d ≤ 127) ∨ d = 12290 := by
  rcases wall_in h with h | ⟨n, h1, rfl⟩
  · exact .inr h
  · exact .inl (by omega)
theorem rows_wall : ∀ y ∈ splits, (y.soft = false → y.out = false → isWall y.one = false ∧ isWall y.two = false) ∧ (Norm.pieces false y.rune).all (fun c => !isWall c) = true := by decide +kernel
def wallOk (x : Int) : Bool := !isWall x || (clsOf x == 0 && decide (Norm.pieces false x = [x]) && decide (Fold.fo x = x))
theorem rows_ok : (∀ n, n < 128 → wallOk ((n : Nat) : Int) = true) ∧ wallOk 12290 = true := by decide +kernel
theorem wall_all {d : Int} (h : isWall d = true) : clsOf d = 0 ∧ Norm.pieces false d = [d] ∧ Fold.fo d = d := by
  have : wallOk d = true := by
    rcases wall_in h with rfl | ⟨n, h1, rfl⟩
    · exact rows_ok.2
    · exact rows_ok.1 n h1
  unfold wallOk at this
  rw [h] at this
  simp only [Bool.not_true, Bool.false_or, Bool.and_eq_true, beq_iff_eq, decide_eq_true_eq] at this
  exact ⟨this.1.1, this.1.2, this.2⟩
theorem cls_wall {d : Int} (h : isWall d = true) : clsOf d = 0 := (wall_all h).1
theorem pieces_wall {d : Int} (h : isWall d = true) : Norm.pieces false d = [d] := (wall_all h).2.1
theorem fo_wall {d : Int} (h : isWall d = true) : Fold.fo d = d := (wall_all h).2.2
theorem pair_wall {a b : Int} (h : isWall a = true ∨ isWall b = true) : pairOf a b = none := by
  cases hp : pairOf a b with
  | none => rfl
  | some z =>
    obtain ⟨y, hy, h1, h2, ho⟩ := pair_split hp
    obtain ⟨-, -, h4⟩ := split_pair hy ho
    rcases split_cases hy with ⟨h3, -⟩ | ⟨-, rfl⟩
    · have := (rows_wall y h3).1 h4 ho
      rw [h1, h2] at this
      rcases h with h | h
      · rw [h] at this; exact absurd this.1 (by decide)
      · rw [h] at this; exact absurd this.2 (by decide)
    · cases ho
theorem make_wall {a b : Int} (h : isWall a = true ∨ isWall b = true) : Norm.make2 a b = none := by
  have ha : isWall a = true → (0 ≤ a ∧ a ≤ 127) ∨ a = 12290 := wall_cases
  have hb : isWall b = true → (0 ≤ b ∧ b ≤ 127) ∨ b = 12290 := wall_cases
  unfold Norm.make2
  rw [if_neg (by rcases h with h | h; have := ha h; omega; have := hb h; omega), if_neg (fun e => by
    have := (Norm.syl_iff a).1 e.1
    rcases h with h | h
    · have := ha h; omega
    · have := hb h; omega)]
  exact pair_wall h
theorem step_past {d : Int} (hd : isWall d = true) (S R : List Int) (c : Int) : Norm.step (S ++ d :: R) c = Norm.step S c ++ d :: R := by
  have h0 : ¬ 0 < clsOf d := by rw [cls_wall hd]; omega
  unfold Norm.step
  rw [List.dropWhile_append, List.takeWhile_append]
  cases hdw : S.dropWhile (fun y => decide (0 < clsOf y)) with
  | nil =>
    have ht : S.takeWhile (fun y => decide (0 < clsOf y)) = S := by
      have := List.takeWhile_append_dropWhile (p := fun y => decide (0 < clsOf y)) (l := S)
      rw [hdw, List.append_nil] at this
      exact this
    rw [ht, if_pos rfl]
    simp only [List.isEmpty_nil, if_true, List.dropWhile_cons, h0, decide_false, Bool.false_eq_true, if_false, make_wall (Or.inl hd)]
    split <;> rfl
  | cons s A =>
    have ht : ¬ (S.takeWhile (fun y => decide (0 < clsOf y))).length = S.length := by
      have := congrArg List.length (List.takeWhile_append_dropWhile (p := fun y => decide (0 < clsOf y)) (l := S))
      rw [hdw, List.length_append, List.length_cons] at this
      omega
    rw [if_neg ht]
    simp only [List.isEmpty_cons, Bool.false_eq_true, if_false, List.cons_append]
    split
    · split
      · rw [List.append_assoc]; rfl
      · rfl
    · rfl
theorem step_wall {d : Int} (hd : isWall d = true) (R : List Int) : Norm.step R d = d :: R := by
  unfold Norm.step
  split
  · rfl
  · split
    · rw [make_wall (Or.inr hd)]
    · rfl
theorem steps_past {d : Int} (hd : isWall d = true) : ∀ (q S R : List Int), q.foldl Norm.step (S ++ d :: R) = q.foldl Norm.step S ++ d :: R
  | [], _, _ => rfl
  | c :: q, S, R => by rw [List.foldl_cons, List.foldl_cons, step_past hd, steps_past hd q]
theorem join_wall {d : Int} (hd : isWall d = true) (p q : List Int) : Norm.join (p ++ d :: q) = Norm.join p ++ d :: Norm.join q := by
  unfold Norm.join Norm.joinR
  rw [List.foldl_append, List.foldl_cons, step_wall hd, show d :: p.foldl Norm.step [] = [] ++ d :: p.foldl Norm.step [] from rfl, steps_past hd, List.reverse_append]
  simp
theorem ins_wall {d : Int} (hd : isWall d = true) (x : Int) : ∀ L M : List Int, Norm.ins x (L ++ d :: M) = Norm.ins x L ++ d :: M
  | [], M => by
    show Norm.ins x (d :: M) = [x] ++ d :: M
    unfold Norm.ins
    rw [if_neg (by rw [cls_wall hd]; omega)]
    rfl
  | y :: L, M => by
    show Norm.ins x (y :: (L ++ d :: M)) = _
    unfold Norm.ins
    split
    · rw [ins_wall hd x L M]; rfl
    · rfl
theorem order_wall {d : Int} (hd : isWall d = true) : ∀ p q : List Int, Norm.order (p ++ d :: q) = Norm.order p ++ d :: Norm.order q
  | [], q => by
    show Norm.ins d (Norm.order q) = d :: Norm.order q
    cases Norm.order q with
    | nil => rfl
    | cons y l =>
      unfold Norm.ins
      rw [if_neg (by rw [cls_wall hd]; omega)]
  | x :: p, q => by
    show Norm.ins x (Norm.order (p ++ d :: q)) = Norm.ins x (Norm.order p) ++ _
    rw [order_wall hd p q, ins_wall hd]
theorem down_wall {d : Int} (hd : isWall d = true) (p q : List Int) : Norm.down false (p ++ d :: q) = Norm.down false p ++ d :: Norm.down false q := by
  unfold Norm.down
  rw [Norm.split_append, show d :: q = [d] ++ q from rfl, Norm.split_append, show Norm.split false [d] = [d] by unfold Norm.split; rw [List.flatMap_cons, pieces_wall hd]; rfl]
  exact order_wall hd _ _
theorem fold_at {d : Int} (hd : isWall d = true) (p q : List Int) : Fold.fold (p ++ d :: q) = Fold.fold p ++ d :: Fold.fold q := by
  unfold Fold.fold
  rw [List.map_append, List.map_cons, fo_wall hd, down_wall hd, join_wall hd]
/-- Such a one comes of itself alone. -/
theorem from_wall {d r : Int} (hd : isWall d = true) (h : d ∈ Norm.pieces false r) : r = d := by
  rw [Norm.pieces_eq] at h
  cases hs : Norm.syl r with
  | true =>
    rw [hs, if_pos rfl] at h
    have := (Norm.jamo_iff d).1 (Norm.syl_jamo hs d h)
    have := wall_cases hd
    omega
  | false =>
    cases ho : splitOf r with
    | none => rw [hs, ho] at h; exact (by simpa using h : d = r).symm
    | some y =>
      rcases split_cases ho with ⟨h1, rfl⟩ | ⟨h1, hy⟩
      · have h2 := (rows_wall y h1).2
        rw [List.all_eq_true] at h2
        rw [← Norm.pieces_eq] at h
        have := h2 d h
        rw [hd] at this
        exact absurd this (by decide)
      · rw [hs, ho, hy] at h
        exact (by simpa using h : d = r).symm
theorem nfc_wall {p : List Int} {d : Int} (hd : isWall d = true) (h : d ∈ Norm.join (Norm.down false p)) : d ∈ p := by
  have hs := Norm.join_sim false (l := Norm.down false p) (Norm.down_whole false p)
  have h1 : d ∈ Norm.split false (Norm.join (Norm.down false p)) := by
    unfold Norm.split
    exact List.mem_flatMap.2 ⟨d, h, by rw [pieces_wall hd]; simp⟩
  have h2 := (Norm.sim_mem hs d).1 h1
  obtain ⟨r, hr, hp⟩ := Norm.down_mem false p d h2
  rwa [← from_wall hd hp]
end Wall
end Go.Proofs.YtmbammhkkcnoaaaGreat
