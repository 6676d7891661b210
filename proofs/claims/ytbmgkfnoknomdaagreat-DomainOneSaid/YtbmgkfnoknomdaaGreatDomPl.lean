/-
  PLAIN: domains: where the dots are, and that what is folded is folded between its dots. Conditions: as they stand in each.
  PLAIN: what a range over a string reads at the bytes of a character; the parts between dots, part by part. Conditions: as they stand in each. Nothing of the program is used here.
  PLAIN: domains: their labels, their two forms, and that these tell of each other. Conditions: as they stand in each.
-/
import Derived.Test.YtbmgkfnoknomdaaGreatLabFine
import Derived.Lib.DecodeN
import Derived.Test.YtbmgkfnoknomdaaGreatUtfB
namespace Go.Proofs.YtbmgkfnoknomdaaGreat
open Go.RowKit Utf
namespace Dom
/-! No character joins over a dot -/
def isDot (x : Int) : Bool := x == 46 || x == 12290
theorem dot_cases {d : Int} (h : isDot d = true) : d = 46 ∨ d = 12290 := by
  unfold isDot at h
  simpa using h
theorem rows_dot : ∀ y ∈ splits, (y.soft = false → y.out = false → isDot y.one = false ∧ isDot y.two = false) ∧ (Norm.pieces false y.rune).all (fun c => !isDot c) = true := by decide +kernel
theorem dots_ok : clsOf 46 = 0 ∧ clsOf 12290 = 0 ∧ Norm.pieces false 46 = [46] ∧ Norm.pieces false 12290 = [12290] ∧ Fold.fo 46 = 46 ∧ Fold.fo 12290 = 12290 := by decide +kernel
theorem cls_dot {d : Int} (h : isDot d = true) : clsOf d = 0 := by rcases dot_cases h with rfl | rfl; exact dots_ok.1; exact dots_ok.2.1
theorem pieces_dot {d : Int} (h : isDot d = true) : Norm.pieces false d = [d] := by rcases dot_cases h with rfl | rfl; exact dots_ok.2.2.1; exact dots_ok.2.2.2.1
theorem fo_dot {d : Int} (h : isDot d = true) : Fold.fo d = d := by rcases dot_cases h with rfl | rfl; exact dots_ok.2.2.2.2.1; exact dots_ok.2.2.2.2.2
theorem pair_dot {a b : Int} (h : isDot a = true ∨ isDot b = true) : pairOf a b = none := by
  cases hp : pairOf a b with
  | none => rfl
  | some z =>
    obtain ⟨y, hy, h1, h2, ho⟩ := pair_split hp
    obtain ⟨-, -, h4⟩ := split_pair hy ho
    rcases split_cases hy with ⟨h3, -⟩ | ⟨-, rfl⟩
    · have := (rows_dot y h3).1 h4 ho
      rw [h1, h2] at this
      rcases h with h | h
      · rw [h] at this; exact absurd this.1 (by decide)
      · rw [h] at this; exact absurd this.2 (by decide)
    · cases ho
theorem make_dot {a b : Int} (h : isDot a = true ∨ isDot b = true) : Norm.make2 a b = none := by
  have ha : isDot a = true → a = 46 ∨ a = 12290 := dot_cases
  have hb : isDot b = true → b = 46 ∨ b = 12290 := dot_cases
  unfold Norm.make2
  rw [if_neg (by rcases h with h | h; have := ha h; omega; have := hb h; omega), if_neg (fun e => by
    have := (Norm.syl_iff a).1 e.1
    rcases h with h | h
    · have := ha h; omega
    · have := hb h; omega)]
  exact pair_dot h
theorem step_past {d : Int} (hd : isDot d = true) (S R : List Int) (c : Int) : Norm.step (S ++ d :: R) c = Norm.step S c ++ d :: R := by
  have h0 : ¬ 0 < clsOf d := by rw [cls_dot hd]; omega
  unfold Norm.step
  rw [List.dropWhile_append, List.takeWhile_append]
  cases hdw : S.dropWhile (fun y => decide (0 < clsOf y)) with
  | nil =>
    have ht : S.takeWhile (fun y => decide (0 < clsOf y)) = S := by
      have := List.takeWhile_append_dropWhile (p := fun y => decide (0 < clsOf y)) (l := S)
      rw [hdw, List.append_nil] at this
      exact this
    rw [ht, if_pos rfl]
    simp only [List.isEmpty_nil, if_true, List.dropWhile_cons, h0, decide_false, Bool.false_eq_true, if_false, make_dot (Or.inl hd)]
    split <;> rfl
  | cons s A =>
    have ht : ¬ (S.takeWhile (fun y => decide (0 < clsOf y))).length = S.length := by
      have := congrArg List.length (List.takeWhile_append_dropWhile (p := fun y => decide (0 < clsOf y)) (l := S))
      rw [hdw, List.length_append, List.length_cons] at this
      omega
    rw [if_neg ht]
    simp only [List.isEmpty_cons, Bool.false_eq_true, if_false, List.cons_append]
    split
    · split
      · rw [List.append_assoc]; rfl
      · rfl
    · rfl
theorem step_dot {d : Int} (hd : isDot d = true) (R : List Int) : Norm.step R d = d :: R := by
  unfold Norm.step
  split
  · rfl
  · split
    · rw [make_dot (Or.inr hd)]
    · rfl
theorem steps_past {d : Int} (hd : isDot d = true) : ∀ (q S R : List Int), q.foldl Norm.step (S ++ d :: R) = q.foldl Norm.step S ++ d :: R
  | [], _, _ => rfl
  | c :: q, S, R => by rw [List.foldl_cons, List.foldl_cons, step_past hd, steps_past hd q]
theorem join_dot {d : Int} (hd : isDot d = true) (p q : List Int) : Norm.join (p ++ d :: q) = Norm.join p ++ d :: Norm.join q := by
  unfold Norm.join Norm.joinR
  rw [List.foldl_append, List.foldl_cons, step_dot hd, show d :: p.foldl Norm.step [] = [] ++ d :: p.foldl Norm.step [] from rfl, steps_past hd, List.reverse_append]
  simp
theorem ins_dot {d : Int} (hd : isDot d = true) (x : Int) : ∀ L M : List Int, Norm.ins x (L ++ d :: M) = Norm.ins x L ++ d :: M
  | [], M => by
    show Norm.ins x (d :: M) = [x] ++ d :: M
    unfold Norm.ins
    rw [if_neg (by rw [cls_dot hd]; omega)]
    rfl
  | y :: L, M => by
    show Norm.ins x (y :: (L ++ d :: M)) = _
    unfold Norm.ins
    split
    · rw [ins_dot hd x L M]; rfl
    · rfl
theorem order_dot {d : Int} (hd : isDot d = true) : ∀ p q : List Int, Norm.order (p ++ d :: q) = Norm.order p ++ d :: Norm.order q
  | [], q => by
    show Norm.ins d (Norm.order q) = d :: Norm.order q
    cases Norm.order q with
    | nil => rfl
    | cons y l =>
      unfold Norm.ins
      rw [if_neg (by rw [cls_dot hd]; omega)]
  | x :: p, q => by
    show Norm.ins x (Norm.order (p ++ d :: q)) = Norm.ins x (Norm.order p) ++ _
    rw [order_dot hd p q, ins_dot hd]
theorem down_dot {d : Int} (hd : isDot d = true) (p q : List Int) : Norm.down false (p ++ d :: q) = Norm.down false p ++ d :: Norm.down false q := by
  unfold Norm.down
  rw [Norm.split_append, show d :: q = [d] ++ q from rfl, Norm.split_append, show Norm.split false [d] = [d] by unfold Norm.split; rw [List.flatMap_cons, pieces_dot hd]; rfl]
  exact order_dot hd _ _
theorem fold_at {d : Int} (hd : isDot d = true) (p q : List Int) : Fold.fold (p ++ d :: q) = Fold.fold p ++ d :: Fold.fold q := by
  unfold Fold.fold
  rw [List.map_append, List.map_cons, fo_dot hd, down_dot hd, join_dot hd]
theorem fold_dot (p q : List Int) : Fold.fold (p ++ 46 :: q) = Fold.fold p ++ 46 :: Fold.fold q := fold_at (by decide) p q
/-- A dot comes of a dot alone. -/
theorem from_dot {d r : Int} (hd : isDot d = true) (h : d ∈ Norm.pieces false r) : r = d := by
  rw [Norm.pieces_eq] at h
  cases hs : Norm.syl r with
  | true =>
    rw [hs, if_pos rfl] at h
    have := (Norm.jamo_iff d).1 (Norm.syl_jamo hs d h)
    have := dot_cases hd
    omega
  | false =>
    cases ho : splitOf r with
    | none => rw [hs, ho] at h; exact (by simpa using h : d = r).symm
    | some y =>
      rcases split_cases ho with ⟨h1, rfl⟩ | ⟨h1, hy⟩
      · have h2 := (rows_dot y h1).2
        rw [List.all_eq_true] at h2
        rw [← Norm.pieces_eq] at h
        have := h2 d h
        rw [hd] at this
        exact absurd this (by decide)
      · rw [hs, ho, hy] at h
        exact (by simpa using h : d = r).symm
theorem nfc_dot {p : List Int} {d : Int} (hd : isDot d = true) (h : d ∈ Norm.join (Norm.down false p)) : d ∈ p := by
  have hs := Norm.join_sim false (l := Norm.down false p) (Norm.down_whole false p)
  have h1 : d ∈ Norm.split false (Norm.join (Norm.down false p)) := by
    unfold Norm.split
    exact List.mem_flatMap.2 ⟨d, h, by rw [pieces_dot hd]; simp⟩
  have h2 := (Norm.sim_mem hs d).1 h1
  obtain ⟨r, hr, hp⟩ := Norm.down_mem false p d h2
  rwa [← from_dot hd hp]
/-! Labels -/
/-- What stands between the dots. -/
def cut : List Int → List (List Int)
  | [] => [[]]
  | x :: l => if isDot x then [] :: cut l else match cut l with | [] => [[x]] | h :: t => (x :: h) :: t
theorem cut_cons (l : List Int) : ∃ h t, cut l = h :: t := by
  cases l with
  | nil => exact ⟨_, _, rfl⟩
  | cons x l =>
    unfold cut
    split
    · exact ⟨_, _, rfl⟩
    · split
      · exact ⟨_, _, rfl⟩
      · exact ⟨_, _, rfl⟩
theorem cut_dot : ∀ p q : List Int, cut (p ++ 46 :: q) = cut p ++ cut q
  | [], q => by
    show cut (46 :: q) = [[]] ++ cut q
    rw [cut, if_pos (by decide)]
    rfl
  | x :: p, q => by
    show cut (x :: (p ++ 46 :: q)) = _
    rw [cut, cut, cut_dot p q]
    split
    · rfl
    · obtain ⟨h, t, e⟩ := cut_cons p
      rw [e]
      rfl
theorem cut_none : ∀ {l : List Int}, (∀ x ∈ l, isDot x = false) → cut l = [l]
  | [], _ => rfl
  | x :: l, h => by
    rw [cut, if_neg (by rw [h x (by simp)]; decide), cut_none (fun y hy => h y (by simp [hy]))]
theorem cut_one {l : List Int} (h : (cut l).length = 1) : cut l = [l] := by
  induction l with
  | nil => rfl
  | cons x l ih =>
    rw [cut] at h ⊢
    obtain ⟨a, t, e⟩ := cut_cons l
    by_cases hx : isDot x = true
    · rw [if_pos hx, e] at h
      simp at h
    · rw [if_neg hx] at h ⊢
      rw [e] at h ih ⊢
      simp only [List.length_cons, Nat.add_eq_right, List.length_eq_zero_iff] at h
      subst h
      have := ih rfl
      injection this with h1
      subst h1
      rfl
/-- With a dot between two. -/
def dots : List (List Int) → List Int
  | [] => []
  | [x] => x
  | x :: y :: t => x ++ 46 :: dots (y :: t)
theorem cut_dots : ∀ {ps : List (List Int)}, ps ≠ [] → (∀ p ∈ ps, ∀ x ∈ p, isDot x = false) → cut (dots ps) = ps
  | [], h, _ => absurd rfl h
  | [x], _, h => cut_none (h x (by simp))
  | x :: y :: t, _, h => by
    show cut (x ++ 46 :: dots (y :: t)) = _
    rw [cut_dot, cut_none (h x (by simp)), cut_dots (by simp) (fun p hp => h p (by simp only [List.mem_cons] at hp ⊢; exact .inr hp))]
    rfl
theorem fold_dots : ∀ {ps : List (List Int)}, (∀ p ∈ ps, Fold.fold p = p) → Fold.fold (dots ps) = dots ps
  | [], _ => rfl
  | [x], h => h x (by simp)
  | x :: y :: t, h => by
    show Fold.fold (x ++ 46 :: dots (y :: t)) = _
    rw [fold_dot, h x (by simp), fold_dots (fun p hp => h p (by simp only [List.mem_cons] at hp ⊢; exact .inr hp))]
    rfl
theorem right_dots : ∀ {ps : List (List Int)}, (∀ p ∈ ps, rightsZ p = true) → rightsZ (dots ps) = true
  | [], _ => rfl
  | [x], h => h x (by simp)
  | x :: y :: t, h => by
    have h1 := h x (by simp)
    have h2 := right_dots (ps := y :: t) (fun p hp => h p (by simp only [List.mem_cons] at hp ⊢; exact .inr hp))
    show rightsZ (x ++ 46 :: dots (y :: t)) = true
    unfold rightsZ at h1 h2 ⊢
    rw [List.all_append, h1, List.all_cons, h2]
    decide
theorem same_len {d : Int} {A B p R : List Int} (h : A ++ d :: B = p ++ d :: R) (hA : d ∈ A → d ∈ p) (hp : d ∉ p) : A = p ∧ B = R := by
  have hlt : A.length = p.length := by
    rcases Nat.lt_trichotomy A.length p.length with h1 | h1 | h1
    · exfalso
      have e : (A ++ d :: B)[A.length]? = (p ++ d :: R)[A.length]? := by rw [h]
      rw [List.getElem?_append_right (Nat.le_refl _), Nat.sub_self, List.getElem?_cons_zero, List.getElem?_append_left h1, List.getElem?_eq_getElem h1] at e
      exact hp (by injection e with e; rw [e]; exact List.getElem_mem h1)
    · exact h1
    · exfalso
      have e : (A ++ d :: B)[p.length]? = (p ++ d :: R)[p.length]? := by rw [h]
      rw [List.getElem?_append_left h1, List.getElem?_eq_getElem h1, List.getElem?_append_right (Nat.le_refl _), Nat.sub_self, List.getElem?_cons_zero] at e
      exact hp (hA (by injection e with e; rw [← e]; exact List.getElem_mem h1))
  obtain ⟨h1, h2⟩ := List.append_inj h hlt
  exact ⟨h1, by injection h2⟩
/-- The first label, and what stands behind. -/
theorem cut_first : ∀ l : List Int, ((∀ x ∈ l, isDot x = false) ∧ cut l = [l]) ∨ ∃ p d R, isDot d = true ∧ l = p ++ d :: R ∧ (∀ x ∈ p, isDot x = false) ∧ cut l = p :: cut R
  | [] => .inl ⟨fun x hx => (by cases hx), rfl⟩
  | x :: l => by
    cases hx : isDot x with
    | true => exact .inr ⟨[], x, l, hx, rfl, fun y hy => (by cases hy), by rw [cut, if_pos hx]⟩
    | false =>
      rcases cut_first l with ⟨h1, h2⟩ | ⟨p, d, R, hd, rfl, h1, h2⟩
      · exact .inl ⟨fun y hy => (by
          rcases List.mem_cons.1 hy with rfl | hy
          · exact hx
          · exact h1 y hy), by rw [cut, if_neg (by rw [hx]; decide), h2]⟩
      · exact .inr ⟨x :: p, d, R, hd, rfl, fun y hy => (by
          rcases List.mem_cons.1 hy with rfl | hy
          · exact hx
          · exact h1 y hy), by rw [cut, if_neg (by rw [hx]; decide), h2]⟩
/-- What is folded is folded between its dots. -/
theorem cut_fold (n : Nat) : ∀ L : List Int, L.length ≤ n → Norm.join (Norm.down false L) = L → (∀ c ∈ L, Fold.fo c = c) → ∀ p ∈ cut L, Fold.fold p = p := by
  induction n with
  | zero =>
    intro L hn _ _ p hp
    obtain rfl : L = [] := List.eq_nil_of_length_eq_zero (by omega)
    rw [List.mem_singleton.1 hp]; rfl
  | succ n ih =>
    intro L hn hj hf p hp
    have one : ∀ q : List Int, Norm.join (Norm.down false q) = q → (∀ c ∈ q, Fold.fo c = c) → Fold.fold q = q := fun q h1 h2 => by
      unfold Fold.fold
      rw [Fold.map_fix h2]
      exact h1
    rcases cut_first L with ⟨-, h⟩ | ⟨q, d, R, hd, rfl, hq, h⟩
    · rw [h] at hp
      rw [List.mem_singleton.1 hp]
      exact one L hj hf
    · rw [down_dot hd, join_dot hd] at hj
      have hdq : d ∉ q := fun hm => by rw [hq d hm] at hd; cases hd
      obtain ⟨e1, e2⟩ := same_len hj (nfc_dot hd) hdq
      rw [h] at hp
      rcases List.mem_cons.1 hp with rfl | hp
      · exact one p e1 fun c hc => hf c (by simp [hc])
      · refine ih R ?_ e2 (fun c hc => hf c (by simp [hc])) p hp
        rw [List.length_append, List.length_cons] at hn
        omega
theorem parts_fold (l : List Int) : ∀ p ∈ cut (Fold.fold l), Fold.fold p = p :=
  cut_fold _ _ (Nat.le_refl _) (Fold.nfc_fold l) (Fold.fold_all_fix l)
end Dom
end Go.Proofs.YtbmgkfnoknomdaaGreat
namespace Go.Proofs.YtbmgkfnoknomdaaGreat
open Go.RowKit Utf
namespace Dom
theorem cut_snoc_dot {x : Int} (hx : isDot x = true) : ∀ l : List Int, cut (l ++ [x]) = cut l ++ [[]]
  | [] => by
    show cut [x] = [[]] ++ [[]]
    rw [cut, if_pos hx]
    rfl
  | y :: l => by
    show cut (y :: (l ++ [x])) = _
    rw [cut, cut, cut_snoc_dot hx l]
    split
    · rfl
    · obtain ⟨a, t, e⟩ := cut_cons l
      rw [e]
      rfl
theorem cut_snoc {x : Int} (hx : isDot x = false) : ∀ (l : List Int) (q : Nat), (cut l).length = q + 1 → cut (l ++ [x]) = (cut l).set q ((cut l)[q]! ++ [x])
  | [], q, h => by
    obtain rfl : q = 0 := by have : (1 : Nat) = q + 1 := h; omega
    show cut [x] = [[x]]
    rw [cut, if_neg (by rw [hx]; decide)]
    rfl
  | y :: l, q, h => by
    show cut (y :: (l ++ [x])) = _
    rw [cut] at h ⊢
    rw [cut]
    obtain ⟨a, t, e⟩ := cut_cons l
    by_cases hy : isDot y = true
    · rw [if_pos hy] at h
      rw [if_pos hy, if_pos hy]
      obtain ⟨q', rfl⟩ : ∃ q', q = q' + 1 := by
        cases q with
        | zero => rw [e] at h; simp at h
        | succ q' => exact ⟨q', rfl⟩
      rw [cut_snoc hx l q' (by simpa using h)]
      rfl
    · rw [if_neg hy] at h
      rw [if_neg hy, if_neg hy]
      rw [e] at h
      have ih := cut_snoc hx l q (by rw [e]; simpa using h)
      rw [ih, e]
      cases q with
      | zero => rfl
      | succ q' => rfl
theorem get_at (A X : List UInt8) (j : Nat) : (⟨(A ++ X).toArray⟩ : ByteArray).get! (A.length + j) = X.getD j 0 := by
  show (A ++ X).toArray[A.length + j]! = _
  by_cases h : j < X.length
  · rw [getElem!_pos _ _ (by simp; omega)]
    simp [List.getElem_append_right, List.getD, h]
  · rw [getElem!_neg _ _ (by simp; omega)]
    simp [List.getD, h]
    rfl
theorem decode_enc (A B : List UInt8) (r : Nat) (h : right r = true) : Utf8.decode ⟨(A ++ (enc r ++ B)).toArray⟩ A.length = (r, (enc r).length) := by
  rw [right_iff] at h
  have g0 := get_at A (enc r ++ B) 0
  rw [Nat.add_zero] at g0
  rw [Lib.decode_at, g0, get_at, get_at, get_at]
  have hs : (⟨(A ++ (enc r ++ B)).toArray⟩ : ByteArray).size - A.length = (enc r).length + B.length := by
    show (A ++ (enc r ++ B)).toArray.size - A.length = _
    simp
  rw [hs]
  unfold enc
  by_cases h1 : r < 128
  · rw [if_pos h1]
    simp only [List.cons_append, List.nil_append, List.getD_cons_zero, u_toNat (show r < 256 by omega), List.length_cons, List.length_nil]
    unfold Lib.decodeN
    rw [if_pos h1]
  rw [if_neg h1]
  by_cases h2 : r < 2048
  · rw [if_pos h2]
    simp only [List.cons_append, List.nil_append, List.getD_cons_zero, List.getD_cons_succ, u_toNat (show 192 + r / 64 < 256 by omega), u_toNat (show 128 + r % 64 < 256 by omega), List.length_cons, List.length_nil]
    unfold Lib.decodeN
    rw [if_neg (by omega), if_pos (by omega), if_pos (by omega)]
    congr 1
    omega
  rw [if_neg h2]
  by_cases h3 : r < 65536
  · rw [if_pos h3]
    simp only [List.cons_append, List.nil_append, List.getD_cons_zero, List.getD_cons_succ, u_toNat (show 224 + r / 4096 < 256 by omega), u_toNat (show 128 + r / 64 % 64 < 256 by omega), u_toNat (show 128 + r % 64 < 256 by omega), List.length_cons, List.length_nil]
    unfold Lib.decodeN
    rw [if_neg (by omega), if_neg (by omega), if_pos (by omega), if_pos (by omega)]
    congr 1
    omega
  rw [if_neg h3]
  simp only [List.cons_append, List.nil_append, List.getD_cons_zero, List.getD_cons_succ, u_toNat (show 240 + r / 262144 < 256 by omega), u_toNat (show 128 + r / 4096 % 64 < 256 by omega), u_toNat (show 128 + r / 64 % 64 < 256 by omega), u_toNat (show 128 + r % 64 < 256 by omega), List.length_cons, List.length_nil]
  unfold Lib.decodeN
  rw [if_neg (by omega), if_neg (by omega), if_neg (by omega), if_pos (by omega), if_pos (by omega)]
  congr 1
  omega
theorem encZ_app (a b : List Int) : encZ (a ++ b) = encZ a ++ encZ b := by unfold encZ; exact List.flatMap_append
theorem right_get {L : List Int} (h : rightsZ L = true) {k : Nat} (hk : k < L.length) : 0 ≤ L[k]! ∧ right (L[k]!).toNat = true := by
  unfold rightsZ at h
  rw [List.all_eq_true] at h
  have h2 := h _ (List.getElem_mem hk)
  rw [getElem!_pos L k hk]
  unfold rightZ at h2
  rw [Bool.and_eq_true, decide_eq_true_eq] at h2
  exact h2
theorem split_at {L : List Int} {k : Nat} (hk : k < L.length) : L = L.take k ++ L[k]! :: L.drop (k + 1) := by
  rw [getElem!_pos L k hk]
  exact (List.take_append_drop k L).symm.trans (by rw [List.drop_eq_getElem_cons hk])
/-- Where the k-th character's bytes begin. -/
def at_ (L : List Int) (k : Nat) : Nat := (encZ (L.take k)).length
theorem at_succ {L : List Int} {k : Nat} (hk : k < L.length) : at_ L (k + 1) = at_ L k + (enc (L[k]!).toNat).length := by
  unfold at_
  rw [show L.take (k + 1) = L.take k ++ [L[k]!] by rw [List.take_add_one, List.getElem?_eq_getElem hk, getElem!_pos L k hk]; rfl, encZ_snoc, List.length_append]
theorem at_len (L : List Int) : at_ L L.length = (encZ L).length := by unfold at_; rw [List.take_length]
theorem enc_pos (r : Nat) : 1 ≤ (enc r).length := by unfold enc; split <;> (try split) <;> (try split) <;> simp
theorem enc_few (r : Nat) : (enc r).length ≤ 4 := by unfold enc; split <;> (try split) <;> (try split) <;> simp
theorem at_lt {L : List Int} {k : Nat} (hk : k < L.length) : at_ L k + (enc (L[k]!).toNat).length ≤ (encZ L).length := by
  have e := congrArg encZ (split_at hk)
  rw [encZ_app, show L[k]! :: L.drop (k + 1) = [L[k]!] ++ L.drop (k + 1) from rfl, encZ_app, show encZ [L[k]!] = enc (L[k]!).toNat by simp [encZ]] at e
  have := congrArg List.length e
  rw [List.length_append, List.length_append] at this
  unfold at_
  omega
theorem read_at {L : List Int} (h : rightsZ L = true) {k : Nat} (hk : k < L.length) : Utf8.decode ⟨(encZ L).toArray⟩ (at_ L k) = ((L[k]!).toNat, (enc (L[k]!).toNat).length) := by
  have e := congrArg encZ (split_at hk)
  rw [encZ_app, show L[k]! :: L.drop (k + 1) = [L[k]!] ++ L.drop (k + 1) from rfl, encZ_app, show encZ [L[k]!] = enc (L[k]!).toNat by simp [encZ]] at e
  rw [e]
  exact decode_enc _ _ _ (right_get h hk).2
theorem cut_past {d : Int} (hd : isDot d = true) : ∀ p R : List Int, cut (p ++ d :: R) = cut p ++ cut R
  | [], R => by
    show cut (d :: R) = [[]] ++ cut R
    rw [cut, if_pos hd]
    rfl
  | y :: p, R => by
    show cut (y :: (p ++ d :: R)) = _
    rw [cut, cut, cut_past hd p R]
    split
    · rfl
    · obtain ⟨a, t, e⟩ := cut_cons p
      rw [e]
      rfl
/-- How far it has come: k characters gone, q parts done, the last one begins at byte b. -/
def Come (L : List Int) (k q b : Nat) : Prop := (cut (L.take k)).length = q + 1 ∧ ∃ A, encZ (L.take k) = A ++ encZ (cut (L.take k))[q]! ∧ A.length = b
/-- The parts that are done. -/
def gone (L : List Int) (k q : Nat) : List (List UInt8) := ((cut (L.take k)).take q).map encZ
theorem come_0 (L : List Int) : Come L 0 0 0 := ⟨rfl, [], rfl, rfl⟩
theorem gone_len {L : List Int} {k q b : Nat} (h : Come L k q b) : (gone L k q).length = q := by unfold gone; rw [List.length_map, List.length_take, h.1]; omega
theorem come_le {L : List Int} {k q b : Nat} (h : Come L k q b) : b ≤ at_ L k := by obtain ⟨-, A, e, rfl⟩ := h; unfold at_; rw [e, List.length_append]; omega
theorem cut_many : ∀ l : List Int, (cut l).length ≤ l.length + 1
  | [] => Nat.le_refl _
  | x :: l => by
    have ih := cut_many l
    rw [cut]
    obtain ⟨a, t, e⟩ := cut_cons l
    rw [e] at ih ⊢
    split
    · simp at ih ⊢; omega
    · simp at ih ⊢; omega
theorem come_few {L : List Int} {k q b : Nat} (h : Come L k q b) : q ≤ k := by have := cut_many (L.take k); rw [h.1, List.length_take] at this; omega
theorem take_one {L : List Int} {k : Nat} (hk : k < L.length) : L.take (k + 1) = L.take k ++ [L[k]!] := by rw [List.take_add_one, List.getElem?_eq_getElem hk, getElem!_pos L k hk]; rfl
theorem come_on {L : List Int} {k q b : Nat} (h : Come L k q b) (hk : k < L.length) (hd : isDot L[k]! = false) : Come L (k + 1) q b ∧ gone L (k + 1) q = gone L k q := by
  obtain ⟨hq, A, e, rfl⟩ := h
  have hc := cut_snoc hd (L.take k) q hq
  have hql : q < (cut (L.take k)).length := by omega
  refine ⟨⟨?_, A, ?_, rfl⟩, ?_⟩
  · rw [take_one hk, hc, List.length_set]; exact hq
  · rw [take_one hk, hc, getElem!_pos _ q (by rw [List.length_set]; exact hql), List.getElem_set_self, encZ_snoc, e, encZ_snoc, List.append_assoc]
  · unfold gone
    rw [take_one hk, hc, List.take_set_of_le (Nat.le_refl q)]
theorem come_dot {L : List Int} {k q b : Nat} (h : Come L k q b) (hk : k < L.length) (hd : isDot L[k]! = true) : Come L (k + 1) (q + 1) (at_ L k + (enc (L[k]!).toNat).length) ∧ gone L (k + 1) (q + 1) = gone L k q ++ [encZ (cut (L.take k))[q]!] := by
  obtain ⟨hq, A, e, rfl⟩ := h
  have hc := cut_snoc_dot hd (L.take k)
  have hql : q < (cut (L.take k)).length := by omega
  refine ⟨⟨?_, encZ (L.take (k + 1)), ?_, at_succ hk⟩, ?_⟩
  · rw [take_one hk, hc, List.length_append, hq]; rfl
  · rw [take_one hk, hc, getElem!_pos _ (q + 1) (by rw [List.length_append, hq]; simp), List.getElem_append_right (by omega)]
    simp [hq, encZ]
  · unfold gone
    rw [take_one hk, hc, List.take_append_of_le_length (by omega), show q + 1 = q + 1 from rfl, List.take_add_one, List.getElem?_eq_getElem hql, getElem!_pos _ q hql, List.map_append]
    rfl
theorem gone_dot {L : List Int} {k q b : Nat} (h : Come L k q b) (hk : k < L.length) (hd : isDot L[k]! = true) : gone L k q ++ [encZ (cut (L.take k))[q]!] <+: (cut L).map encZ := by
  rw [← (come_dot h hk hd).2]
  refine ⟨(cut (L.drop (k + 1))).map encZ, ?_⟩
  have e : cut L = cut (L.take k) ++ cut (L.drop (k + 1)) := by
    have := cut_past hd (L.take k) (L.drop (k + 1))
    rw [← split_at hk] at this
    exact this
  unfold gone
  rw [e, List.map_append, take_one hk, cut_snoc_dot hd, List.take_append_of_le_length (by rw [h.1]; omega), List.take_of_length_le (by rw [h.1]; omega)]
theorem gone_end {L : List Int} {q b : Nat} (h : Come L L.length q b) : gone L L.length q ++ [encZ (cut L)[q]!] = (cut L).map encZ := by
  obtain ⟨hq, -⟩ := h
  unfold gone
  rw [List.take_length] at hq ⊢
  have hql : q < (cut L).length := by omega
  have : cut L = (cut L).take q ++ [(cut L)[q]!] := by
    rw [getElem!_pos _ q hql]
    have := List.take_add_one (l := cut L) (i := q)
    rw [List.take_of_length_le (by omega), List.getElem?_eq_getElem hql] at this
    exact this
  exact (by rw [List.map_append]; rfl : ((cut L).take q).map encZ ++ [encZ (cut L)[q]!] = ((cut L).take q ++ [(cut L)[q]!]).map encZ).trans (congrArg _ this.symm)
/-- The part that is done now, as the bytes that are sliced. -/
theorem part_at {L : List Int} {k q b : Nat} (h : Come L k q b) : (⟨(encZ L).toArray⟩ : ByteArray).extract b (at_ L k) = ⟨(encZ (cut (L.take k))[q]!).toArray⟩ := by
  obtain ⟨hq, A, e, rfl⟩ := h
  have e2 : encZ L = encZ (L.take k) ++ encZ (L.drop k) := by rw [← encZ_app, List.take_append_drop]
  have ha : at_ L k = A.length + (encZ (cut (L.take k))[q]!).length := by unfold at_; rw [e, List.length_append]
  apply ByteArray.ext
  rw [ByteArray.data_extract, e2, e, ha]
  simp
end Dom
end Go.Proofs.YtbmgkfnoknomdaaGreat
namespace Go.Proofs.YtbmgkfnoknomdaaGreat
open Go.RowKit Utf
namespace Lab
/-- No dot stands in what is right. -/
theorem dot_char : charOk 46 = false ∧ charOk 12290 = false ∧ Ctx.needs 46 = false ∧ Ctx.needs 12290 = false := by decide +kernel
theorem wide_nodot {l : List Int} (h : wideL l = 0) : ∀ x ∈ l, Dom.isDot x = false := by
  have hb : badAt l = false := by
    unfold wideL at h
    split at h
    · omega
    · split at h
      · omega
      · split at h
        · omega
        · split at h
          · omega
          · rename_i h4
            simpa using h4
  intro x hx
  obtain ⟨k, hk, rfl⟩ := List.getElem_of_mem hx
  unfold badAt at hb
  rw [List.any_eq_false] at hb
  have h1 := hb k (List.mem_range.2 hk)
  rw [Bool.or_eq_true, not_or, getElem!_pos l k hk] at h1
  cases hd : Dom.isDot l[k] with
  | false => rfl
  | true =>
    exfalso
    have hc : charOk l[k] = false ∧ Ctx.needs l[k] = false := by
      unfold Dom.isDot at hd
      simp only [Bool.or_eq_true, beq_iff_eq] at hd
      rcases hd with e | e <;> rw [e]
      · exact ⟨dot_char.1, dot_char.2.2.1⟩
      · exact ⟨dot_char.2.1, dot_char.2.2.2⟩
    refine h1.2 ?_
    rw [Ctx.need_in hk, getElem!_pos l k hk, hc.1, hc.2]
    rfl
theorem encB_nodot {l : List Int} (h : rightsZ l = true) (hd : ∀ x ∈ l, Dom.isDot x = false) : ∀ c ∈ Puny.encB l, c.toNat ≠ 46 := by
  have hp : ∀ x ∈ l, 0 ≤ x := fun x hx => by
    have := List.all_eq_true.1 (show l.all rightZ = true from h) x hx
    have := (rightZ_iff x).1 this
    omega
  intro c hc
  unfold Puny.encB at hc
  rcases List.mem_append.1 hc with hc | hc
  · rcases List.mem_append.1 hc with hc | hc
    · unfold Puny.plainB at hc
      obtain ⟨x, hx, rfl⟩ := List.mem_map.1 hc
      have hm : x ∈ l ∧ x < 128 := by
        unfold Puny.lt at hx
        have := List.mem_filter.1 hx
        exact ⟨this.1, by simpa using this.2⟩
      show (u x.toNat).toNat ≠ 46
      rw [u_toNat (by have := hp x hm.1; omega)]
      intro e
      have hx46 : x = 46 := by have := hp x hm.1; omega
      have := hd x hm.1
      rw [hx46] at this
      exact absurd this (by decide)
    · unfold Puny.dashB at hc
      split at hc
      · cases hc
      · rw [List.mem_singleton.1 hc]; decide
  · unfold Puny.tailB at hc
    obtain ⟨x, hx, rfl⟩ := List.mem_map.1 hc
    obtain ⟨h0, h1⟩ := Puny.emit_bd _ _ _ _ (Puny.deltas_nn (rights_lt h)) x hx
    have : ∀ i : Nat, i < 36 → (Puny.digB (i : Int)).toNat ≠ 46 := by decide +kernel
    have := this x.toNat (by omega)
    rwa [show ((x.toNat : Nat) : Int) = x by omega] at this
/-- What is right, cleanly: its characters, and no dot in either form. -/
theorem clean {L : List Int} (hr : rightsZ L = true) (hf : Fold.fold L = L) {a u : List UInt8} (h : bothL L = (0, a, u)) :
    ∃ U : List Int, u = encZ U ∧ rightsZ U = true ∧ Fold.fold U = U ∧ bothL U = (0, a, u) ∧ (∀ c ∈ a, c.toNat < 128) ∧ Fold.fold (chars a) = chars a ∧ bothL (chars a) = (0, a, u) ∧ 0 < a.length ∧ a.length ≤ 63 ∧
      U.length ≤ a.length ∧ (∀ x ∈ U, Dom.isDot x = false) ∧ (∀ x ∈ chars a, Dom.isDot x = false) := by
  obtain ⟨U, hu, rU, fU, -, bU, aA, fA, bA, l0, l1⟩ := back hr hf h
  have hA : (∀ c ∈ a, c.toNat ≠ 46) → ∀ x ∈ chars a, Dom.isDot x = false := fun hn x hx => by
    obtain ⟨c, hc, rfl⟩ := List.mem_map.1 hx
    have h1 := hn c hc
    have h2 := aA c hc
    unfold Dom.isDot
    rw [beq_eq_false_iff_ne.2 (show ((c.toNat : Nat) : Int) ≠ 46 by omega), beq_eq_false_iff_ne.2 (show ((c.toNat : Nat) : Int) ≠ 12290 by omega)]
    rfl
  have hb := bU
  unfold bothL at hb
  by_cases h1 : ascii (encZ U) = false
  · rw [if_pos h1] at hb
    by_cases h2 : wideL U = 0
    · rw [if_pos h2] at hb
      injection hb with e1 e2
      injection e2 with e2 e3
      have hge := enc_ge rU
      have hnd := wide_nodot h2
      refine ⟨U, hu, rU, fU, bU, aA, fA, bA, l0, l1, by rw [← e2, List.length_append]; omega, hnd, hA fun c hc => ?_⟩
      rw [← e2] at hc
      rcases List.mem_append.1 hc with hc | hc
      · exact (by decide : ∀ c ∈ sign, c.toNat ≠ 46) c hc
      · exact encB_nodot rU hnd c hc
    · rw [if_neg h2] at hb
      injection hb with e1 e2
      exact absurd e1 h2
  · rw [if_neg h1] at hb
    have haU : ∀ c ∈ encZ U, c.toNat < 128 := ascii_iff.1 (by simpa using h1)
    have hch : chars (encZ U) = U := encZ_inj (chars_right haU) rU (enc_bytes _ haU)
    by_cases h3 : (encZ U).take 4 = sign
    · exfalso
      rw [if_pos h3] at hb
      cases hd : Puny.decB ((encZ U).drop 4) with
      | none => rw [hd] at hb; simp only at hb; injection hb with e1 e2; exact absurd e1 (by decide)
      | some l =>
        rw [hd] at hb
        simp only at hb
        split at hb
        · injection hb with e1 e2; exact absurd e1 (by decide)
        · split at hb
          · rename_i h5; injection hb with e1 e2; exact h5 e1
          · rename_i h5
            split at hb
            · injection hb with e1 e2; exact absurd e1 (by decide)
            · injection hb with e1 e2
              injection e2 with e2 e3
              rw [Decidable.not_not] at h5
              have R := right_of h5
              have := R.wide
              rw [e3, hu] at this
              exact h1 this
    · rw [if_neg h3] at hb
      by_cases h4 : plainE (encZ U) = 0
      · rw [if_pos h4] at hb
        injection hb with e1 e2
        injection e2 with e2 e3
        have hp := (plain_iff (encZ U)).1 h4
        have hn : ∀ c ∈ encZ U, c.toNat ≠ 46 := fun c hc => by
          obtain ⟨k, hk, rfl⟩ := List.getElem_of_mem hc
          have := hp.2.2 k hk
          unfold okAt at this
          rw [byteAt_in hk] at this
          intro e
          rw [e] at this
          revert this
          have : Bidi.plainC ((46 : Nat) : Int) = false := by decide
          rw [this]
          simp
        refine ⟨U, hu, rU, fU, bU, aA, fA, bA, l0, l1, ?_, ?_, hA (by rw [← e2]; exact hn)⟩
        · rw [← e2]
          have := congrArg List.length hch
          unfold chars at this
          rw [List.length_map] at this
          omega
        · have := hA (by rw [← e2]; exact hn)
          rw [← e2, hch] at this
          exact this
      · rw [if_neg h4] at hb
        injection hb with e1 e2
        exact absurd e1 h4
end Lab
namespace Dom
def bdots : List (List UInt8) → List UInt8
  | [] => []
  | [x] => x
  | x :: y :: t => x ++ 46 :: bdots (y :: t)
theorem enc_app (x y : List Int) : encZ (x ++ 46 :: y) = encZ x ++ 46 :: encZ y := by
  unfold encZ
  rw [List.flatMap_append, List.flatMap_cons, show enc (46 : Int).toNat = [46] by decide]
  rfl
theorem enc_dots : ∀ ps : List (List Int), encZ (dots ps) = bdots (ps.map encZ)
  | [] => rfl
  | [x] => rfl
  | x :: y :: t => by
    show encZ (x ++ 46 :: dots (y :: t)) = encZ x ++ 46 :: bdots ((y :: t).map encZ)
    rw [enc_app, enc_dots (y :: t)]
theorem bdots_app : ∀ {x y : List (List UInt8)}, x ≠ [] → y ≠ [] → bdots (x ++ y) = bdots x ++ 46 :: bdots y
  | [], _, h, _ => absurd rfl h
  | [a], [], _, h => absurd rfl h
  | [a], b :: y, _, _ => rfl
  | a :: b :: x, y, _, hy => by
    show a ++ 46 :: bdots (b :: x ++ y) = (a ++ 46 :: bdots (b :: x)) ++ 46 :: bdots y
    rw [bdots_app (by simp) hy, List.append_assoc]
    rfl
/-- A domain's labels, or the error. -/
def labelsE (bs : List UInt8) : Int × List (List Int) :=
  if (rdOf bs).2 = -1 then
    (if Fold.fold (ints (rdOf bs).1) = [] then (13, []) else if 32 < (cut (Fold.fold (ints (rdOf bs).1))).length then (2, []) else (0, cut (Fold.fold (ints (rdOf bs).1))))
  else (7, [])
def formE (p : List Int) : Int := (Lab.bothE (encZ p)).1
def formA (p : List Int) : List UInt8 := (Lab.bothE (encZ p)).2.1
def formU (p : List Int) : List UInt8 := (Lab.bothE (encZ p)).2.2
/-- What labels come to: the error, and the two forms. -/
def ofLabels (ps : List (List Int)) : Int × List UInt8 × List UInt8 :=
  match ps.find? (fun p => formE p != 0) with
  | some p => (formE p, [], [])
  | none => if 253 < (bdots (ps.map formA)).length then (5, [], []) else (0, bdots (ps.map formA), bdots (ps.map formU))
def bothD (bs : List UInt8) : Int × List UInt8 × List UInt8 := if (labelsE bs).1 = 0 then ofLabels (labelsE bs).2 else ((labelsE bs).1, [], [])
def downD (bs : List UInt8) : List UInt8 := if (bothD bs).1 = 0 ∧ Lab.ascii bs = true then bs else (bothD bs).2.1
theorem none_of {bs a u : List UInt8} {E : Int} (h : bothD bs = (E, a, u)) (hE : E ≠ 0) : a = [] ∧ u = [] := by
  unfold bothD at h
  split at h
  · unfold ofLabels at h
    split at h
    · injection h with e1 e2; injection e2 with e2 e3; exact ⟨e2.symm, e3.symm⟩
    · split at h
      · injection h with e1 e2; injection e2 with e2 e3; exact ⟨e2.symm, e3.symm⟩
      · injection h with e1 e2; exact absurd e1.symm hE
  · injection h with e1 e2; injection e2 with e2 e3; exact ⟨e2.symm, e3.symm⟩
theorem labels_enc {l : List Int} (h : rightsZ l = true) : labelsE (encZ l) = if Fold.fold l = [] then (13, []) else if 32 < (cut (Fold.fold l)).length then (2, []) else (0, cut (Fold.fold l)) := by
  unfold labelsE
  rw [rd_enc h, if_pos rfl, (ints_back h).1]
theorem cut_right : ∀ {l : List Int}, rightsZ l = true → ∀ p ∈ cut l, rightsZ p = true
  | [], _, p, hp => by rw [List.mem_singleton.1 hp]; rfl
  | x :: l, h, p, hp => by
    have h2 : rightZ x = true ∧ rightsZ l = true := by unfold rightsZ at h ⊢; simpa using h
    have ih := cut_right h2.2
    rw [cut] at hp
    obtain ⟨a, t, e⟩ := cut_cons l
    rw [e] at ih hp
    split at hp
    · rcases List.mem_cons.1 hp with rfl | hp
      · rfl
      · exact ih p hp
    · rcases List.mem_cons.1 hp with rfl | hp
      · have := ih a (by simp)
        unfold rightsZ at this ⊢
        rw [List.all_cons, h2.1, this]
        rfl
      · exact ih p (by simp [hp])
theorem cut_len : ∀ l : List Int, ∀ p ∈ cut l, p.length ≤ l.length
  | [], p, hp => by rw [List.mem_singleton.1 hp]; exact Nat.le_refl _
  | x :: l, p, hp => by
    have ih := cut_len l
    rw [cut] at hp
    obtain ⟨a, t, e⟩ := cut_cons l
    rw [e] at ih hp
    split at hp
    · rcases List.mem_cons.1 hp with rfl | hp
      · simp
      · have := ih p hp; simp only [List.length_cons]; omega
    · rcases List.mem_cons.1 hp with rfl | hp
      · have := ih a (by simp); simp only [List.length_cons]; omega
      · have := ih p (by simp [hp]); simp only [List.length_cons]; omega
/-- A right domain: its labels, and what they come to. -/
theorem both_is {bs a u : List UInt8} (h : bothD bs = (0, a, u)) : ∃ l : List Int, rightsZ l = true ∧ bs = encZ l ∧ Fold.fold l ≠ [] ∧ (cut (Fold.fold l)).length ≤ 32 ∧ (∀ p ∈ cut (Fold.fold l), formE p = 0) ∧ a = bdots ((cut (Fold.fold l)).map formA) ∧ u = bdots ((cut (Fold.fold l)).map formU) ∧ a.length ≤ 253 := by
  unfold bothD at h
  by_cases hl : (labelsE bs).1 = 0
  · rw [if_pos hl] at h
    unfold labelsE at hl h
    by_cases hz : (rdOf bs).2 = -1
    · obtain ⟨h1, h2⟩ := Lab.rd_is hz
      rw [if_pos hz] at hl h
      generalize ints (rdOf bs).1 = l at hl h h1 h2
      by_cases h3 : Fold.fold l = []
      · rw [if_pos h3] at hl; exact absurd hl (by decide)
      · rw [if_neg h3] at hl h
        by_cases h4 : 32 < (cut (Fold.fold l)).length
        · rw [if_pos h4] at hl; exact absurd hl (by decide)
        · rw [if_neg h4] at h
          unfold ofLabels at h
          simp only at h
          cases hf : (cut (Fold.fold l)).find? (fun p => formE p != 0) with
          | some p =>
            rw [hf] at h
            simp only at h
            injection h with e1 e2
            have := List.find?_some hf
            rw [e1] at this
            exact absurd this (by decide)
          | none =>
            rw [hf] at h
            simp only at h
            by_cases h5 : 253 < (bdots ((cut (Fold.fold l)).map formA)).length
            · rw [if_pos h5] at h; injection h with e1 e2; exact absurd e1 (by decide)
            · rw [if_neg h5] at h
              injection h with e1 e2
              injection e2 with e2 e3
              refine ⟨l, h1, h2, h3, by omega, fun p hp => ?_, e2.symm, e3.symm, by rw [← e2]; omega⟩
              have := List.find?_eq_none.1 hf p hp
              simpa using this
    · rw [if_neg hz] at hl
      exact absurd hl (by decide)
  · rw [if_neg hl] at h
    injection h with e1 e2
    exact absurd e1 hl
/-- .. and the other way round. -/
theorem both_of {l : List Int} (hr : rightsZ l = true) (h0 : Fold.fold l ≠ []) (h1 : (cut (Fold.fold l)).length ≤ 32) (h2 : ∀ p ∈ cut (Fold.fold l), formE p = 0) :
    bothD (encZ l) = if 253 < (bdots ((cut (Fold.fold l)).map formA)).length then (5, [], []) else (0, bdots ((cut (Fold.fold l)).map formA), bdots ((cut (Fold.fold l)).map formU)) := by
  have hf : (cut (Fold.fold l)).find? (fun p => formE p != 0) = none := by
    rw [List.find?_eq_none]
    intro p hp
    rw [h2 p hp]
    decide
  unfold bothD ofLabels
  rw [labels_enc hr, if_neg h0, if_neg (show ¬ 32 < (cut (Fold.fold l)).length by omega)]
  simp only
  rw [if_pos trivial, hf]
/-- The characters of a label's other form. -/
def uniOf (p : List Int) : List Int := ints (rdOf (formU p)).1
theorem label_clean {p : List Int} (hr : rightsZ p = true) (h : formE p = 0) : formU p = encZ (uniOf p) ∧ rightsZ (uniOf p) = true ∧ Fold.fold (uniOf p) = uniOf p ∧ (uniOf p).length ≤ (formA p).length ∧ (∀ x ∈ uniOf p, isDot x = false) ∧ formE (uniOf p) = 0 ∧ formA (uniOf p) = formA p ∧ formU (uniOf p) = formU p ∧
    0 < (formA p).length ∧ (∀ c ∈ formA p, c.toNat < 128) ∧ Fold.fold (Lab.chars (formA p)) = Lab.chars (formA p) ∧ (∀ x ∈ Lab.chars (formA p), isDot x = false) ∧ formE (Lab.chars (formA p)) = 0 ∧ formA (Lab.chars (formA p)) = formA p ∧ formU (Lab.chars (formA p)) = formU p := by
  have hb : Lab.bothL (Fold.fold p) = (0, formA p, formU p) := by
    rw [← Lab.bothE_enc hr, ← h]
    rfl
  obtain ⟨U, hu, rU, fU, bU, aA, fA, bA, l0, -, hlen, hd, hda⟩ := Lab.clean (fold_right hr) (Fold.fold_fold p) hb
  have e : uniOf p = U := by
    unfold uniOf
    rw [hu, rd_enc rU]
    exact (ints_back rU).1
  rw [e]
  have h1 : Lab.bothE (encZ U) = (0, formA p, formU p) := by rw [Lab.bothE_enc rU, fU]; exact bU
  have h2 : Lab.bothE (encZ (Lab.chars (formA p))) = (0, formA p, formU p) := by rw [Lab.bothE_enc (Lab.chars_right aA), fA]; exact bA
  exact ⟨hu, rU, fU, hlen, hd, by unfold formE; rw [h1], by show (Lab.bothE (encZ U)).2.1 = _; rw [h1], by show (Lab.bothE (encZ U)).2.2 = _; rw [h1], l0, aA, fA, hda, by unfold formE; rw [h2], by show (Lab.bothE (encZ (Lab.chars (formA p)))).2.1 = _; rw [h2], by show (Lab.bothE (encZ (Lab.chars (formA p)))).2.2 = _; rw [h2]⟩
theorem dots_ne : ∀ {ps : List (List Int)}, ps ≠ [] → (∀ p ∈ ps, p ≠ []) → dots ps ≠ []
  | [], h, _ => absurd rfl h
  | [x], _, h => h x (by simp)
  | x :: y :: t, _, _ => by
    show x ++ 46 :: dots (y :: t) ≠ []
    simp
theorem dots_len : ∀ (ps : List (List Int)) (f : List Int → List UInt8), (∀ p ∈ ps, p.length ≤ (f p).length) → (dots ps).length ≤ (bdots (ps.map f)).length
  | [], _, _ => Nat.le_refl _
  | [x], f, h => h x (by simp)
  | x :: y :: t, f, h => by
    have h1 := h x (by simp)
    have h2 := dots_len (y :: t) f (fun p hp => h p (by simp only [List.mem_cons] at hp ⊢; exact .inr hp))
    show (x ++ 46 :: dots (y :: t)).length ≤ (f x ++ 46 :: bdots ((y :: t).map f)).length
    rw [List.length_append, List.length_append, List.length_cons, List.length_cons]
    omega
/-- Labels whose forms are those of other labels make the same domain. -/
theorem again {ps qs : List (List Int)} (f : List Int → List Int) (hq : qs = ps.map f) (hne : ps ≠ []) (hn : ps.length ≤ 32) (hl : (bdots (ps.map formA)).length ≤ 253)
    (h : ∀ p ∈ ps, rightsZ (f p) = true ∧ Fold.fold (f p) = f p ∧ (∀ x ∈ f p, isDot x = false) ∧ f p ≠ [] ∧ formE (f p) = 0 ∧ formA (f p) = formA p ∧ formU (f p) = formU p) :
    rightsZ (dots qs) = true ∧ Fold.fold (dots qs) = dots qs ∧ bothD (encZ (dots qs)) = (0, bdots (ps.map formA), bdots (ps.map formU)) := by
  subst hq
  have hq1 : ∀ q ∈ ps.map f, ∃ p ∈ ps, f p = q := fun q hq => List.mem_map.1 hq
  have r : rightsZ (dots (ps.map f)) = true := right_dots fun q hq => by obtain ⟨p, hp, rfl⟩ := hq1 q hq; exact (h p hp).1
  have ff : Fold.fold (dots (ps.map f)) = dots (ps.map f) := fold_dots fun q hq => by obtain ⟨p, hp, rfl⟩ := hq1 q hq; exact (h p hp).2.1
  have hne' : ps.map f ≠ [] := by simpa using hne
  have hc : cut (Fold.fold (dots (ps.map f))) = ps.map f := by
    rw [ff]
    exact cut_dots hne' fun q hq => by obtain ⟨p, hp, rfl⟩ := hq1 q hq; exact (h p hp).2.2.1
  have ha : (ps.map f).map formA = ps.map formA := by rw [List.map_map]; exact List.map_congr_left fun p hp => (h p hp).2.2.2.2.2.1
  have hu : (ps.map f).map formU = ps.map formU := by rw [List.map_map]; exact List.map_congr_left fun p hp => (h p hp).2.2.2.2.2.2
  refine ⟨r, ff, ?_⟩
  rw [both_of r (by rw [ff]; exact dots_ne hne' fun q hq => by obtain ⟨p, hp, rfl⟩ := hq1 q hq; exact (h p hp).2.2.2.1) (by rw [hc, List.length_map]; exact hn) (by rw [hc]; intro q hq; obtain ⟨p, hp, rfl⟩ := hq1 q hq; exact (h p hp).2.2.2.2.1), hc, ha, hu, if_neg (by omega)]
/-- DomainBack: a domain's two forms tell of each other. -/
theorem back {bs a u : List UInt8} (h : bothD bs = (0, a, u)) : ∃ U A : List Int, u = encZ U ∧ rightsZ U = true ∧ Fold.fold U = U ∧ U.length ≤ 253 ∧ bothD u = (0, a, u) ∧ a = encZ A ∧ rightsZ A = true ∧ Fold.fold A = A ∧ A.length ≤ 253 ∧ bothD a = (0, a, u) ∧ eightOf a = -1 ∧ a.length ≤ 253 := by
  obtain ⟨l, hr, rfl, h0, h1, h2, rfl, rfl, hlen⟩ := both_is h
  obtain ⟨ps, hps⟩ : ∃ ps, cut (Fold.fold l) = ps := ⟨_, rfl⟩
  have hne : ps ≠ [] := by obtain ⟨a, t, e⟩ := cut_cons (Fold.fold l); rw [← hps, e]; simp
  have hrp : ∀ p ∈ ps, rightsZ p = true := by rw [← hps]; exact cut_right (fold_right hr)
  rw [hps] at h1 h2 hlen ⊢
  have lc := fun p hp => label_clean (hrp p hp) (h2 p hp)
  obtain ⟨r1, f1, b1⟩ := again uniOf (qs := ps.map uniOf) rfl hne h1 hlen fun p hp => by
    obtain ⟨c1, c2, c3, c4, c5, c6, c7, c8, c9, -⟩ := lc p hp
    refine ⟨c2, c3, c5, fun e => ?_, c6, c7, c8⟩
    rw [e] at c6
    exact absurd c6 (by decide +kernel)
  obtain ⟨r2, f2, b2⟩ := again (fun p => Lab.chars (formA p)) (qs := ps.map fun p => Lab.chars (formA p)) rfl hne h1 hlen fun p hp => by
    obtain ⟨-, -, -, -, -, -, -, -, c9, c10, c11, c12, c13, c14, c15⟩ := lc p hp
    refine ⟨Lab.chars_right c10, c11, c12, fun e => ?_, c13, c14, c15⟩
    have := congrArg List.length e
    unfold Lab.chars at this
    rw [List.length_map] at this
    simp only [List.length_nil] at this
    omega
  have eu : encZ (dots (ps.map uniOf)) = bdots (ps.map formU) := by
    rw [enc_dots, List.map_map]
    congr 1
    exact List.map_congr_left fun p hp => (lc p hp).1.symm
  have ea : encZ (dots (ps.map fun p => Lab.chars (formA p))) = bdots (ps.map formA) := by
    rw [enc_dots, List.map_map]
    congr 1
    exact List.map_congr_left fun p hp => enc_bytes _ (lc p hp).2.2.2.2.2.2.2.2.2.1
  have hA : ∀ c ∈ bdots (ps.map formA), c.toNat < 128 := by
    have : ∀ qs : List (List Int), (∀ p ∈ qs, ∀ c ∈ formA p, c.toNat < 128) → ∀ c ∈ bdots (qs.map formA), c.toNat < 128 := by
      intro qs
      induction qs with
      | nil => intro _ c hc; cases hc
      | cons x t ih =>
        intro h c hc
        cases t with
        | nil => exact h x (by simp) c hc
        | cons y t =>
          have hc' : c ∈ formA x ++ 46 :: bdots ((y :: t).map formA) := hc
          rcases List.mem_append.1 hc' with hc | hc
          · exact h x (by simp) c hc
          · rcases List.mem_cons.1 hc with rfl | hc
            · decide
            · exact ih (fun p hp => h p (by simp only [List.mem_cons] at hp ⊢; exact .inr hp)) c hc
    exact this ps fun p hp => (lc p hp).2.2.2.2.2.2.2.2.2.1
  refine ⟨dots (ps.map uniOf), dots (ps.map fun p => Lab.chars (formA p)), eu.symm, r1, f1, ?_, by rw [← eu] at b1 ⊢; exact b1, ea.symm, r2, f2, ?_, by rw [← ea] at b2 ⊢; exact b2, ?_, hlen⟩
  · have := dots_len (ps.map uniOf) formA (fun q hq => by
      obtain ⟨p, hp, rfl⟩ := List.mem_map.1 hq
      obtain ⟨-, -, -, c4, -, -, c7, -⟩ := lc p hp
      rw [c7]; exact c4)
    rw [List.map_map, show ps.map (formA ∘ uniOf) = ps.map formA from List.map_congr_left fun p hp => (lc p hp).2.2.2.2.2.2.1] at this
    omega
  · have := congrArg List.length ea
    have h3 : (dots (ps.map fun p => Lab.chars (formA p))).length ≤ (encZ (dots (ps.map fun p => Lab.chars (formA p)))).length := by
      have : ∀ x : List Int, x.length ≤ (encZ x).length := by
        intro x
        induction x with
        | nil => exact Nat.le_refl _
        | cons y x ih =>
          have : 0 < (enc y.toNat).length := by
            unfold enc
            split
            · simp
            · split
              · simp
              · split <;> simp
          unfold encZ at ih ⊢
          rw [List.flatMap_cons, List.length_append, List.length_cons]
          omega
      exact this _
    omega
  · rcases Lab.eight_cases (bdots (ps.map formA)) with ⟨-, h⟩ | ⟨h, -⟩
    · exact h
    · rw [Lab.ascii_iff.2 hA] at h; cases h
/-- DomainParts: of two domains with a dot between. -/
theorem parts {s b x u y v : List UInt8} (hs : bothD s = (0, x, u)) (hb : bothD b = (0, y, v)) :
    ∃ L M : List (List Int), labelsE s = (0, L) ∧ labelsE b = (0, M) ∧ (bothD (s ++ 46 :: b)).1 = (if 32 < L.length + M.length then 2 else if 252 < x.length + y.length then 5 else 0) ∧
      (¬ 32 < L.length + M.length → ¬ 252 < x.length + y.length → (bothD (s ++ 46 :: b)).2.1 = x ++ 46 :: y) := by
  obtain ⟨l, hr, rfl, h0, h1, h2, rfl, rfl, hlen⟩ := both_is hs
  obtain ⟨m, kr, rfl, k0, k1, k2, rfl, rfl, klen⟩ := both_is hb
  obtain ⟨a1, t1, e1⟩ := cut_cons (Fold.fold l)
  obtain ⟨a2, t2, e2⟩ := cut_cons (Fold.fold m)
  have n1 : cut (Fold.fold l) ≠ [] := by rw [e1]; simp
  have n2 : cut (Fold.fold m) ≠ [] := by rw [e2]; simp
  have r : rightsZ (l ++ 46 :: m) = true := by
    unfold rightsZ at hr kr ⊢
    rw [List.all_append, hr, List.all_cons, kr]
    decide
  have hc : cut (Fold.fold (l ++ 46 :: m)) = cut (Fold.fold l) ++ cut (Fold.fold m) := by rw [fold_dot, cut_dot]
  have hne : Fold.fold (l ++ 46 :: m) ≠ [] := by rw [fold_dot]; simp
  have hA : bdots ((cut (Fold.fold (l ++ 46 :: m))).map formA) = bdots ((cut (Fold.fold l)).map formA) ++ 46 :: bdots ((cut (Fold.fold m)).map formA) := by
    rw [hc, List.map_append, bdots_app (by simpa using n1) (by simpa using n2)]
  refine ⟨cut (Fold.fold l), cut (Fold.fold m), by rw [labels_enc hr, if_neg h0, if_neg (by omega)], by rw [labels_enc kr, if_neg k0, if_neg (by omega)], ?_⟩
  rw [← enc_app]
  by_cases h32 : 32 < (cut (Fold.fold l)).length + (cut (Fold.fold m)).length
  · rw [if_pos h32]
    refine ⟨?_, fun h => absurd h32 h⟩
    unfold bothD
    rw [labels_enc r, if_neg hne, if_pos (show 32 < (cut (Fold.fold (l ++ 46 :: m))).length by rw [hc, List.length_append]; exact h32)]
    rfl
  · rw [if_neg h32]
    have hb := both_of r hne (by rw [hc, List.length_append]; omega) (by
      rw [hc]
      intro p hp
      rcases List.mem_append.1 hp with hp | hp
      · exact h2 p hp
      · exact k2 p hp)
    rw [hA] at hb
    rw [hb]
    by_cases h252 : 252 < (bdots ((cut (Fold.fold l)).map formA)).length + (bdots ((cut (Fold.fold m)).map formA)).length
    · rw [if_pos h252, if_pos (by rw [List.length_append, List.length_cons]; omega)]
      exact ⟨rfl, fun _ h => absurd h252 h⟩
    · rw [if_neg h252, if_neg (by rw [List.length_append, List.length_cons]; omega)]
      exact ⟨rfl, fun _ _ => rfl⟩
/-- DomainOne: a domain without a dot is its label. -/
theorem one {s : List UInt8} {L : List (List Int)} (h : labelsE s = (0, L)) (h1 : L.length = 1) : bothD s = Lab.bothE s := by
  unfold labelsE at h
  by_cases hz : (rdOf s).2 = -1
  · obtain ⟨hr, he⟩ := Lab.rd_is hz
    rw [if_pos hz] at h
    generalize ints (rdOf s).1 = l at h hr he
    subst he
    by_cases h3 : Fold.fold l = []
    · rw [if_pos h3] at h; injection h with e1 e2; exact absurd e1 (by decide)
    · rw [if_neg h3] at h
      by_cases h4 : 32 < (cut (Fold.fold l)).length
      · rw [if_pos h4] at h; injection h with e1 e2; exact absurd e1 (by decide)
      · rw [if_neg h4] at h
        injection h with e1 e2
        subst e2
        have hc := cut_one h1
        have hb : Lab.bothE (encZ (Fold.fold l)) = Lab.bothE (encZ l) := by rw [Lab.bothE_enc (fold_right hr), Lab.bothE_enc hr, Fold.fold_fold]
        obtain ⟨⟨E, A, V⟩, hE⟩ : ∃ z, Lab.bothE (encZ l) = z := ⟨_, rfl⟩
        have ha : formE (Fold.fold l) = E ∧ formA (Fold.fold l) = A ∧ formU (Fold.fold l) = V := by
          unfold formE formA formU
          rw [hb, hE]
          exact ⟨rfl, rfl, rfl⟩
        by_cases hE0 : E = 0
        · subst hE0
          rw [both_of hr h3 (by omega) (by rw [hc]; intro p hp; rw [List.mem_singleton.1 hp]; exact ha.1), hc]
          show (if 253 < (formA (Fold.fold l)).length then _ else ((0 : Int), formA (Fold.fold l), formU (Fold.fold l))) = _
          have hlen : A.length ≤ 63 := by
            have hL : Lab.bothL (Fold.fold l) = (0, A, V) := by rw [← Lab.bothE_enc hr]; exact hE
            obtain ⟨U, -, -, -, -, -, -, -, -, hl, -⟩ := Lab.clean (fold_right hr) (Fold.fold_fold l) hL
            exact hl
          rw [ha.2.1, ha.2.2, if_neg (by omega), hE]
        · obtain ⟨rfl, rfl⟩ := Lab.none_of hE hE0
          unfold bothD ofLabels
          rw [labels_enc hr, if_neg h3, if_neg h4]
          simp only
          rw [if_pos trivial, hc]
          have hfn : ([Fold.fold l].find? fun p => formE p != 0) = some (Fold.fold l) := by
            rw [List.find?_cons_of_pos (by rw [ha.1]; exact bne_iff_ne.2 hE0)]
          rw [hfn]
          simp only
          rw [ha.1, hE]
  · rw [if_neg hz] at h
    injection h with e1 e2
    exact absurd e1 (by decide)
end Dom
end Go.Proofs.YtbmgkfnoknomdaaGreat
