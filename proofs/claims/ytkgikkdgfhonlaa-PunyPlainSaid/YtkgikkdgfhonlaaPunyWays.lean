/-
  PLAIN: characters as deltas (Punycode), and back: what is written by deltas is read as it was. Conditions: as they stand in each. Nothing of the program is imported here.
-/
import Derived.Test.YtkgikkdgfhonlaaPunyPlain
namespace Go.Proofs.Ytkgikkdgfhonlaa
namespace Puny
/-- The reader's state: what is laid, the character, the place. -/
structure Rd where
  out : List Int
  n : Int
  i : Int
/-- One delta is read. -/
def rstep (r : Rd) (d : Int) : Rd :=
  ⟨r.out.insertIdx ((r.i + d) % (r.out.length + 1)).toNat (r.n + (r.i + d) / (r.out.length + 1)), r.n + (r.i + d) / (r.out.length + 1), (r.i + d) % (r.out.length + 1) + 1⟩
def rall (r : Rd) (ds : List Int) : Rd := ds.foldl rstep r
/-- A row of the writer's at m: the deltas that are written, and the one that is left. -/
def row (m : Int) : List Int → Int → List Int × Int
  | [], e => ([], e)
  | x :: t, e => if x < m then row m t (e + 1) else if x = m then (e :: (row m t 0).1, (row m t 0).2) else row m t e
/-- Where the reader stands. -/
def spot (r : Rd) : Int := r.n * (r.out.length + 1) + r.i
def le (m : Int) (l : List Int) : List Int := l.filter fun x => decide (x ≤ m)
def lt (m : Int) (l : List Int) : List Int := l.filter fun x => decide (x < m)
theorem le_snoc (m : Int) (p : List Int) (x : Int) : le m (p ++ [x]) = if x ≤ m then le m p ++ [x] else le m p := by
  unfold le
  rw [List.filter_append]
  by_cases h : x ≤ m <;> simp [h]
theorem lt_cons (m : Int) (x : Int) (t : List Int) : lt m (x :: t) = if x < m then x :: lt m t else lt m t := by
  unfold lt
  by_cases h : x < m <;> simp [h]
theorem le_cons (m : Int) (x : Int) (t : List Int) : le m (x :: t) = if x ≤ m then x :: le m t else le m t := by
  unfold le
  by_cases h : x ≤ m <;> simp [h]
theorem insert_at (a b : List Int) (x : Int) : (a ++ b).insertIdx a.length x = a ++ x :: b := by
  induction a with
  | nil => simp
  | cons y a ih => simpa using ih
/-- What a reader that is told a writer's delta does. -/
theorem rstep_at (r : Rd) (a b : List Int) (m d : Int) (ho : r.out = a ++ b) (h : spot r + d = m * (r.out.length + 1) + a.length) : rstep r d = ⟨a ++ m :: b, m, a.length + 1⟩ := by
  have hlen : r.out.length = a.length + b.length := by rw [ho, List.length_append]
  have hc : (0 : Int) < (r.out.length : Int) + 1 := by omega
  have e : r.i + d = (a.length : Int) + ((r.out.length : Int) + 1) * (m - r.n) := by
    unfold spot at h
    rw [Int.mul_sub, Int.mul_comm _ m, Int.mul_comm _ r.n]
    omega
  have e1 : (r.i + d) % ((r.out.length : Int) + 1) = a.length := by
    rw [e, Int.add_mul_emod_self_left]
    exact Int.emod_eq_of_lt (by omega) (by omega)
  have e2 : (r.i + d) / ((r.out.length : Int) + 1) = m - r.n := by
    rw [e, Int.add_mul_ediv_left _ _ (by omega), Int.ediv_eq_zero_of_lt (by omega) (by omega)]
    omega
  unfold rstep
  rw [e1, e2, Int.toNat_natCast, show r.n + (m - r.n) = m by omega, ho, insert_at]
/-- A row is read as it was written. -/
theorem row_ok (m : Int) : ∀ (t p : List Int) (e : Int) (r : Rd), r.out = le m p ++ lt m t → spot r + e = m * (r.out.length + 1) + (le m p).length →
    (rall r (row m t e).1).out = le m (p ++ t) ∧ spot (rall r (row m t e).1) + (row m t e).2 = m * ((le m (p ++ t)).length + 1) + (le m (p ++ t)).length
  | [], p, e, r, ho, hs => by
    have ho' : r.out = le m p := by rw [ho]; simp [lt]
    rw [List.append_nil]
    show r.out = le m p ∧ spot r + e = _
    rw [hs, ho']
    exact ⟨rfl, rfl⟩
  | x :: t, p, e, r, ho, hs => by
    have hap : p ++ x :: t = (p ++ [x]) ++ t := by simp
    rw [hap]
    unfold row
    by_cases h1 : x < m
    · rw [if_pos h1]
      have hle : le m (p ++ [x]) = le m p ++ [x] := by rw [le_snoc, if_pos (by omega)]
      refine row_ok m t (p ++ [x]) (e + 1) r ?_ ?_
      · rw [ho, lt_cons, if_pos h1, hle]; simp
      · rw [hle, List.length_append, ← Int.add_assoc, hs]; simp; omega
    · rw [if_neg h1]
      by_cases h2 : x = m
      · subst h2
        rw [if_pos rfl]
        have hle : le x (p ++ [x]) = le x p ++ [x] := by rw [le_snoc, if_pos (by omega)]
        have ho2 : r.out = le x p ++ lt x t := by rw [ho, lt_cons, if_neg h1]
        have hst := rstep_at r (le x p) (lt x t) x e ho2 hs
        show (rall (rstep r e) (row x t 0).1).out = _ ∧ spot (rall (rstep r e) (row x t 0).1) + (row x t 0).2 = _
        rw [hst]
        refine row_ok x t (p ++ [x]) 0 _ ?_ ?_
        · rw [hle]; simp
        · unfold spot
          simp only [hle, List.length_append, List.length_cons, List.length_nil]
          omega
      · rw [if_neg h2]
        have hle : le m (p ++ [x]) = le m p := by rw [le_snoc, if_neg (by omega)]
        refine row_ok m t (p ++ [x]) e r ?_ ?_
        · rw [ho, lt_cons, if_neg h1, hle]
        · rw [hle, hs]
/-- The writer's rows, one behind the other, at characters that rise. -/
def rows (l : List Int) : List Int → Int → Int → List Int
  | [], _, _ => []
  | m :: ms, n, e => (row m l (e + (m - n) * ((lt n l).length + 1))).1 ++ rows l ms (m + 1) ((row m l (e + (m - n) * ((lt n l).length + 1))).2 + 1)
/-- ms are those of l from n on, that rise. -/
def Rises (l : List Int) : List Int → Int → Prop
  | [], n => ∀ x ∈ l, x < n
  | m :: ms, n => n ≤ m ∧ (∀ x ∈ l, x < n ∨ m ≤ x) ∧ Rises l ms (m + 1)
theorem lt_next (l : List Int) (m : Int) : lt (m + 1) l = le m l := by
  unfold lt le
  congr 1
  funext x
  rw [Bool.eq_iff_iff, decide_eq_true_eq, decide_eq_true_eq]
  omega
theorem lt_same {l : List Int} {n m : Int} (hnm : n ≤ m) (h : ∀ x ∈ l, x < n ∨ m ≤ x) : lt m l = lt n l := by
  unfold lt
  apply List.filter_congr
  intro x hx
  rw [Bool.eq_iff_iff, decide_eq_true_eq, decide_eq_true_eq]
  have := h x hx
  omega
theorem lt_all {l : List Int} {n : Int} (h : ∀ x ∈ l, x < n) : lt n l = l := by
  unfold lt
  rw [List.filter_eq_self]
  intro x hx
  simpa using h x hx
/-- All that is written by deltas is read as it was. -/
theorem rows_ok (l : List Int) : ∀ (ms : List Int) (n e : Int) (r : Rd), Rises l ms n → r.out = lt n l → spot r + e = n * (r.out.length + 1) → (rall r (rows l ms n e)).out = l
  | [], n, e, r, hr, ho, _ => by
    show r.out = l
    rw [ho, lt_all hr]
  | m :: ms, n, e, r, hr, ho, hs => by
    obtain ⟨h1, h2, h3⟩ := hr
    have hlt := lt_same h1 h2
    unfold rows
    rw [rall, List.foldl_append]
    have key := row_ok m l [] (e + (m - n) * ((lt n l).length + 1)) r (by rw [ho, hlt]; simp [le]) (by
      rw [← Int.add_assoc, hs, ho, Int.sub_mul]
      simp [le]
      omega)
    rw [List.nil_append] at key
    refine rows_ok l ms (m + 1) _ _ h3 (by rw [lt_next]; exact key.1) ?_
    have hk := key.2
    have hl := congrArg List.length key.1
    show spot (rall r _) + (_ + 1) = (m + 1) * ((rall r _).out.length + 1)
    rw [hl, ← Int.add_assoc, hk, Int.add_mul]
    omega
theorem insert_is : ∀ (l : List Int) (k : Nat) (x : Int), k ≤ l.length → l.insertIdx k x = l.take k ++ x :: l.drop k
  | _, 0, _, _ => by simp
  | [], k + 1, _, h => by simp at h
  | y :: l, k + 1, x, h => by
    have := insert_is l k x (by simpa using h)
    simpa using this
/-- What the reader's state keeps: all ahead of the place is not above n, all behind it is below. -/
def Kept2 (r : Rd) : Prop := ∃ A B : List Int, r.out = A ++ B ∧ r.i = A.length ∧ (∀ x ∈ A, x ≤ r.n) ∧ ∀ x ∈ B, x < r.n
/-- One step, from such a state: the new one stands last among the greatest. -/
theorem rstep_keeps {r : Rd} {d : Int} (h : Kept2 r) (hd : 0 ≤ d) : ∃ A B : List Int, (rstep r d).out = A ++ (rstep r d).n :: B ∧ r.out = A ++ B ∧ (rstep r d).i = A.length + 1 ∧ (∀ x ∈ A, x ≤ (rstep r d).n) ∧ (∀ x ∈ B, x < (rstep r d).n) ∧
    (rstep r d).n * (r.out.length + 1) + A.length = spot r + d := by
  obtain ⟨A, B, ho, hi, hA, hB⟩ := h
  have hlen : r.out.length = A.length + B.length := by rw [ho, List.length_append]
  have hc : (0 : Int) < (r.out.length : Int) + 1 := by omega
  have hm0 := Int.emod_nonneg (r.i + d) (show (r.out.length : Int) + 1 ≠ 0 by omega)
  have hm1 := Int.emod_lt_of_pos (r.i + d) hc
  have hdm := Int.emod_add_mul_ediv (r.i + d) ((r.out.length : Int) + 1)
  have hq0 : 0 ≤ (r.i + d) / ((r.out.length : Int) + 1) := Int.ediv_nonneg (by omega) (by omega)
  generalize hk : ((r.i + d) % ((r.out.length : Int) + 1)) = k at hm0 hm1 hdm
  generalize hq : ((r.i + d) / ((r.out.length : Int) + 1)) = q at hq0 hdm
  have hall : ∀ x ∈ r.out, x ≤ r.n := by
    intro x hx
    rw [ho, List.mem_append] at hx
    rcases hx with hx | hx
    · exact hA x hx
    · have := hB x hx; omega
  have hst : rstep r d = ⟨r.out.take k.toNat ++ (r.n + q) :: r.out.drop k.toNat, r.n + q, k + 1⟩ := by
    unfold rstep
    rw [hk, hq, insert_is _ _ _ (by omega)]
  rw [hst]
  refine ⟨r.out.take k.toNat, r.out.drop k.toNat, rfl, (List.take_append_drop _ _).symm, ?_, fun x hx => ?_, fun x hx => ?_, ?_⟩
  · simp only [List.length_take]; omega
  · have := hall x (List.mem_of_mem_take hx)
    simp only; omega
  · simp only
    by_cases hq1 : 1 ≤ q
    · have := hall x (List.mem_of_mem_drop hx)
      omega
    · have hqz : q = 0 := by omega
      subst hqz
      rw [Int.mul_zero] at hdm
      have hx' : x ∈ B := by
        rw [ho, List.drop_append] at hx
        rw [List.drop_of_length_le (by omega), List.nil_append] at hx
        exact List.mem_of_mem_drop hx
      have := hB x hx'
      omega
  · simp only [List.length_take, spot]
    rw [Int.add_mul, show ((min k.toNat r.out.length : Nat) : Int) = k by omega]
    have : ((r.out.length : Int) + 1) * q = q * ((r.out.length : Int) + 1) := Int.mul_comm _ _
    omega
theorem kept_next {r : Rd} {d : Int} (h : Kept2 r) (hd : 0 ≤ d) : Kept2 (rstep r d) := by
  obtain ⟨A, B, h1, -, h3, h4, h5, -⟩ := rstep_keeps h hd
  refine ⟨A ++ [(rstep r d).n], B, by rw [h1]; simp, by rw [h3]; simp, fun x hx => ?_, h5⟩
  rw [List.mem_append, List.mem_singleton] at hx
  rcases hx with hx | rfl
  · exact h4 x hx
  · exact Int.le_refl _
theorem kept_all : ∀ {ds : List Int} {r : Rd}, Kept2 r → (∀ d ∈ ds, 0 ≤ d) → Kept2 (rall r ds)
  | [], _, h, _ => h
  | d :: ds, r, h, hd => kept_all (ds := ds) (kept_next h (hd d (by simp))) fun x hx => hd x (by simp [hx])
theorem rall_len : ∀ (ds : List Int) (r : Rd), Kept2 r → (∀ d ∈ ds, 0 ≤ d) → (rall r ds).out.length = r.out.length + ds.length
  | [], _, _, _ => rfl
  | d :: ds, r, h, hd => by
    have h0 := hd d (by simp)
    obtain ⟨A, B, h1, h2, -⟩ := rstep_keeps h h0
    have := rall_len ds (rstep r d) (kept_next h h0) fun x hx => hd x (by simp [hx])
    show (rall (rstep r d) ds).out.length = _
    rw [this, h1, h2]
    simp only [List.length_append, List.length_cons]
    omega
/-- The last one of the greatest is told by the row. -/
theorem last_one {A B A' B' : List Int} {n n' : Int} (h : A ++ n :: B = A' ++ n' :: B') (hA : ∀ x ∈ A, x ≤ n) (hB : ∀ x ∈ B, x < n) (hA' : ∀ x ∈ A', x ≤ n') (hB' : ∀ x ∈ B', x < n') : A = A' ∧ n = n' ∧ B = B' := by
  have hn : n = n' := by
    have h1 : n ∈ A' ++ n' :: B' := by rw [← h]; simp
    have h2 : n' ∈ A ++ n :: B := by rw [h]; simp
    rw [List.mem_append, List.mem_cons] at h1 h2
    have g1 : n ≤ n' := by
      rcases h1 with h1 | h1 | h1
      · exact hA' n h1
      · omega
      · have := hB' n h1; omega
    have g2 : n' ≤ n := by
      rcases h2 with h2 | h2 | h2
      · exact hA n' h2
      · omega
      · have := hB n' h2; omega
    omega
  subst hn
  rcases List.append_eq_append_iff.1 h with ⟨C, rfl, hC⟩ | ⟨C, rfl, hC⟩
  · cases C with
    | nil => simp at hC; simp [hC]
    | cons y C =>
      simp only [List.cons_append, List.cons.injEq] at hC
      exfalso
      have := hB n (by rw [hC.2]; simp)
      omega
  · cases C with
    | nil => simp at hC; simp [hC]
    | cons y C =>
      simp only [List.cons_append, List.cons.injEq] at hC
      exfalso
      have := hB' n (by rw [hC.2]; simp)
      omega
/-- Deltas are told by what is read of them. -/
theorem rall_inj {r : Rd} (hr : Kept2 r) : ∀ (k : Nat) (ds es : List Int), ds.length = k → es.length = k → (∀ d ∈ ds, 0 ≤ d) → (∀ d ∈ es, 0 ≤ d) → (rall r ds).out = (rall r es).out → ds = es
  | 0, ds, es, h1, h2, _, _, _ => by rw [List.eq_nil_of_length_eq_zero h1, List.eq_nil_of_length_eq_zero h2]
  | k + 1, ds, es, h1, h2, hd, he, h => by
    rcases List.eq_nil_or_concat ds with rfl | ⟨ds, d, rfl⟩
    · simp at h1
    rcases List.eq_nil_or_concat es with rfl | ⟨es, e, rfl⟩
    · simp at h2
    simp only [List.concat_eq_append, List.length_append, List.length_cons, List.length_nil, List.mem_append, List.mem_singleton] at h1 h2 hd he h ⊢
    have kd := kept_all (r := r) (ds := ds) hr fun x hx => hd x (.inl hx)
    have ke := kept_all (r := r) (ds := es) hr fun x hx => he x (.inl hx)
    have ed : rall r (ds ++ [d]) = rstep (rall r ds) d := by unfold rall; rw [List.foldl_append]; rfl
    have ee : rall r (es ++ [e]) = rstep (rall r es) e := by unfold rall; rw [List.foldl_append]; rfl
    rw [ed, ee] at h
    obtain ⟨A, B, a1, a2, -, a4, a5, a6⟩ := rstep_keeps kd (hd d (.inr rfl))
    obtain ⟨A', B', b1, b2, -, b4, b5, b6⟩ := rstep_keeps ke (he e (.inr rfl))
    rw [a1, b1] at h
    obtain ⟨rfl, hn, rfl⟩ := last_one h a4 a5 b4 b5
    have hout : (rall r ds).out = (rall r es).out := by rw [a2, b2]
    obtain rfl := rall_inj hr k ds es (by omega) (by omega) (fun x hx => hd x (.inl hx)) (fun x hx => he x (.inl hx)) hout
    have hde : d = e := by
      rw [← hn] at b6
      omega
    rw [hde]
theorem row_nonneg (m : Int) : ∀ (t : List Int) (e : Int), 0 ≤ e → (∀ d ∈ (row m t e).1, 0 ≤ d) ∧ 0 ≤ (row m t e).2
  | [], _, h => ⟨(fun d hd => by cases hd), h⟩
  | x :: t, e, h => by
    unfold row
    split
    · exact row_nonneg m t (e + 1) (by omega)
    · split
      · obtain ⟨h1, h2⟩ := row_nonneg m t 0 (by omega)
        refine ⟨fun d hd => ?_, h2⟩
        rcases List.mem_cons.1 hd with rfl | hd
        · exact h
        · exact h1 d hd
      · exact row_nonneg m t e h
theorem rows_nonneg (l : List Int) : ∀ (ms : List Int) (n e : Int), Rises l ms n → 0 ≤ e → ∀ d ∈ rows l ms n e, 0 ≤ d
  | [], _, _, _, _ => fun d hd => by cases hd
  | m :: ms, n, e, hr, he => by
    obtain ⟨h1, -, h3⟩ := hr
    have h0 : 0 ≤ e + (m - n) * ((lt n l).length + 1) := by
      have := Int.mul_nonneg (show 0 ≤ m - n by omega) (show (0 : Int) ≤ ((lt n l).length : Int) + 1 by omega)
      omega
    obtain ⟨g1, g2⟩ := row_nonneg m l _ h0
    intro d hd
    unfold rows at hd
    rw [List.mem_append] at hd
    rcases hd with hd | hd
    · exact g1 d hd
    · exact rows_nonneg l ms (m + 1) _ h3 (by omega) d hd
/-- The reader at its start: plain ones alone. -/
def start (p : List Int) : Rd := ⟨p, 128, 0⟩
theorem start_kept {p : List Int} (h : ∀ x ∈ p, x < 128) : Kept2 (start p) := ⟨[], p, rfl, rfl, (fun x hx => by cases hx), h⟩
/-- What is written is read as it was. -/
theorem write_read (l ms : List Int) (h : Rises l ms 128) : (rall (start (lt 128 l)) (rows l ms 128 0)).out = l :=
  rows_ok l ms 128 0 _ h rfl (by simp [spot, start])
/-- What is read is written so. -/
theorem read_write {p ds l ms : List Int} (hp : ∀ x ∈ p, x < 128) (hd : ∀ d ∈ ds, 0 ≤ d) (hl : (rall (start p) ds).out = l) (hpl : lt 128 l = p) (h : Rises l ms 128) : rows l ms 128 0 = ds := by
  have hk := start_kept hp
  have hw := write_read l ms h
  rw [hpl] at hw
  have hn := rows_nonneg l ms 128 0 h (by omega)
  have l1 := rall_len (rows l ms 128 0) (start p) hk hn
  have l2 := rall_len ds (start p) hk hd
  rw [hw] at l1
  rw [hl] at l2
  exact rall_inj hk ds.length _ _ (by omega) rfl hn hd (by rw [hw, hl])
end Puny
end Go.Proofs.Ytkgikkdgfhonlaa
