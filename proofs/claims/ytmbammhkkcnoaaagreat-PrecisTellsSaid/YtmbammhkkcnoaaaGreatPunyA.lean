/-
  PLAIN: numbers in digits by thresholds (Punycode): what is written is read as it was, and what is read was written so. Conditions: as they stand in each. Nothing of the program is imported here.
  PLAIN: deltas in digits, one behind the other, each by a bias out of those ahead of it; what is written is read as it was, and what is read was written so. Conditions: as they stand in each. Nothing of the program is imported here.
  PLAIN: characters as deltas (Punycode), and back: what is written by deltas is read as it was. Conditions: as they stand in each. Nothing of the program is imported here.
  PLAIN: what Encode writes, all of it: the characters that rise, the bytes; how each loop of a writer goes on. Conditions: as they stand in each. Nothing of the program is imported here.
-/
namespace Go.Proofs.YtmbammhkkcnoaaaGreat
namespace Puny
/-- The threshold of k by a bias. -/
def thr (k b : Int) : Int := max 1 (min 26 (k - b))
theorem thr_bd (k b : Int) : 1 ≤ thr k b ∧ thr k b ≤ 26 := by unfold thr; omega
theorem thr_mono (k b : Int) : thr k b ≤ thr (k + 36) b := by unfold thr; omega
/-- A number in digits. -/
def digs : Nat → Int → Int → Int → List Int
  | 0, _, _, _ => []
  | f + 1, n, k, b => if n < thr k b then [n] else (thr k b + (n - thr k b) % (36 - thr k b)) :: digs f ((n - thr k b) / (36 - thr k b)) (k + 36) b
theorem less (n t : Int) (ht : 1 ≤ t) (ht' : t ≤ 26) (h : t ≤ n) : 0 ≤ (n - t) / (36 - t) ∧ ((n - t) / (36 - t)).toNat < n.toNat := by
  have h0 : 0 ≤ (n - t) / (36 - t) := Int.ediv_nonneg (by omega) (by omega)
  refine ⟨h0, ?_⟩
  have h1 : (n - t) / (36 - t) ≤ n - t := Int.ediv_le_self _ (by omega)
  omega
/-- How much fuel there is does not matter. -/
theorem digs_fuel : ∀ (f g : Nat) (n k b : Int), 0 ≤ n → n.toNat < f → n.toNat < g → digs f n k b = digs g n k b
  | 0, _, _, _, _, _, h, _ => by omega
  | _, 0, _, _, _, _, _, h => by omega
  | f + 1, g + 1, n, k, b, hn, hf, hg => by
    unfold digs
    have ht := thr_bd k b
    split
    · rfl
    · rename_i h
      obtain ⟨h0, h1⟩ := less n (thr k b) ht.1 ht.2 (by omega)
      rw [digs_fuel f g _ (k + 36) b h0 (by omega) (by omega)]
def digits (n k b : Int) : List Int := digs (n.toNat + 1) n k b
theorem digits_last {n k b : Int} (h : n < thr k b) : digits n k b = [n] := by unfold digits digs; rw [if_pos h]
theorem digits_more {n k b : Int} (h : thr k b ≤ n) : digits n k b = (thr k b + (n - thr k b) % (36 - thr k b)) :: digits ((n - thr k b) / (36 - thr k b)) (k + 36) b := by
  have ht := thr_bd k b
  obtain ⟨h0, h1⟩ := less n (thr k b) ht.1 ht.2 h
  unfold digits
  rw [digs, if_neg (by omega)]
  rw [digs_fuel n.toNat (((n - thr k b) / (36 - thr k b)).toNat + 1) _ (k + 36) b h0 h1 (by omega)]
def limit : Int := 2147483647
/-- A number that digits begin with, and how many these are. -/
def num (b : Int) : List Int → Int → Int → Int → Nat → Option (Int × Nat)
  | [], _, _, _, _ => none
  | d :: l, k, w, s, u => if limit < w ∨ limit < s + d * w then none else if d < thr k b then some (s + d * w, u + 1) else num b l (k + 36) (w * (36 - thr k b)) (s + d * w) (u + 1)
/-- The digit that is told, and what is left, make the number. -/
theorem parts (n t : Int) (ht : 1 ≤ t) (ht' : t ≤ 26) : n = (t + (n - t) % (36 - t)) + (36 - t) * ((n - t) / (36 - t)) ∧ t ≤ t + (n - t) % (36 - t) ∧ t + (n - t) % (36 - t) < 36 := by
  have h1 := Int.emod_add_mul_ediv (n - t) (36 - t)
  have h2 := Int.emod_nonneg (n - t) (show 36 - t ≠ 0 by omega)
  have h3 := Int.emod_lt_of_pos (n - t) (show 0 < 36 - t by omega)
  omega
theorem mul_parts (w n d t q s : Int) (h : n = d + (36 - t) * q) : s + n * w = (s + d * w) + q * (w * (36 - t)) := by
  subst h
  rw [Int.add_mul, ← Int.add_assoc]
  congr 1
  rw [Int.mul_comm (36 - t) q, Int.mul_assoc, Int.mul_comm (36 - t) w]
theorem weight_small (w t N : Int) (hN : N ≤ 126322567) (ht : 2 ≤ t) (ht' : t ≤ 26) (h : t * w ≤ N) : w * (36 - t) ≤ limit := by
  unfold limit
  have hc : t = 2 ∨ t = 3 ∨ t = 4 ∨ t = 5 ∨ t = 6 ∨ t = 7 ∨ t = 8 ∨ t = 9 ∨ t = 10 ∨ t = 11 ∨ t = 12 ∨ t = 13 ∨ t = 14 ∨ t = 15 ∨ t = 16 ∨ t = 17 ∨ t = 18 ∨ t = 19 ∨ t = 20 ∨ t = 21 ∨ t = 22 ∨ t = 23 ∨ t = 24 ∨ t = 25 ∨ t = 26 := by omega
  rcases hc with rfl | rfl | rfl | rfl | rfl | rfl | rfl | rfl | rfl | rfl | rfl | rfl | rfl | rfl | rfl | rfl | rfl | rfl | rfl | rfl | rfl | rfl | rfl | rfl | rfl <;> omega
theorem weight_pow : ∀ (j : Nat), (35 : Int) ^ j ≤ 126322567 → (35 : Int) ^ (j + 1) ≤ limit
  | 0, _ => by decide
  | 1, _ => by decide
  | 2, _ => by decide
  | 3, _ => by decide
  | 4, _ => by decide
  | 5, _ => by decide
  | j + 6, h => by
    exfalso
    have h1 : (1 : Int) ≤ 35 ^ j := Int.pow_pos (by decide)
    have h2 : (35 : Int) ^ (j + 6) = 35 ^ j * 1838265625 := by rw [Int.pow_add]; rfl
    rw [h2] at h
    have : (1838265625 : Int) ≤ 35 ^ j * 1838265625 := by
      have := Int.mul_le_mul_of_nonneg_right h1 (show (0 : Int) ≤ 1838265625 by decide)
      omega
    omega
/-- What is written is read as it was. -/
theorem num_digits (b N : Int) (hN : N ≤ 126322567) : ∀ (f : Nat) (n k w s : Int) (u : Nat) (rest : List Int), n.toNat < f → 0 ≤ n → 1 ≤ w → 0 ≤ s → s + n * w ≤ N → w ≤ limit → (thr k b = 1 → ∃ j : Nat, w = 35 ^ j) →
    num b (digits n k b ++ rest) k w s u = some (s + n * w, u + (digits n k b).length)
  | 0, _, _, _, _, _, _, hf, _, _, _, _, _, _ => by omega
  | f + 1, n, k, w, s, u, rest, hf, hn, hw, hs, hsum, hwl, hpow => by
    have ht := thr_bd k b
    have hlim : (N : Int) ≤ limit := by unfold limit; omega
    by_cases h : n < thr k b
    · rw [digits_last h]
      simp only [List.cons_append, List.nil_append, num]
      rw [if_neg (by omega), if_pos h]
      rfl
    · have h' : thr k b ≤ n := by omega
      obtain ⟨q0, q1⟩ := less n (thr k b) ht.1 ht.2 h'
      obtain ⟨p1, p2, p3⟩ := parts n (thr k b) ht.1 ht.2
      rw [digits_more h']
      generalize hd : thr k b + (n - thr k b) % (36 - thr k b) = d at p1 p2 p3 ⊢
      generalize hq : (n - thr k b) / (36 - thr k b) = q at p1 q0 q1 ⊢
      have e := mul_parts w n d (thr k b) q s p1
      have hw' : 1 ≤ w * (36 - thr k b) := Int.mul_pos (by omega) (by omega)
      have hdw : 0 ≤ d * w := Int.mul_nonneg (by omega) (by omega)
      have hqw : 0 ≤ q * (w * (36 - thr k b)) := Int.mul_nonneg q0 (by omega)
      have htw : thr k b * w ≤ N := by
        have := Int.mul_le_mul_of_nonneg_right h' (show 0 ≤ w by omega)
        omega
      have hwn : w * (36 - thr k b) ≤ limit := by
        by_cases ht1 : thr k b = 1
        · obtain ⟨j, rfl⟩ := hpow ht1
          rw [ht1] at htw ⊢
          have := weight_pow j (by omega)
          rw [Int.pow_succ] at this
          exact this
        · exact weight_small w (thr k b) N hN (by omega) ht.2 htw
      have ih := num_digits b N hN f q (k + 36) (w * (36 - thr k b)) (s + d * w) (u + 1) rest (by omega) q0 hw' (by omega) (by omega) hwn (fun h1 => by
        have := thr_mono k b
        have ht1 : thr k b = 1 := by omega
        obtain ⟨j, rfl⟩ := hpow ht1
        exact ⟨j + 1, by rw [ht1, Int.pow_succ]; rfl⟩)
      simp only [List.cons_append, num]
      rw [if_neg (by omega), if_neg (by omega), ih, e]
      simp only [List.length_cons, Option.some.injEq, Prod.mk.injEq, true_and]
      omega
/-- What is read was written so. -/
theorem num_back (b : Int) : ∀ (l : List Int) (k w s : Int) (u : Nat) (x : Int) (v : Nat), (∀ d ∈ l, 0 ≤ d ∧ d < 36) → num b l k w s u = some (x, v) →
    ∃ (n : Int) (m : Nat), 0 ≤ n ∧ x = s + n * w ∧ v = u + m ∧ m ≤ l.length ∧ 1 ≤ m ∧ l.take m = digits n k b
  | [], _, _, _, _, _, _, _, h => by cases h
  | d :: l, k, w, s, u, x, v, hl, h => by
    have ht := thr_bd k b
    have hd := hl d (by simp)
    unfold num at h
    split at h
    · cases h
    · split at h
      · rename_i hlt
        simp only [Option.some.injEq, Prod.mk.injEq] at h
        obtain ⟨rfl, rfl⟩ := h
        exact ⟨d, 1, hd.1, rfl, rfl, by simp, Nat.le_refl _, by rw [digits_last hlt]; rfl⟩
      · rename_i hge
        obtain ⟨q, m, hq, hx, hv, hm, hm1, htk⟩ := num_back b l _ _ _ _ _ _ (fun y hy => hl y (by simp [hy])) h
        have hpos : 0 < 36 - thr k b := by omega
        have hqt : 0 ≤ (36 - thr k b) * q := Int.mul_nonneg (by omega) hq
        refine ⟨d + (36 - thr k b) * q, m + 1, by omega, ?_, by omega, by simp only [List.length_cons]; omega, by omega, ?_⟩
        · rw [hx]
          exact (mul_parts w (d + (36 - thr k b) * q) d (thr k b) q s rfl).symm
        · have e1 : d + (36 - thr k b) * q - thr k b = (d - thr k b) + (36 - thr k b) * q := by omega
          have e2 : (d + (36 - thr k b) * q - thr k b) % (36 - thr k b) = d - thr k b := by
            rw [e1, Int.add_mul_emod_self_left]
            exact Int.emod_eq_of_lt (by omega) (by omega)
          have e3 : (d + (36 - thr k b) * q - thr k b) / (36 - thr k b) = q := by
            rw [e1, Int.add_mul_ediv_left _ _ (by omega), Int.ediv_eq_zero_of_lt (by omega) (by omega)]
            omega
          rw [digits_more (by omega), e2, e3, List.take_succ_cons, htk]
          congr 1
          omega
end Puny
end Go.Proofs.YtmbammhkkcnoaaaGreat
namespace Go.Proofs.YtmbammhkkcnoaaaGreat
namespace Puny
theorem digits_ne (n k b : Int) : digits n k b ≠ [] := by
  by_cases h : n < thr k b
  · rw [digits_last h]; simp
  · rw [digits_more (by omega)]; simp
/-- ad: how a bias comes of a delta, a count, and whether it is the first. -/
def emit (ad : Int → Int → Bool → Int) : List Int → Int → Int → Bool → List Int
  | [], _, _, _ => []
  | d :: ds, b, c, f => digits d 36 b ++ emit ad ds (ad d (c + 1) f) (c + 1) false
def parse (ad : Int → Int → Bool → Int) : Nat → List Int → Int → Int → Bool → Option (List Int)
  | _, [], _, _, _ => some []
  | 0, _ :: _, _, _, _ => none
  | k + 1, x :: l, b, c, f => match num b (x :: l) 36 1 0 0 with
    | none => none
    | some (d, m) => (parse ad k ((x :: l).drop m) (ad d (c + 1) f) (c + 1) false).map (d :: ·)
theorem parse_emit (ad : Int → Int → Bool → Int) (N : Int) (hN : N ≤ 126322567) : ∀ (ds : List Int) (k : Nat) (b c : Int) (f : Bool), ds.length ≤ k → (∀ d ∈ ds, 0 ≤ d ∧ d ≤ N) → parse ad k (emit ad ds b c f) b c f = some ds
  | [], k, _, _, _, _, _ => by cases k <;> rfl
  | d :: ds, 0, _, _, _, h, _ => by simp at h
  | d :: ds, k + 1, b, c, f, h, hd => by
    have h0 := hd d (by simp)
    have ih := parse_emit ad N hN ds k (ad d (c + 1) f) (c + 1) false (by simpa using h) (fun x hx => hd x (by simp [hx]))
    have hnum := num_digits b N hN (d.toNat + 1) d 36 1 0 0 (emit ad ds (ad d (c + 1) f) (c + 1) false) (by omega) h0.1 (by omega) (by omega) (by omega) (by decide) (fun _ => ⟨0, rfl⟩)
    unfold emit
    obtain ⟨y, ys, hy⟩ : ∃ y ys, digits d 36 b = y :: ys := by
      cases e : digits d 36 b with
      | nil => exact absurd e (digits_ne d 36 b)
      | cons y ys => exact ⟨y, ys, rfl⟩
    have hdrop : (digits d 36 b ++ emit ad ds (ad d (c + 1) f) (c + 1) false).drop (0 + (digits d 36 b).length) = emit ad ds (ad d (c + 1) f) (c + 1) false := by simp
    rw [hy, List.cons_append] at hnum hdrop ⊢
    unfold parse
    rw [hnum]
    simp only
    rw [hdrop, show (0 : Int) + d * 1 = d by omega, ih]
    rfl
theorem emit_parse (ad : Int → Int → Bool → Int) : ∀ (k : Nat) (l : List Int) (b c : Int) (f : Bool) (ds : List Int), (∀ x ∈ l, 0 ≤ x ∧ x < 36) → parse ad k l b c f = some ds → l = emit ad ds b c f ∧ ∀ d ∈ ds, 0 ≤ d
  | _, [], _, _, _, ds, _, h => by
    have : ds = [] := by unfold parse at h; exact (Option.some.inj h).symm
    subst this
    exact ⟨rfl, fun d hd => by cases hd⟩
  | 0, _ :: _, _, _, _, _, _, h => by unfold parse at h; cases h
  | k + 1, x :: l, b, c, f, ds, hl, h => by
    unfold parse at h
    cases hn : num b (x :: l) 36 1 0 0 with
    | none => rw [hn] at h; cases h
    | some p =>
      obtain ⟨d, m⟩ := p
      rw [hn] at h
      simp only at h
      obtain ⟨n, m', h0, hx, hv, -, -, ht⟩ := num_back b (x :: l) 36 1 0 0 d m hl hn
      have e1 : d = n := by omega
      have e2 : m = m' := by omega
      subst e1 e2
      cases hp : parse ad k ((x :: l).drop m) (ad d (c + 1) f) (c + 1) false with
      | none => rw [hp] at h; cases h
      | some es =>
        rw [hp] at h
        have hds : ds = d :: es := (Option.some.inj h).symm
        obtain ⟨g1, g2⟩ := emit_parse ad k _ _ _ _ es (fun y hy => hl y (List.mem_of_mem_drop hy)) hp
        subst hds
        refine ⟨?_, fun y hy => ?_⟩
        · unfold emit
          rw [← ht, ← g1, List.take_append_drop]
        · rcases List.mem_cons.1 hy with rfl | hy
          · exact h0
          · exact g2 y hy
end Puny
end Go.Proofs.YtmbammhkkcnoaaaGreat
namespace Go.Proofs.YtmbammhkkcnoaaaGreat
namespace Puny
/-- The reader's state: what is laid, the character, the place. -/
structure Rd where
  out : List Int
  n : Int
  i : Int
/-- One delta is read. -/
def rstep (r : Rd) (d : Int) : Rd :=
  ⟨r.out.insertIdx ((r.i + d) % (r.out.length + 1)).toNat (r.n + (r.i + d) / (r.out.length + 1)), r.n + (r.i + d) / (r.out.length + 1), (r.i + d) % (r.out.length + 1) + 1⟩
def rall (r : Rd) (ds : List Int) : Rd := ds.foldl rstep r
/-- A row of the writer's at m: the deltas that are written, and the one that is left. -/
def row (m : Int) : List Int → Int → List Int × Int
  | [], e => ([], e)
  | x :: t, e => if x < m then row m t (e + 1) else if x = m then (e :: (row m t 0).1, (row m t 0).2) else row m t e
/-- Where the reader stands. -/
def spot (r : Rd) : Int := r.n * (r.out.length + 1) + r.i
def le (m : Int) (l : List Int) : List Int := l.filter fun x => decide (x ≤ m)
def lt (m : Int) (l : List Int) : List Int := l.filter fun x => decide (x < m)
theorem le_snoc (m : Int) (p : List Int) (x : Int) : le m (p ++ [x]) = if x ≤ m then le m p ++ [x] else le m p := by
  unfold le
  rw [List.filter_append]
  by_cases h : x ≤ m <;> simp [h]
theorem lt_cons (m : Int) (x : Int) (t : List Int) : lt m (x :: t) = if x < m then x :: lt m t else lt m t := by
  unfold lt
  by_cases h : x < m <;> simp [h]
theorem le_cons (m : Int) (x : Int) (t : List Int) : le m (x :: t) = if x ≤ m then x :: le m t else le m t := by
  unfold le
  by_cases h : x ≤ m <;> simp [h]
theorem insert_at (a b : List Int) (x : Int) : (a ++ b).insertIdx a.length x = a ++ x :: b := by
  induction a with
  | nil => simp
  | cons y a ih => simpa using ih
/-- What a reader that is told a writer's delta does. -/
theorem rstep_at (r : Rd) (a b : List Int) (m d : Int) (ho : r.out = a ++ b) (h : spot r + d = m * (r.out.length + 1) + a.length) : rstep r d = ⟨a ++ m :: b, m, a.length + 1⟩ := by
  have hlen : r.out.length = a.length + b.length := by rw [ho, List.length_append]
  have hc : (0 : Int) < (r.out.length : Int) + 1 := by omega
  have e : r.i + d = (a.length : Int) + ((r.out.length : Int) + 1) * (m - r.n) := by
    unfold spot at h
    rw [Int.mul_sub, Int.mul_comm _ m, Int.mul_comm _ r.n]
    omega
  have e1 : (r.i + d) % ((r.out.length : Int) + 1) = a.length := by
    rw [e, Int.add_mul_emod_self_left]
    exact Int.emod_eq_of_lt (by omega) (by omega)
  have e2 : (r.i + d) / ((r.out.length : Int) + 1) = m - r.n := by
    rw [e, Int.add_mul_ediv_left _ _ (by omega), Int.ediv_eq_zero_of_lt (by omega) (by omega)]
    omega
  unfold rstep
  rw [e1, e2, Int.toNat_natCast, show r.n + (m - r.n) = m by omega, ho, insert_at]
/-- A row is read as it was written. -/
theorem row_ok (m : Int) : ∀ (t p : List Int) (e : Int) (r : Rd), r.out = le m p ++ lt m t → spot r + e = m * (r.out.length + 1) + (le m p).length →
    (rall r (row m t e).1).out = le m (p ++ t) ∧ spot (rall r (row m t e).1) + (row m t e).2 = m * ((le m (p ++ t)).length + 1) + (le m (p ++ t)).length
  | [], p, e, r, ho, hs => by
    have ho' : r.out = le m p := by rw [ho]; simp [lt]
    rw [List.append_nil]
    show r.out = le m p ∧ spot r + e = _
    rw [hs, ho']
    exact ⟨rfl, rfl⟩
  | x :: t, p, e, r, ho, hs => by
    have hap : p ++ x :: t = (p ++ [x]) ++ t := by simp
    rw [hap]
    unfold row
    by_cases h1 : x < m
    · rw [if_pos h1]
      have hle : le m (p ++ [x]) = le m p ++ [x] := by rw [le_snoc, if_pos (by omega)]
      refine row_ok m t (p ++ [x]) (e + 1) r ?_ ?_
      · rw [ho, lt_cons, if_pos h1, hle]; simp
      · rw [hle, List.length_append, ← Int.add_assoc, hs]; simp; omega
    · rw [if_neg h1]
      by_cases h2 : x = m
      · subst h2
        rw [if_pos rfl]
        have hle : le x (p ++ [x]) = le x p ++ [x] := by rw [le_snoc, if_pos (by omega)]
        have ho2 : r.out = le x p ++ lt x t := by rw [ho, lt_cons, if_neg h1]
        have hst := rstep_at r (le x p) (lt x t) x e ho2 hs
        show (rall (rstep r e) (row x t 0).1).out = _ ∧ spot (rall (rstep r e) (row x t 0).1) + (row x t 0).2 = _
        rw [hst]
        refine row_ok x t (p ++ [x]) 0 _ ?_ ?_
        · rw [hle]; simp
        · unfold spot
          simp only [hle, List.length_append, List.length_cons, List.length_nil]
          omega
      · rw [if_neg h2]
        have hle : le m (p ++ [x]) = le m p := by rw [le_snoc, if_neg (by omega)]
        refine row_ok m t (p ++ [x]) e r ?_ ?_
        · rw [ho, lt_cons, if_neg h1, hle]
        · rw [hle, hs]
/-- The writer's rows, one behind the other, at characters that rise. -/
def rows (l : List Int) : List Int → Int → Int → List Int
  | [], _, _ => []
  | m :: ms, n, e => (row m l (e + (m - n) * ((lt n l).length + 1))).1 ++ rows l ms (m + 1) ((row m l (e + (m - n) * ((lt n l).length + 1))).2 + 1)
/-- ms are those of l from n on, that rise. -/
def Rises (l : List Int) : List Int → Int → Prop
  | [], n => ∀ x ∈ l, x < n
  | m :: ms, n => n ≤ m ∧ (∀ x ∈ l, x < n ∨ m ≤ x) ∧ Rises l ms (m + 1)
theorem lt_next (l : List Int) (m : Int) : lt (m + 1) l = le m l := by
  unfold lt le
  congr 1
  funext x
  rw [Bool.eq_iff_iff, decide_eq_true_eq, decide_eq_true_eq]
  omega
theorem lt_same {l : List Int} {n m : Int} (hnm : n ≤ m) (h : ∀ x ∈ l, x < n ∨ m ≤ x) : lt m l = lt n l := by
  unfold lt
  apply List.filter_congr
  intro x hx
  rw [Bool.eq_iff_iff, decide_eq_true_eq, decide_eq_true_eq]
  have := h x hx
  omega
theorem lt_all {l : List Int} {n : Int} (h : ∀ x ∈ l, x < n) : lt n l = l := by
  unfold lt
  rw [List.filter_eq_self]
  intro x hx
  simpa using h x hx
/-- All that is written by deltas is read as it was. -/
theorem rows_ok (l : List Int) : ∀ (ms : List Int) (n e : Int) (r : Rd), Rises l ms n → r.out = lt n l → spot r + e = n * (r.out.length + 1) → (rall r (rows l ms n e)).out = l
  | [], n, e, r, hr, ho, _ => by
    show r.out = l
    rw [ho, lt_all hr]
  | m :: ms, n, e, r, hr, ho, hs => by
    obtain ⟨h1, h2, h3⟩ := hr
    have hlt := lt_same h1 h2
    unfold rows
    rw [rall, List.foldl_append]
    have key := row_ok m l [] (e + (m - n) * ((lt n l).length + 1)) r (by rw [ho, hlt]; simp [le]) (by
      rw [← Int.add_assoc, hs, ho, Int.sub_mul]
      simp [le]
      omega)
    rw [List.nil_append] at key
    refine rows_ok l ms (m + 1) _ _ h3 (by rw [lt_next]; exact key.1) ?_
    have hk := key.2
    have hl := congrArg List.length key.1
    show spot (rall r _) + (_ + 1) = (m + 1) * ((rall r _).out.length + 1)
    rw [hl, ← Int.add_assoc, hk, Int.add_mul]
    omega
theorem insert_is : ∀ (l : List Int) (k : Nat) (x : Int), k ≤ l.length → l.insertIdx k x = l.take k ++ x :: l.drop k
  | _, 0, _, _ => by simp
  | [], k + 1, _, h => by simp at h
  | y :: l, k + 1, x, h => by
    have := insert_is l k x (by simpa using h)
    simpa using this
/-- What the reader's state keeps: all ahead of the place is not above n, all behind it is below. -/
def Kept2 (r : Rd) : Prop := ∃ A B : List Int, r.out = A ++ B ∧ r.i = A.length ∧ (∀ x ∈ A, x ≤ r.n) ∧ ∀ x ∈ B, x < r.n
/-- One step, from such a state: the new one stands last among the greatest. -/
theorem rstep_keeps {r : Rd} {d : Int} (h : Kept2 r) (hd : 0 ≤ d) : ∃ A B : List Int, (rstep r d).out = A ++ (rstep r d).n :: B ∧ r.out = A ++ B ∧ (rstep r d).i = A.length + 1 ∧ (∀ x ∈ A, x ≤ (rstep r d).n) ∧ (∀ x ∈ B, x < (rstep r d).n) ∧
    (rstep r d).n * (r.out.length + 1) + A.length = spot r + d := by
  obtain ⟨A, B, ho, hi, hA, hB⟩ := h
  have hlen : r.out.length = A.length + B.length := by rw [ho, List.length_append]
  have hc : (0 : Int) < (r.out.length : Int) + 1 := by omega
  have hm0 := Int.emod_nonneg (r.i + d) (show (r.out.length : Int) + 1 ≠ 0 by omega)
  have hm1 := Int.emod_lt_of_pos (r.i + d) hc
  have hdm := Int.emod_add_mul_ediv (r.i + d) ((r.out.length : Int) + 1)
  have hq0 : 0 ≤ (r.i + d) / ((r.out.length : Int) + 1) := Int.ediv_nonneg (by omega) (by omega)
  generalize hk : ((r.i + d) % ((r.out.length : Int) + 1)) = k at hm0 hm1 hdm
  generalize hq : ((r.i + d) / ((r.out.length : Int) + 1)) = q at hq0 hdm
  have hall : ∀ x ∈ r.out, x ≤ r.n := by
    intro x hx
    rw [ho, List.mem_append] at hx
    rcases hx with hx | hx
    · exact hA x hx
    · have := hB x hx; omega
  have hst : rstep r d = ⟨r.out.take k.toNat ++ (r.n + q) :: r.out.drop k.toNat, r.n + q, k + 1⟩ := by
    unfold rstep
    rw [hk, hq, insert_is _ _ _ (by omega)]
  rw [hst]
  refine ⟨r.out.take k.toNat, r.out.drop k.toNat, rfl, (List.take_append_drop _ _).symm, ?_, fun x hx => ?_, fun x hx => ?_, ?_⟩
  · simp only [List.length_take]; omega
  · have := hall x (List.mem_of_mem_take hx)
    simp only; omega
  · simp only
    by_cases hq1 : 1 ≤ q
    · have := hall x (List.mem_of_mem_drop hx)
      omega
    · have hqz : q = 0 := by omega
      subst hqz
      rw [Int.mul_zero] at hdm
      have hx' : x ∈ B := by
        rw [ho, List.drop_append] at hx
        rw [List.drop_of_length_le (by omega), List.nil_append] at hx
        exact List.mem_of_mem_drop hx
      have := hB x hx'
      omega
  · simp only [List.length_take, spot]
    rw [Int.add_mul, show ((min k.toNat r.out.length : Nat) : Int) = k by omega]
    have : ((r.out.length : Int) + 1) * q = q * ((r.out.length : Int) + 1) := Int.mul_comm _ _
    omega
theorem kept_next {r : Rd} {d : Int} (h : Kept2 r) (hd : 0 ≤ d) : Kept2 (rstep r d) := by
  obtain ⟨A, B, h1, -, h3, h4, h5, -⟩ := rstep_keeps h hd
  refine ⟨A ++ [(rstep r d).n], B, by rw [h1]; simp, by rw [h3]; simp, fun x hx => ?_, h5⟩
  rw [List.mem_append, List.mem_singleton] at hx
  rcases hx with hx | rfl
  · exact h4 x hx
  · exact Int.le_refl _
theorem kept_all : ∀ {ds : List Int} {r : Rd}, Kept2 r → (∀ d ∈ ds, 0 ≤ d) → Kept2 (rall r ds)
  | [], _, h, _ => h
  | d :: ds, r, h, hd => kept_all (ds := ds) (kept_next h (hd d (by simp))) fun x hx => hd x (by simp [hx])
theorem rall_len : ∀ (ds : List Int) (r : Rd), Kept2 r → (∀ d ∈ ds, 0 ≤ d) → (rall r ds).out.length = r.out.length + ds.length
  | [], _, _, _ => rfl
  | d :: ds, r, h, hd => by
    have h0 := hd d (by simp)
    obtain ⟨A, B, h1, h2, -⟩ := rstep_keeps h h0
    have := rall_len ds (rstep r d) (kept_next h h0) fun x hx => hd x (by simp [hx])
    show (rall (rstep r d) ds).out.length = _
    rw [this, h1, h2]
    simp only [List.length_append, List.length_cons]
    omega
/-- The last one of the greatest is told by the row. -/
theorem last_one {A B A' B' : List Int} {n n' : Int} (h : A ++ n :: B = A' ++ n' :: B') (hA : ∀ x ∈ A, x ≤ n) (hB : ∀ x ∈ B, x < n) (hA' : ∀ x ∈ A', x ≤ n') (hB' : ∀ x ∈ B', x < n') : A = A' ∧ n = n' ∧ B = B' := by
  have hn : n = n' := by
    have h1 : n ∈ A' ++ n' :: B' := by rw [← h]; simp
    have h2 : n' ∈ A ++ n :: B := by rw [h]; simp
    rw [List.mem_append, List.mem_cons] at h1 h2
    have g1 : n ≤ n' := by
      rcases h1 with h1 | h1 | h1
      · exact hA' n h1
      · omega
      · have := hB' n h1; omega
    have g2 : n' ≤ n := by
      rcases h2 with h2 | h2 | h2
      · exact hA n' h2
      · omega
      · have := hB n' h2; omega
    omega
  subst hn
  rcases List.append_eq_append_iff.1 h with ⟨C, rfl, hC⟩ | ⟨C, rfl, hC⟩
  · cases C with
    | nil => simp at hC; simp [hC]
    | cons y C =>
      simp only [List.cons_append, List.cons.injEq] at hC
      exfalso
      have := hB n (by rw [hC.2]; simp)
      omega
  · cases C with
    | nil => simp at hC; simp [hC]
    | cons y C =>
      simp only [List.cons_append, List.cons.injEq] at hC
      exfalso
      have := hB' n (by rw [hC.2]; simp)
      omega
/-- Deltas are told by what is read of them. -/
theorem rall_inj {r : Rd} (hr : Kept2 r) : ∀ (k : Nat) (ds es : List Int), ds.length = k → es.length = k → (∀ d ∈ ds, 0 ≤ d) → (∀ d ∈ es, 0 ≤ d) → (rall r ds).out = (rall r es).out → ds = es
  | 0, ds, es, h1, h2, _, _, _ => by rw [List.eq_nil_of_length_eq_zero h1, List.eq_nil_of_length_eq_zero h2]
  | k + 1, ds, es, h1, h2, hd, he, h => by
    rcases List.eq_nil_or_concat ds with rfl | ⟨ds, d, rfl⟩
    · simp at h1
    rcases List.eq_nil_or_concat es with rfl | ⟨es, e, rfl⟩
    · simp at h2
    simp only [List.concat_eq_append, List.length_append, List.length_cons, List.length_nil, List.mem_append, List.mem_singleton] at h1 h2 hd he h ⊢
    have kd := kept_all (r := r) (ds := ds) hr fun x hx => hd x (.inl hx)
    have ke := kept_all (r := r) (ds := es) hr fun x hx => he x (.inl hx)
    have ed : rall r (ds ++ [d]) = rstep (rall r ds) d := by unfold rall; rw [List.foldl_append]; rfl
    have ee : rall r (es ++ [e]) = rstep (rall r es) e := by unfold rall; rw [List.foldl_append]; rfl
    rw [ed, ee] at h
    obtain ⟨A, B, a1, a2, -, a4, a5, a6⟩ := rstep_keeps kd (hd d (.inr rfl))
    obtain ⟨A', B', b1, b2, -, b4, b5, b6⟩ := rstep_keeps ke (he e (.inr rfl))
    rw [a1, b1] at h
    obtain ⟨rfl, hn, rfl⟩ := last_one h a4 a5 b4 b5
    have hout : (rall r ds).out = (rall r es).out := by rw [a2, b2]
    obtain rfl := rall_inj hr k ds es (by omega) (by omega) (fun x hx => hd x (.inl hx)) (fun x hx => he x (.inl hx)) hout
    have hde : d = e := by
      rw [← hn] at b6
      omega
    rw [hde]
theorem row_nonneg (m : Int) : ∀ (t : List Int) (e : Int), 0 ≤ e → (∀ d ∈ (row m t e).1, 0 ≤ d) ∧ 0 ≤ (row m t e).2
  | [], _, h => ⟨(fun d hd => by cases hd), h⟩
  | x :: t, e, h => by
    unfold row
    split
    · exact row_nonneg m t (e + 1) (by omega)
    · split
      · obtain ⟨h1, h2⟩ := row_nonneg m t 0 (by omega)
        refine ⟨fun d hd => ?_, h2⟩
        rcases List.mem_cons.1 hd with rfl | hd
        · exact h
        · exact h1 d hd
      · exact row_nonneg m t e h
theorem rows_nonneg (l : List Int) : ∀ (ms : List Int) (n e : Int), Rises l ms n → 0 ≤ e → ∀ d ∈ rows l ms n e, 0 ≤ d
  | [], _, _, _, _ => fun d hd => by cases hd
  | m :: ms, n, e, hr, he => by
    obtain ⟨h1, -, h3⟩ := hr
    have h0 : 0 ≤ e + (m - n) * ((lt n l).length + 1) := by
      have := Int.mul_nonneg (show 0 ≤ m - n by omega) (show (0 : Int) ≤ ((lt n l).length : Int) + 1 by omega)
      omega
    obtain ⟨g1, g2⟩ := row_nonneg m l _ h0
    intro d hd
    unfold rows at hd
    rw [List.mem_append] at hd
    rcases hd with hd | hd
    · exact g1 d hd
    · exact rows_nonneg l ms (m + 1) _ h3 (by omega) d hd
/-- The reader at its start: plain ones alone. -/
def start (p : List Int) : Rd := ⟨p, 128, 0⟩
theorem start_kept {p : List Int} (h : ∀ x ∈ p, x < 128) : Kept2 (start p) := ⟨[], p, rfl, rfl, (fun x hx => by cases hx), h⟩
/-- What is written is read as it was. -/
theorem write_read (l ms : List Int) (h : Rises l ms 128) : (rall (start (lt 128 l)) (rows l ms 128 0)).out = l :=
  rows_ok l ms 128 0 _ h rfl (by simp [spot, start])
/-- What is read is written so. -/
theorem read_write {p ds l ms : List Int} (hp : ∀ x ∈ p, x < 128) (hd : ∀ d ∈ ds, 0 ≤ d) (hl : (rall (start p) ds).out = l) (hpl : lt 128 l = p) (h : Rises l ms 128) : rows l ms 128 0 = ds := by
  have hk := start_kept hp
  have hw := write_read l ms h
  rw [hpl] at hw
  have hn := rows_nonneg l ms 128 0 h (by omega)
  have l1 := rall_len (rows l ms 128 0) (start p) hk hn
  have l2 := rall_len ds (start p) hk hd
  rw [hw] at l1
  rw [hl] at l2
  exact rall_inj hk ds.length _ _ (by omega) rfl hn hd (by rw [hw, hl])
end Puny
end Go.Proofs.YtmbammhkkcnoaaaGreat
namespace Go.Proofs.YtmbammhkkcnoaaaGreat
namespace Puny
/-- The least one from n on, below m. -/
def least (n : Int) : List Int → Int → Int
  | [], m => m
  | x :: t, m => least n t (if n ≤ x ∧ x < m then x else m)
theorem least_le (n : Int) : ∀ (l : List Int) (m : Int), least n l m ≤ m
  | [], m => Int.le_refl _
  | x :: t, m => by
    unfold least
    have := least_le n t (if n ≤ x ∧ x < m then x else m)
    split at this
    · rename_i h; rw [if_pos h]; omega
    · rename_i h; rw [if_neg h]; exact this
theorem least_all (n : Int) : ∀ (l : List Int) (m : Int), ∀ x ∈ l, n ≤ x → least n l m ≤ x
  | [], _, x, hx, _ => by cases hx
  | y :: t, m, x, hx, hn => by
    unfold least
    rcases List.mem_cons.1 hx with rfl | hx
    · have := least_le n t (if n ≤ x ∧ x < m then x else m)
      by_cases h : n ≤ x ∧ x < m
      · rw [if_pos h] at this ⊢; exact this
      · rw [if_neg h] at this ⊢; omega
    · exact least_all n t _ x hx hn
theorem least_is (n : Int) : ∀ (l : List Int) (m : Int), least n l m = m ∨ (least n l m ∈ l ∧ n ≤ least n l m)
  | [], m => .inl rfl
  | y :: t, m => by
    unfold least
    by_cases h : n ≤ y ∧ y < m
    · rw [if_pos h]
      rcases least_is n t y with e | ⟨e1, e2⟩
      · exact .inr ⟨by rw [e]; simp, by rw [e]; exact h.1⟩
      · exact .inr ⟨by simp [e1], e2⟩
    · rw [if_neg h]
      rcases least_is n t m with e | ⟨e1, e2⟩
      · exact .inl e
      · exact .inr ⟨by simp [e1], e2⟩
theorem lt_len_le {n m : Int} (h : n ≤ m) : ∀ (l : List Int), (lt n l).length ≤ (lt m l).length
  | [] => Nat.le_refl _
  | x :: t => by
    have := lt_len_le h t
    rw [lt_cons, lt_cons]
    by_cases h1 : x < n
    · rw [if_pos h1, if_pos (by omega)]; simp only [List.length_cons]; omega
    · rw [if_neg h1]
      split
      · simp only [List.length_cons]; omega
      · exact this
theorem lt_len_less {n m : Int} (h : n ≤ m) : ∀ (l : List Int), m ∈ l → (lt n l).length < (lt (m + 1) l).length
  | [], hm => by cases hm
  | x :: t, hm => by
    rw [lt_cons, lt_cons]
    rcases List.mem_cons.1 hm with rfl | hm
    · rw [if_neg (by omega), if_pos (by omega), List.length_cons]
      have := lt_len_le (show n ≤ m + 1 by omega) t
      omega
    · have := lt_len_less h t hm
      by_cases h1 : x < n
      · rw [if_pos h1, if_pos (by omega)]; simp only [List.length_cons]; omega
      · rw [if_neg h1]
        split
        · simp only [List.length_cons]; omega
        · exact this
theorem lt_len (n : Int) (l : List Int) : (lt n l).length ≤ l.length := by unfold lt; exact List.length_filter_le _ _
theorem lt_full {n : Int} : ∀ {l : List Int}, (lt n l).length = l.length → ∀ x ∈ l, x < n
  | [], _, x, hx => by cases hx
  | y :: t, h, x, hx => by
    rw [lt_cons] at h
    have h0 := lt_len n t
    by_cases h1 : y < n
    · rw [if_pos h1] at h
      simp only [List.length_cons] at h
      rcases List.mem_cons.1 hx with rfl | hx
      · exact h1
      · exact lt_full (by omega) x hx
    · rw [if_neg h1, List.length_cons] at h
      omega
theorem lt_some {n : Int} : ∀ {l : List Int}, (lt n l).length ≠ l.length → ∃ x ∈ l, n ≤ x
  | [], h => absurd rfl h
  | y :: t, h => by
    rw [lt_cons] at h
    by_cases h1 : y < n
    · rw [if_pos h1] at h
      simp only [List.length_cons] at h
      obtain ⟨x, hx, hn⟩ := lt_some (l := t) (n := n) (by omega)
      exact ⟨x, by simp [hx], hn⟩
    · exact ⟨y, by simp, by omega⟩
/-- The characters from n on that rise. -/
def msF : Nat → List Int → Int → List Int
  | 0, _, _ => []
  | f + 1, l, n => if (lt n l).length = l.length then [] else least n l 1114112 :: msF f l (least n l 1114112 + 1)
theorem least_ok {l : List Int} {n : Int} (hl : ∀ x ∈ l, x < 1114112) (h : (lt n l).length ≠ l.length) : least n l 1114112 ∈ l ∧ n ≤ least n l 1114112 ∧ ∀ x ∈ l, x < n ∨ least n l 1114112 ≤ x := by
  obtain ⟨x, hx, hn⟩ := lt_some h
  have h1 := least_all n l 1114112 x hx hn
  rcases least_is n l 1114112 with e | ⟨e1, e2⟩
  · have := hl x hx; omega
  · refine ⟨e1, e2, fun y hy => ?_⟩
    by_cases hy1 : y < n
    · exact .inl hy1
    · exact .inr (least_all n l 1114112 y hy (by omega))
theorem msF_rises : ∀ (f : Nat) (l : List Int) (n : Int), (∀ x ∈ l, x < 1114112) → l.length - (lt n l).length ≤ f → Rises l (msF f l n) n
  | 0, l, n, hl, hf => by
    have := lt_len n l
    exact lt_full (by omega)
  | f + 1, l, n, hl, hf => by
    unfold msF
    by_cases h : (lt n l).length = l.length
    · rw [if_pos h]; exact lt_full h
    · rw [if_neg h]
      obtain ⟨h1, h2, h3⟩ := least_ok hl h
      have := lt_len_less h2 l h1
      exact ⟨h2, h3, msF_rises f l _ hl (by omega)⟩
/-- What Encode writes of l behind the plain ones, by its digits. -/
def deltas (l : List Int) : List Int := rows l (msF l.length l 128) 128 0
theorem deltas_rises (l : List Int) (hl : ∀ x ∈ l, x < 1114112) : Rises l (msF l.length l 128) 128 := msF_rises _ _ _ hl (by omega)
theorem emit_one (ad : Int → Int → Bool → Int) (d : Int) (ds : List Int) (b c : Int) (f : Bool) : emit ad (d :: ds) b c f = digits d 36 b ++ emit ad ds (ad d (c + 1) f) (c + 1) false := rfl
/-- What is left of a row and of those behind it. -/
def restOf (l ms : List Int) (m : Int) (t : List Int) (e : Int) : List Int := (row m t e).1 ++ rows l ms (m + 1) ((row m t e).2 + 1)
theorem rest_start (l ms : List Int) (m n e : Int) : rows l (m :: ms) n e = restOf l ms m l (e + (m - n) * ((lt n l).length + 1)) := rfl
theorem rest_less {l ms : List Int} {m x : Int} {t : List Int} {e : Int} (h : x < m) : restOf l ms m (x :: t) e = restOf l ms m t (e + 1) := by unfold restOf; rw [row, if_pos h]
theorem rest_same {l ms : List Int} {m : Int} {t : List Int} {e : Int} : restOf l ms m (m :: t) e = e :: restOf l ms m t 0 := by
  unfold restOf
  rw [row, if_neg (by omega), if_pos rfl]
  rfl
theorem rest_more {l ms : List Int} {m x : Int} {t : List Int} {e : Int} (h : m < x) : restOf l ms m (x :: t) e = restOf l ms m t e := by unfold restOf; rw [row, if_neg (by omega), if_neg (by omega)]
theorem rest_end (l ms : List Int) (m e : Int) : restOf l ms m [] e = rows l ms (m + 1) (e + 1) := rfl
end Puny
end Go.Proofs.YtmbammhkkcnoaaaGreat
