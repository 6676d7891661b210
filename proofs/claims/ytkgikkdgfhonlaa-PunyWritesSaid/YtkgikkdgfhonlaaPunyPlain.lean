/-
  PLAIN: numbers in digits by thresholds (Punycode): what is written is read as it was, and what is read was written so. Conditions: as they stand in each. Nothing of the program is imported here.
-/
namespace Go.Proofs.Ytkgikkdgfhonlaa
namespace Puny
/-- The threshold of k by a bias. -/
def thr (k b : Int) : Int := max 1 (min 26 (k - b))
theorem thr_bd (k b : Int) : 1 ≤ thr k b ∧ thr k b ≤ 26 := by unfold thr; omega
theorem thr_mono (k b : Int) : thr k b ≤ thr (k + 36) b := by unfold thr; omega
/-- A number in digits. -/
def digs : Nat → Int → Int → Int → List Int
  | 0, _, _, _ => []
  | f + 1, n, k, b => if n < thr k b then [n] else (thr k b + (n - thr k b) % (36 - thr k b)) :: digs f ((n - thr k b) / (36 - thr k b)) (k + 36) b
theorem less (n t : Int) (ht : 1 ≤ t) (ht' : t ≤ 26) (h : t ≤ n) : 0 ≤ (n - t) / (36 - t) ∧ ((n - t) / (36 - t)).toNat < n.toNat := by
  have h0 : 0 ≤ (n - t) / (36 - t) := Int.ediv_nonneg (by omega) (by omega)
  refine ⟨h0, ?_⟩
  have h1 : (n - t) / (36 - t) ≤ n - t := Int.ediv_le_self _ (by omega)
  omega
/-- How much fuel there is does not matter. -/
theorem digs_fuel : ∀ (f g : Nat) (n k b : Int), 0 ≤ n → n.toNat < f → n.toNat < g → digs f n k b = digs g n k b
  | 0, _, _, _, _, _, h, _ => by omega
  | _, 0, _, _, _, _, _, h => by omega
  | f + 1, g + 1, n, k, b, hn, hf, hg => by
    unfold digs
    have ht := thr_bd k b
    split
    · rfl
    · rename_i h
      obtain ⟨h0, h1⟩ := less n (thr k b) ht.1 ht.2 (by omega)
      rw [digs_fuel f g _ (k + 36) b h0 (by omega) (by omega)]
def digits (n k b : Int) : List Int := digs (n.toNat + 1) n k b
theorem digits_last {n k b : Int} (h : n < thr k b) : digits n k b = [n] := by unfold digits digs; rw [if_pos h]
theorem digits_more {n k b : Int} (h : thr k b ≤ n) : digits n k b = (thr k b + (n - thr k b) % (36 - thr k b)) :: digits ((n - thr k b) / (36 - thr k b)) (k + 36) b := by
  have ht := thr_bd k b
  obtain ⟨h0, h1⟩ := less n (thr k b) ht.1 ht.2 h
  unfold digits
  rw [digs, if_neg (by omega)]
  rw [digs_fuel n.toNat (((n - thr k b) / (36 - thr k b)).toNat + 1) _ (k + 36) b h0 h1 (by omega)]
def limit : Int := 2147483647
/-- A number that digits begin with, and how many these are. -/
def num (b : Int) : List Int → Int → Int → Int → Nat → Option (Int × Nat)
  | [], _, _, _, _ => none
  | d :: l, k, w, s, u => if limit < w ∨ limit < s + d * w then none else if d < thr k b then some (s + d * w, u + 1) else num b l (k + 36) (w * (36 - thr k b)) (s + d * w) (u + 1)
/-- The digit that is told, and what is left, make the number. -/
theorem parts (n t : Int) (ht : 1 ≤ t) (ht' : t ≤ 26) : n = (t + (n - t) % (36 - t)) + (36 - t) * ((n - t) / (36 - t)) ∧ t ≤ t + (n - t) % (36 - t) ∧ t + (n - t) % (36 - t) < 36 := by
  have h1 := Int.emod_add_mul_ediv (n - t) (36 - t)
  have h2 := Int.emod_nonneg (n - t) (show 36 - t ≠ 0 by omega)
  have h3 := Int.emod_lt_of_pos (n - t) (show 0 < 36 - t by omega)
  omega
theorem mul_parts (w n d t q s : Int) (h : n = d + (36 - t) * q) : s + n * w = (s + d * w) + q * (w * (36 - t)) := by
  subst h
  rw [Int.add_mul, ← Int.add_assoc]
  congr 1
  rw [Int.mul_comm (36 - t) q, Int.mul_assoc, Int.mul_comm (36 - t) w]
theorem weight_small (w t N : Int) (hN : N ≤ 126322567) (ht : 2 ≤ t) (ht' : t ≤ 26) (h : t * w ≤ N) : w * (36 - t) ≤ limit := by
  unfold limit
  have hc : t = 2 ∨ t = 3 ∨ t = 4 ∨ t = 5 ∨ t = 6 ∨ t = 7 ∨ t = 8 ∨ t = 9 ∨ t = 10 ∨ t = 11 ∨ t = 12 ∨ t = 13 ∨ t = 14 ∨ t = 15 ∨ t = 16 ∨ t = 17 ∨ t = 18 ∨ t = 19 ∨ t = 20 ∨ t = 21 ∨ t = 22 ∨ t = 23 ∨ t = 24 ∨ t = 25 ∨ t = 26 := by omega
  rcases hc with rfl | rfl | rfl | rfl | rfl | rfl | rfl | rfl | rfl | rfl | rfl | rfl | rfl | rfl | rfl | rfl | rfl | rfl | rfl | rfl | rfl | rfl | rfl | rfl | rfl <;> omega
theorem weight_pow : ∀ (j : Nat), (35 : Int) ^ j ≤ 126322567 → (35 : Int) ^ (j + 1) ≤ limit
  | 0, _ => by decide
  | 1, _ => by decide
  | 2, _ => by decide
  | 3, _ => by decide
  | 4, _ => by decide
  | 5, _ => by decide
  | j + 6, h => by
    exfalso
    have h1 : (1 : Int) ≤ 35 ^ j := Int.pow_pos (by decide)
    have h2 : (35 : Int) ^ (j + 6) = 35 ^ j * 1838265625 := by rw [Int.pow_add]; rfl
    rw [h2] at h
    have : (1838265625 : Int) ≤ 35 ^ j * 1838265625 := by
      have := Int.mul_le_mul_of_nonneg_right h1 (show (0 : Int) ≤ 1838265625 by decide)
      omega
    omega
/-- What is written is read as it was. -/
theorem num_digits (b N : Int) (hN : N ≤ 126322567) : ∀ (f : Nat) (n k w s : Int) (u : Nat) (rest : List Int), n.toNat < f → 0 ≤ n → 1 ≤ w → 0 ≤ s → s + n * w ≤ N → w ≤ limit → (thr k b = 1 → ∃ j : Nat, w = 35 ^ j) →
    num b (digits n k b ++ rest) k w s u = some (s + n * w, u + (digits n k b).length)
  | 0, _, _, _, _, _, _, hf, _, _, _, _, _, _ => by omega
  | f + 1, n, k, w, s, u, rest, hf, hn, hw, hs, hsum, hwl, hpow => by
    have ht := thr_bd k b
    have hlim : (N : Int) ≤ limit := by unfold limit; omega
    by_cases h : n < thr k b
    · rw [digits_last h]
      simp only [List.cons_append, List.nil_append, num]
      rw [if_neg (by omega), if_pos h]
      rfl
    · have h' : thr k b ≤ n := by omega
      obtain ⟨q0, q1⟩ := less n (thr k b) ht.1 ht.2 h'
      obtain ⟨p1, p2, p3⟩ := parts n (thr k b) ht.1 ht.2
      rw [digits_more h']
      generalize hd : thr k b + (n - thr k b) % (36 - thr k b) = d at p1 p2 p3 ⊢
      generalize hq : (n - thr k b) / (36 - thr k b) = q at p1 q0 q1 ⊢
      have e := mul_parts w n d (thr k b) q s p1
      have hw' : 1 ≤ w * (36 - thr k b) := Int.mul_pos (by omega) (by omega)
      have hdw : 0 ≤ d * w := Int.mul_nonneg (by omega) (by omega)
      have hqw : 0 ≤ q * (w * (36 - thr k b)) := Int.mul_nonneg q0 (by omega)
      have htw : thr k b * w ≤ N := by
        have := Int.mul_le_mul_of_nonneg_right h' (show 0 ≤ w by omega)
        omega
      have hwn : w * (36 - thr k b) ≤ limit := by
        by_cases ht1 : thr k b = 1
        · obtain ⟨j, rfl⟩ := hpow ht1
          rw [ht1] at htw ⊢
          have := weight_pow j (by omega)
          rw [Int.pow_succ] at this
          exact this
        · exact weight_small w (thr k b) N hN (by omega) ht.2 htw
      have ih := num_digits b N hN f q (k + 36) (w * (36 - thr k b)) (s + d * w) (u + 1) rest (by omega) q0 hw' (by omega) (by omega) hwn (fun h1 => by
        have := thr_mono k b
        have ht1 : thr k b = 1 := by omega
        obtain ⟨j, rfl⟩ := hpow ht1
        exact ⟨j + 1, by rw [ht1, Int.pow_succ]; rfl⟩)
      simp only [List.cons_append, num]
      rw [if_neg (by omega), if_neg (by omega), ih, e]
      simp only [List.length_cons, Option.some.injEq, Prod.mk.injEq, true_and]
      omega
/-- What is read was written so. -/
theorem num_back (b : Int) : ∀ (l : List Int) (k w s : Int) (u : Nat) (x : Int) (v : Nat), (∀ d ∈ l, 0 ≤ d ∧ d < 36) → num b l k w s u = some (x, v) →
    ∃ (n : Int) (m : Nat), 0 ≤ n ∧ x = s + n * w ∧ v = u + m ∧ m ≤ l.length ∧ 1 ≤ m ∧ l.take m = digits n k b
  | [], _, _, _, _, _, _, _, h => by cases h
  | d :: l, k, w, s, u, x, v, hl, h => by
    have ht := thr_bd k b
    have hd := hl d (by simp)
    unfold num at h
    split at h
    · cases h
    · split at h
      · rename_i hlt
        simp only [Option.some.injEq, Prod.mk.injEq] at h
        obtain ⟨rfl, rfl⟩ := h
        exact ⟨d, 1, hd.1, rfl, rfl, by simp, Nat.le_refl _, by rw [digits_last hlt]; rfl⟩
      · rename_i hge
        obtain ⟨q, m, hq, hx, hv, hm, hm1, htk⟩ := num_back b l _ _ _ _ _ _ (fun y hy => hl y (by simp [hy])) h
        have hpos : 0 < 36 - thr k b := by omega
        have hqt : 0 ≤ (36 - thr k b) * q := Int.mul_nonneg (by omega) hq
        refine ⟨d + (36 - thr k b) * q, m + 1, by omega, ?_, by omega, by simp only [List.length_cons]; omega, by omega, ?_⟩
        · rw [hx]
          exact (mul_parts w (d + (36 - thr k b) * q) d (thr k b) q s rfl).symm
        · have e1 : d + (36 - thr k b) * q - thr k b = (d - thr k b) + (36 - thr k b) * q := by omega
          have e2 : (d + (36 - thr k b) * q - thr k b) % (36 - thr k b) = d - thr k b := by
            rw [e1, Int.add_mul_emod_self_left]
            exact Int.emod_eq_of_lt (by omega) (by omega)
          have e3 : (d + (36 - thr k b) * q - thr k b) / (36 - thr k b) = q := by
            rw [e1, Int.add_mul_ediv_left _ _ (by omega), Int.ediv_eq_zero_of_lt (by omega) (by omega)]
            omega
          rw [digits_more (by omega), e2, e3, List.take_succ_cons, htk]
          congr 1
          omega
end Puny
end Go.Proofs.Ytkgikkdgfhonlaa
