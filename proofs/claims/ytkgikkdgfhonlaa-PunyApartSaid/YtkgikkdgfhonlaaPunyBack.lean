/-
  PLAIN: what is encoded is decoded as it was, and what is decoded is encoded so, but for the case of digits. Conditions: as they stand in each.
-/
import Derived.Test.YtkgikkdgfhonlaaPunyDec
namespace Go.Proofs.Ytkgikkdgfhonlaa
open Go.RowKit Utf
namespace Puny
/-- The number that a byte is the digit of. -/
def valB (c : UInt8) : Option Int := valOf (byteZ c)
theorem digB_toNat {n : Int} (h : 0 ≤ n ∧ n ≤ 35) : byteZ (digB n) = digN n := digB_val h
theorem valB_digB {n : Int} (h : 0 ≤ n ∧ n ≤ 35) : valB (digB n) = some n := by
  unfold valB
  rw [digB_toNat h]
  unfold digN
  by_cases h1 : n < 26
  · rw [if_pos h1]
    unfold valOf
    rw [if_pos (by omega)]
    congr 1
    omega
  · rw [if_neg h1]
    unfold valOf
    rw [if_neg (by omega), if_neg (by omega), if_pos (by omega)]
    congr 1
    omega
theorem digits_bd : ∀ (f : Nat) (n k b : Int), 0 ≤ n → n.toNat < f → ∀ x ∈ digits n k b, 0 ≤ x ∧ x ≤ 35
  | 0, _, _, _, _, h => by omega
  | f + 1, n, k, b, hn, hf => by
    have ht := thr_bd k b
    by_cases h : n < thr k b
    · rw [digits_last h]
      intro x hx
      rw [List.mem_singleton] at hx
      omega
    · have hl := less n (thr k b) ht.1 ht.2 (by omega)
      have hp := parts n (thr k b) ht.1 ht.2
      rw [digits_more (by omega)]
      intro x hx
      rcases List.mem_cons.1 hx with rfl | hx
      · omega
      · exact digits_bd f _ _ _ hl.1 (by omega) x hx
theorem emit_bd : ∀ (ds : List Int) (b c : Int) (f : Bool), (∀ d ∈ ds, 0 ≤ d) → ∀ x ∈ emit adapt ds b c f, 0 ≤ x ∧ x ≤ 35
  | [], _, _, _, _ => fun x hx => by cases hx
  | d :: ds, b, c, f, h => by
    intro x hx
    rw [emit_one] at hx
    rcases List.mem_append.1 hx with hx | hx
    · exact digits_bd (d.toNat + 1) d 36 b (h d (by simp)) (by omega) x hx
    · exact emit_bd ds _ _ _ (fun y hy => h y (by simp [hy])) x hx
theorem emit_len : ∀ (ds : List Int) (b c : Int) (f : Bool), ds.length ≤ (emit adapt ds b c f).length
  | [], _, _, _ => Nat.le_refl _
  | d :: ds, b, c, f => by
    rw [emit_one, List.length_append, List.length_cons]
    have := emit_len ds (adapt d (c + 1) f) (c + 1) false
    have := List.length_pos_iff.2 (digits_ne d 36 b)
    omega
theorem numB_num (b : Int) : ∀ (vs : List Int) (k w s : Int) (u : Nat), (∀ x ∈ vs, 0 ≤ x ∧ x ≤ 35) → numB b (vs.map digB) k w s u = num b vs k w s u
  | [], _, _, _, _, _ => rfl
  | x :: vs, k, w, s, u, h => by
    have hx := valB_digB (h x (by simp))
    unfold valB at hx
    have ih := fun k w s u => numB_num b vs k w s u (fun y hy => h y (by simp [hy]))
    rw [List.map_cons, numB, num, hx]
    simp only [ih]
theorem num_of_numB (b : Int) : ∀ (bs : List UInt8) (k w s : Int) (u : Nat) (x : Int) (v : Nat), numB b bs k w s u = some (x, v) →
    ∃ vs : List Int, (bs.take (v - u)).map valB = vs.map some ∧ num b vs k w s u = some (x, v) ∧ u + vs.length = v
  | [], _, _, _, _, _, _, h => by cases h
  | c :: l, k, w, s, u, x, v, h => by
    unfold numB at h
    cases hv : valOf (byteZ c) with
    | none => rw [hv] at h; cases h
    | some d =>
      rw [hv] at h
      simp only at h
      split at h
      · cases h
      · rename_i hlim
        split at h
        · rename_i ht
          have e := Option.some.inj h
          injection e with e1 e2
          subst e1 e2
          refine ⟨[d], ?_, ?_, by simp⟩
          · rw [show u + 1 - u = 1 by omega]
            simp [valB, hv]
          · rw [num, if_neg hlim, if_pos ht]
        · rename_i ht
          obtain ⟨vs, h1, h2, h3⟩ := num_of_numB b l _ _ _ _ _ _ h
          refine ⟨d :: vs, ?_, ?_, by simp only [List.length_cons]; omega⟩
          · rw [show v - u = (v - (u + 1)) + 1 by omega, List.take_succ_cons, List.map_cons, List.map_cons, h1]
            simp [valB, hv]
          · rw [num, if_neg hlim, if_neg ht, h2]
theorem valB_bd {c : UInt8} {d : Int} (h : valB c = some d) : 0 ≤ d ∧ d < 36 := by have := valOf_bd h; omega
theorem vals_bd {bs : List UInt8} {vs : List Int} (h : bs.map valB = vs.map some) : ∀ d ∈ vs, 0 ≤ d ∧ d < 36 := by
  intro d hd
  have : some d ∈ bs.map valB := by rw [h]; exact List.mem_map.2 ⟨d, hd, rfl⟩
  obtain ⟨c, -, hc⟩ := List.mem_map.1 this
  exact valB_bd hc
/-- A number that was read was written so. -/
theorem numB_back {b : Int} {bs : List UInt8} {d : Int} {m : Nat} (h : numB b bs 36 1 0 0 = some (d, m)) : 0 ≤ d ∧ 1 ≤ m ∧ m ≤ bs.length ∧ (bs.take m).map valB = (digits d 36 b).map some := by
  have hb := numB_bd b _ _ _ _ _ _ _ h (by decide) (by decide)
  obtain ⟨vs, h1, h2, h3⟩ := num_of_numB b _ _ _ _ _ _ _ h
  rw [Nat.sub_zero] at h1
  obtain ⟨n, j, hn, hx, hv, hj, -, ht⟩ := num_back b vs 36 1 0 0 d m (vals_bd h1) h2
  obtain rfl : d = n := by omega
  rw [List.take_of_length_le (by omega)] at ht
  rw [ht] at h1
  exact ⟨hn, by omega, by omega, h1⟩
theorem mem_insert {l : List Int} {k : Nat} {x y : Int} (hk : k ≤ l.length) (h : y ∈ l) : y ∈ l.insertIdx k x := by
  rw [insert_is l k x hk]
  rw [← List.take_append_drop k l] at h
  rcases List.mem_append.1 h with h | h
  · exact List.mem_append.2 (.inl h)
  · exact List.mem_append.2 (.inr (List.mem_cons_of_mem _ h))
theorem rstep_mem {r : Rd} {d : Int} : (rstep r d).n ∈ (rstep r d).out := by rw [rstep_out]; simp
theorem rstep_keep {r : Rd} {d y : Int} (h : y ∈ r.out) : y ∈ (rstep r d).out := by
  have h1 := Int.emod_nonneg (r.i + d) (b := r.out.length + 1) (by omega)
  have h2 := Int.emod_lt_of_pos (r.i + d) (b := r.out.length + 1) (by omega)
  exact mem_insert (by omega) h
theorem rall_keep : ∀ {ds : List Int} {r : Rd} {y : Int}, y ∈ r.out → y ∈ (rall r ds).out
  | [], _, _, h => h
  | _ :: ds, _, _, h => rall_keep (ds := ds) (rstep_keep h)
theorem rall_cons (r : Rd) (d : Int) (ds : List Int) : rall r (d :: ds) = rall (rstep r d) ds := rfl
/-- What deltas are written for is read of their digits. -/
theorem decL_emit : ∀ (ds : List Int) (r : Rd) (b : Int) (f : Bool) (fuel : Nat), (∀ d ∈ ds, 0 ≤ d) → 0 ≤ r.n → 0 ≤ r.i → r.out.length + ds.length ≤ 112 → (∀ x ∈ (rall r ds).out, rightZ x = true) → ds.length ≤ fuel →
    decL fuel (tailB ds b r.out.length f) b f r = some (rall r ds).out
  | [], r, b, f, fuel, _, _, _, _, _, _ => by unfold tailB emit; cases fuel <;> rfl
  | d :: ds, r, b, f, fuel, hd, hn, hi, hlen, hR, hf => by
    obtain ⟨k, rfl⟩ : ∃ k, fuel = k + 1 := ⟨fuel - 1, by simp only [List.length_cons] at hf; omega⟩
    have hd0 := hd d (by simp)
    have hn1 := hR _ (rall_keep (ds := ds) (rstep_mem (r := r) (d := d)))
    have hr1 := (rightZ_iff _).1 hn1
    have hL : r.out.length ≤ 111 := by simp only [List.length_cons] at hlen; omega
    have hq : (rstep r d).n = r.n + (r.i + d) / (r.out.length + 1) := rfl
    have hdm := Int.mul_ediv_add_emod (r.i + d) (r.out.length + 1)
    have hm1 := Int.emod_lt_of_pos (r.i + d) (b := r.out.length + 1) (by omega)
    have hm0 := Int.emod_nonneg (r.i + d) (b := r.out.length + 1) (by omega)
    have hqb : (r.i + d) / (r.out.length + 1) ≤ 1114111 := by omega
    have hqn : 0 ≤ (r.i + d) / (r.out.length + 1) := Int.ediv_nonneg (by omega) (by omega)
    have hmul : ((r.out.length : Int) + 1) * ((r.i + d) / (r.out.length + 1)) ≤ 112 * 1114111 := Int.mul_le_mul (by omega) hqb hqn (by decide)
    have hsum : r.i + d ≤ 126322567 := by omega
    have hok : okStep r d = true := by
      unfold okStep limit
      rw [← hq, hn1, decide_eq_true (by omega)]
      rfl
    have htl : tailB (d :: ds) b r.out.length f = digitsB d 36 b ++ tailB ds (adapt d ((r.out.length : Int) + 1) f) ((r.out.length : Int) + 1) false := tailB_one _ _ _ _ _
    have hval : ∀ x ∈ digits d 36 b ++ emit adapt ds (adapt d ((r.out.length : Int) + 1) f) ((r.out.length : Int) + 1) false, 0 ≤ x ∧ x ≤ 35 := by
      intro x hx
      rcases List.mem_append.1 hx with hx | hx
      · exact digits_bd (d.toNat + 1) d 36 b hd0 (by omega) x hx
      · exact emit_bd ds _ _ _ (fun y hy => hd y (by simp [hy])) x hx
    have hnum : numB b (tailB (d :: ds) b r.out.length f) 36 1 0 0 = some (d, (digitsB d 36 b).length) := by
      have h1 := num_digits b 126322567 (by decide) (d.toNat + 1) d 36 1 0 0 (emit adapt ds (adapt d ((r.out.length : Int) + 1) f) ((r.out.length : Int) + 1) false) (by omega) hd0 (by decide) (by decide) (by omega) (by decide) (fun _ => ⟨0, rfl⟩)
      rw [← numB_num b _ _ _ _ _ hval] at h1
      rw [show tailB (d :: ds) b r.out.length f = (digits d 36 b ++ emit adapt ds (adapt d ((r.out.length : Int) + 1) f) ((r.out.length : Int) + 1) false).map digB from rfl, h1]
      simp [digitsB]
    have hne : ∃ x l, tailB (d :: ds) b r.out.length f = x :: l := by
      cases hc : tailB (d :: ds) b r.out.length f with
      | nil =>
        have h1 := congrArg List.length hc
        rw [htl, List.length_append] at h1
        have h2 : (digitsB d 36 b).length = (digits d 36 b).length := by simp [digitsB]
        have h3 := List.length_pos_iff.2 (digits_ne d 36 b)
        simp only [List.length_nil] at h1
        omega
      | cons x l => exact ⟨x, l, rfl⟩
    obtain ⟨x, l, hxl⟩ := hne
    have hdrop : (tailB (d :: ds) b r.out.length f).drop (digitsB d 36 b).length = tailB ds (adapt d ((r.out.length : Int) + 1) f) ((r.out.length : Int) + 1) false := by rw [htl, List.drop_left]
    rw [hxl] at hnum hdrop ⊢
    rw [decL_more hnum hok, hdrop, rall_cons]
    have hl2 := rstep_len r d
    have ih := decL_emit ds (rstep r d) (adapt d ((r.out.length : Int) + 1) f) false k (fun y hy => hd y (by simp [hy])) (by omega) (by show 0 ≤ (r.i + d) % (r.out.length + 1) + 1; omega) (by rw [hl2]; simp only [List.length_cons] at hlen; omega) hR (by simp only [List.length_cons] at hf; omega)
    rw [hl2] at ih
    exact ih
end Puny
end Go.Proofs.Ytkgikkdgfhonlaa
