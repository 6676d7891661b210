/-
  PLAIN: what characters need around them. Conditions: as they stand in each. Nothing of the program is imported here.
-/
import Derived.Test.YtmbammhkkcnoaaaGreatTab
namespace Go.Proofs.YtmbammhkkcnoaaaGreat
namespace Ctx
/-- The character at a place; 0: there is none. -/
def at0 (l : List Int) (i : Int) : Int := if 0 ≤ i ∧ i < l.length then l[i.toNat]! else 0
def hard (x : Int) : Bool := joinOf x != 3
def ahead (l : List Int) (k : Nat) : Option Int := (l.take k).reverse.find? hard
def behind (l : List Int) (k : Nat) : Option Int := (l.drop k).find? hard
def both (o p : Option Int) : Bool := match o, p with | some x, some y => joinOf x == 1 && (joinOf y == 1 || joinOf y == 2) | _, _ => false
def joined (l : List Int) (k : Nat) : Bool := both (ahead l k) (behind l (k + 1))
def among (l : List Int) (lo hi : Int) : Bool := l.any fun x => decide (lo ≤ x) && decide (x ≤ hi)
def asian (l : List Int) : Bool := l.any fun x => scriptOf x == 7 || scriptOf x == 8
def needs (r : Int) : Bool := r == 8204 || r == 8205 || r == 183 || r == 885 || r == 1523 || r == 1524 || r == 12539 || (decide (1632 ≤ r) && decide (r ≤ 1641)) || (decide (1776 ≤ r) && decide (r ≤ 1785))
def virama (l : List Int) (k : Nat) : Bool := decide (0 < k) && clsOf (at0 l ((k : Int) - 1)) == 9
def met (l : List Int) (k : Nat) : Bool :=
  if l[k]! = 8205 then virama l k else if l[k]! = 8204 then virama l k || joined l k
  else if l[k]! = 183 then at0 l ((k : Int) - 1) == 108 && at0 l ((k : Int) + 1) == 108
  else if l[k]! = 885 then scriptOf (at0 l ((k : Int) + 1)) == 2
  else if l[k]! = 1523 ∨ l[k]! = 1524 then scriptOf (at0 l ((k : Int) - 1)) == 4
  else if l[k]! = 12539 then asian l
  else if l[k]! < 1700 then !among l 1776 1785 else !among l 1632 1641
def need (l : List Int) (k : Int) : Int := if 0 ≤ k ∧ k < l.length ∧ needs l[k.toNat]! = true then (if met l k.toNat then 1 else 2) else 0
def all (l : List Int) : Bool := (List.range l.length).all fun i => need l (i : Nat) != 2
theorem at0_in {l : List Int} {k : Nat} (h : k < l.length) : at0 l k = l[k]! := by unfold at0; rw [if_pos (by omega)]; simp
theorem at0_out {l : List Int} {i : Int} (h : i < 0 ∨ l.length ≤ i) : at0 l i = 0 := by unfold at0; rw [if_neg (by omega)]
theorem need_in {l : List Int} {k : Nat} (h : k < l.length) : need l k = if needs l[k]! = true then (if met l k then 1 else 2) else 0 := by
  unfold need
  rw [Int.toNat_natCast]
  by_cases hn : needs l[k]! = true
  · rw [if_pos ⟨by omega, by omega, hn⟩, if_pos hn]
  · rw [if_neg (fun h => hn h.2.2), if_neg hn]
theorem all_iff (l : List Int) : all l = true ↔ ∀ k, k < l.length → needs l[k]! = true → met l k = true := by
  unfold all
  rw [List.all_eq_true]
  constructor
  · intro h k hk hn
    have := h k (List.mem_range.2 hk)
    rw [need_in hk, if_pos hn] at this
    cases hm : met l k with
    | true => rfl
    | false => rw [hm] at this; simp at this
  · intro h k hk
    have hk := List.mem_range.1 hk
    rw [need_in hk]
    by_cases hn : needs l[k]! = true
    · rw [if_pos hn, h k hk hn]; rfl
    · rw [if_neg hn]; rfl
theorem all_no {l : List Int} {k : Nat} (hk : k < l.length) (hn : needs l[k]! = true) (hm : met l k = false) : all l = false := by
  cases h : all l with
  | false => rfl
  | true => have := (all_iff l).1 h k hk hn; rw [hm] at this; cases this
theorem all_none {l : List Int} (h : ∀ k, k < l.length → needs l[k]! = false) : all l = true := (all_iff l).2 fun k hk hn => by rw [h k hk] at hn; cases hn
theorem script_zero : scriptOf 0 ≠ 2 ∧ scriptOf 0 ≠ 4 := by decide +kernel
/-- A joiner may not stand first. -/
theorem first_no {l : List Int} (hl : 0 < l.length) (h : l[0]! = 8204 ∨ l[0]! = 8205 ∨ l[0]! = 183) : all l = false := by
  have hv : virama l 0 = false := rfl
  have hj : joined l 0 = false := by unfold joined ahead; simp [both]
  have ha : at0 l (((0 : Nat) : Int) - 1) = 0 := at0_out (.inl (by omega))
  refine all_no hl (by rcases h with h | h | h <;> rw [h] <;> decide) ?_
  unfold met
  rcases h with h | h | h <;> rw [h]
  · rw [if_neg (by decide), if_pos rfl, hv, hj]; rfl
  · rw [if_pos rfl, hv]
  · rw [if_neg (by decide), if_neg (by decide), if_pos rfl, ha]; rfl
/-- Nor last, but behind what takes a vowel away; nor may a sign that looks behind. -/
theorem last_no {l : List Int} {k : Nat} (hk : k + 1 = l.length) (h : l[k]! = 183 ∨ l[k]! = 885 ∨ ((l[k]! = 8204 ∨ l[k]! = 8205) ∧ (k = 0 ∨ clsOf l[k - 1]! ≠ 9))) : all l = false := by
  have ha : at0 l ((k : Int) + 1) = 0 := at0_out (.inr (by omega))
  have hj : joined l k = false := by unfold joined behind; rw [List.drop_of_length_le (by omega)]; unfold both; simp
  refine all_no (k := k) (by omega) (by rcases h with h | h | ⟨h | h, -⟩ <;> rw [h] <;> decide) ?_
  unfold met
  rcases h with h | h | ⟨h, h2⟩
  · rw [h, if_neg (by decide), if_neg (by decide), if_pos rfl, ha, Bool.and_eq_false_iff]; exact .inr (by decide)
  · rw [h, if_neg (by decide), if_neg (by decide), if_neg (by decide), if_pos rfl, ha]; simpa using script_zero.1
  · have hv : virama l k = false := by
      unfold virama
      rcases h2 with rfl | h2
      · rfl
      · by_cases h0 : k = 0
        · subst h0; rfl
        · rw [show ((k : Int) - 1) = ((k - 1 : Nat) : Int) by omega, at0_in (by omega), Bool.and_eq_false_iff]
          exact .inr (beq_eq_false_iff_ne.2 h2)
    rcases h with h | h <;> rw [h]
    · rw [if_neg (by decide), if_pos rfl, hv, hj]; rfl
    · rw [if_pos rfl, hv]
/-- Digits of the two kinds of Arabic. -/
theorem digits {l : List Int} (h : ∀ x ∈ l, (1632 ≤ x ∧ x ≤ 1641) ∨ (1776 ≤ x ∧ x ≤ 1785)) : all l = !(among l 1632 1641 && among l 1776 1785) := by
  have hx : ∀ k, k < l.length → (1632 ≤ l[k]! ∧ l[k]! ≤ 1641) ∨ (1776 ≤ l[k]! ∧ l[k]! ≤ 1785) := fun k hk => by
    rw [getElem!_pos l k hk]; exact h _ (List.getElem_mem hk)
  have hn : ∀ k, k < l.length → needs l[k]! = true := fun k hk => by
    unfold needs
    rcases hx k hk with ⟨a, b⟩ | ⟨a, b⟩
    · rw [decide_eq_true a, decide_eq_true b]; simp
    · rw [decide_eq_true a, decide_eq_true b]; simp
  have hm : ∀ k, k < l.length → met l k = if l[k]! < 1700 then !among l 1776 1785 else !among l 1632 1641 := fun k hk => by
    unfold met
    have := hx k hk
    rw [if_neg (by omega), if_neg (by omega), if_neg (by omega), if_neg (by omega), if_neg (by omega), if_neg (by omega)]
  have some_at : ∀ lo hi, among l lo hi = true → ∃ k, k < l.length ∧ lo ≤ l[k]! ∧ l[k]! ≤ hi := fun lo hi ha => by
    unfold among at ha
    obtain ⟨x, hxm, hb⟩ := List.any_eq_true.1 ha
    obtain ⟨k, hk, he⟩ := List.getElem_of_mem hxm
    rw [Bool.and_eq_true, decide_eq_true_eq, decide_eq_true_eq] at hb
    exact ⟨k, hk, by rw [getElem!_pos l k hk, he]; exact hb⟩
  cases h1 : among l 1632 1641 with
  | false =>
    refine (all_iff l).2 fun k hk _ => ?_
    rw [hm k hk, h1]
    have : ¬ l[k]! < 1700 := fun hlt => by
      have : among l 1632 1641 = true := by
        unfold among
        refine List.any_eq_true.2 ⟨l[k]!, by rw [getElem!_pos l k hk]; exact List.getElem_mem hk, ?_⟩
        have := hx k hk
        rw [Bool.and_eq_true, decide_eq_true_eq, decide_eq_true_eq]
        omega
      rw [h1] at this; cases this
    rw [if_neg this]; rfl
  | true =>
    cases h2 : among l 1776 1785 with
    | false =>
      refine (all_iff l).2 fun k hk _ => ?_
      rw [hm k hk, h2]
      have : l[k]! < 1700 := Classical.byContradiction fun hlt => by
        have : among l 1776 1785 = true := by
          unfold among
          refine List.any_eq_true.2 ⟨l[k]!, by rw [getElem!_pos l k hk]; exact List.getElem_mem hk, ?_⟩
          have := hx k hk
          rw [Bool.and_eq_true, decide_eq_true_eq, decide_eq_true_eq]
          omega
        rw [h2] at this; cases this
      rw [if_pos this]; rfl
    | true =>
      obtain ⟨k, hk, h3, h4⟩ := some_at _ _ h1
      refine all_no hk (hn k hk) ?_
      rw [hm k hk, if_pos (by omega), h2]; rfl
theorem get_app {l t : List Int} {k : Nat} (h : k < l.length) : (l ++ t)[k]! = l[k]! := by
  rw [getElem!_pos (l ++ t) k (by rw [List.length_append]; omega), getElem!_pos l k h, List.getElem_append_left h]
theorem get_app2 {l t : List Int} {k : Nat} (h : k < t.length) : (l ++ t)[l.length + k]! = t[k]! := by
  rw [getElem!_pos (l ++ t) (l.length + k) (by rw [List.length_append]; omega), getElem!_pos t k h, List.getElem_append_right (by omega)]
  congr 1
  omega
theorem at0_app {l t : List Int} {i : Int} (h : i < l.length) : at0 (l ++ t) i = at0 l i := by
  by_cases h0 : 0 ≤ i
  · obtain ⟨k, rfl⟩ : ∃ k : Nat, i = k := ⟨i.toNat, by omega⟩
    rw [at0_in (by rw [List.length_append]; omega), at0_in (by omega), get_app (by omega)]
  · rw [at0_out (.inl (by omega)), at0_out (.inl (by omega))]
theorem virama_app {l t : List Int} {k : Nat} (h : k < l.length) : virama (l ++ t) k = virama l k := by
  unfold virama
  rw [at0_app (by omega)]
theorem ahead_app {l t : List Int} {k : Nat} (h : k < l.length) : ahead (l ++ t) k = ahead l k := by
  unfold ahead
  rw [List.take_append_of_le_length (by omega)]
theorem behind_app {l t : List Int} {k : Nat} (h : k ≤ l.length) : behind (l ++ t) k = (behind l k).or (t.find? hard) := by
  unfold behind
  rw [List.drop_append_of_le_length h, List.find?_append]
theorem among_app (l t : List Int) (lo hi : Int) : among (l ++ t) lo hi = (among l lo hi || among t lo hi) := by unfold among; rw [List.any_append]
theorem asian_app (l t : List Int) : asian (l ++ t) = (asian l || asian t) := by unfold asian; rw [List.any_append]
/-- Letters and digits of ASCII. -/
def latin (t : List Int) : Prop := ∀ x ∈ t, (97 ≤ x ∧ x ≤ 122) ∨ (48 ≤ x ∧ x ≤ 57)
theorem latin_among {t : List Int} (h : latin t) {lo hi : Int} (hlo : 123 ≤ lo) : among t lo hi = false := by
  unfold among
  rw [List.any_eq_false]
  intro x hx
  have := h x hx
  simp
  omega
theorem latin_needs {x : Int} (h : (97 ≤ x ∧ x ≤ 122) ∨ (48 ≤ x ∧ x ≤ 57)) : needs x = false := by
  unfold needs
  rw [decide_eq_false (p := 1632 ≤ x) (by omega), decide_eq_false (p := 1776 ≤ x) (by omega)]
  simp
  omega
/-- What has what it needs has it still when letters of other scripts are put behind. -/
theorem parts {l t : List Int} (ht : latin t) (h : all l = true) : all (l ++ t) = true := by
  rw [all_iff] at h ⊢
  intro k hk hn
  by_cases hkl : k < l.length
  · rw [get_app hkl] at hn
    have hm := h k hkl hn
    unfold met at hm ⊢
    rw [get_app hkl, virama_app hkl, at0_app (show ((k : Int) - 1) < l.length by omega)]
    by_cases h1 : l[k]! = 8205
    · rwa [if_pos h1] at hm ⊢
    rw [if_neg h1] at hm ⊢
    by_cases h2 : l[k]! = 8204
    · rw [if_pos h2] at hm ⊢
      cases hv : virama l k with
      | true => rfl
      | false =>
        rw [hv, Bool.false_or] at hm
        rw [Bool.false_or]
        unfold joined at hm ⊢
        rw [ahead_app hkl, behind_app (by omega)]
        cases hb : behind l (k + 1) with
        | none => rw [hb] at hm; unfold both at hm; simp at hm
        | some y => rw [hb] at hm; exact hm
    rw [if_neg h2] at hm ⊢
    by_cases h3 : l[k]! = 183
    · rw [if_pos h3] at hm ⊢
      by_cases hl2 : k + 1 < l.length
      · rwa [at0_app (by omega)]
      · rw [at0_out (i := (k : Int) + 1) (.inr (by omega))] at hm
        simp at hm
    rw [if_neg h3] at hm ⊢
    by_cases h4 : l[k]! = 885
    · rw [if_pos h4] at hm ⊢
      by_cases hl2 : k + 1 < l.length
      · rwa [at0_app (by omega)]
      · rw [at0_out (i := (k : Int) + 1) (.inr (by omega))] at hm
        exact absurd (by simpa using hm) script_zero.1
    rw [if_neg h4] at hm ⊢
    by_cases h5 : l[k]! = 1523 ∨ l[k]! = 1524
    · rwa [if_pos h5] at hm ⊢
    rw [if_neg h5] at hm ⊢
    by_cases h6 : l[k]! = 12539
    · rw [if_pos h6] at hm ⊢
      rw [asian_app, hm]; rfl
    rw [if_neg h6] at hm ⊢
    rw [among_app, among_app, latin_among ht (by decide), latin_among ht (by decide), Bool.or_false, Bool.or_false]
    exact hm
  · obtain ⟨j, rfl⟩ : ∃ j, k = l.length + j := ⟨k - l.length, by omega⟩
    rw [List.length_append] at hk
    rw [get_app2 (by omega), getElem!_pos t j (by omega)] at hn
    rw [latin_needs (ht _ (List.getElem_mem _))] at hn
    cases hn
theorem dots_facts : hard 108 = true ∧ joinOf 108 = 0 ∧ scriptOf 108 ≠ 2 ∧ asian [108, 183, 108] = false ∧ needs 108 = false ∧ needs 183 = true := by decide +kernel
/-- A middle dot between two l behind anything but a dot. -/
theorem dots {l : List Int} (h : ∀ k, k + 1 = l.length → l[k]! ≠ 183) : all (l ++ [108, 183, 108]) = all l ∧ need (l ++ [108, 183, 108]) ((l.length : Int) + 1) = 1 := by
  obtain ⟨f1, f2, f3, f4, f5, f6⟩ := dots_facts
  have g0 : (l ++ [108, 183, 108])[l.length]! = 108 := get_app2 (l := l) (t := [108, 183, 108]) (k := 0) (by decide)
  have g1 : (l ++ [108, 183, 108])[l.length + 1]! = 183 := get_app2 (l := l) (t := [108, 183, 108]) (k := 1) (by decide)
  have g2 : (l ++ [108, 183, 108])[l.length + 2]! = 108 := get_app2 (l := l) (t := [108, 183, 108]) (k := 2) (by decide)
  have hlen : (l ++ [108, 183, 108]).length = l.length + 3 := by rw [List.length_append]; rfl
  have hmet : met (l ++ [108, 183, 108]) (l.length + 1) = true := by
    unfold met
    rw [g1, if_neg (by decide), if_neg (by decide), if_pos rfl, show ((l.length + 1 : Nat) : Int) - 1 = ((l.length : Nat) : Int) by omega, show ((l.length + 1 : Nat) : Int) + 1 = ((l.length + 2 : Nat) : Int) by omega, at0_in (by omega), at0_in (by omega), g0, g2]
    rfl
  have same : ∀ k, k < l.length → met (l ++ [108, 183, 108]) k = met l k := by
    intro k hkl
    unfold met
    rw [get_app hkl, virama_app hkl, at0_app (show ((k : Int) - 1) < l.length by omega)]
    by_cases h1 : l[k]! = 8205
    · rw [if_pos h1, if_pos h1]
    rw [if_neg h1, if_neg h1]
    by_cases h2 : l[k]! = 8204
    · rw [if_pos h2, if_pos h2]
      congr 1
      unfold joined
      rw [ahead_app hkl, behind_app (by omega)]
      cases hb : behind l (k + 1) with
      | some y => rfl
      | none =>
        rw [show List.find? hard [108, 183, 108] = some 108 by rw [List.find?_cons_of_pos f1]]
        unfold both
        cases ahead l k with
        | none => rfl
        | some x => simp [f2]
    rw [if_neg h2, if_neg h2]
    by_cases h3 : l[k]! = 183
    · have hl2 : k + 1 < l.length := Classical.byContradiction fun hc => h k (by omega) h3
      rw [if_pos h3, if_pos h3, at0_app (by omega)]
    rw [if_neg h3, if_neg h3]
    by_cases h4 : l[k]! = 885
    · rw [if_pos h4, if_pos h4]
      by_cases hl2 : k + 1 < l.length
      · rw [at0_app (by omega)]
      · have hk : k + 1 = l.length := by omega
        rw [at0_out (l := l) (i := (k : Int) + 1) (.inr (by omega)), show ((k : Int) + 1) = ((l.length : Nat) : Int) by omega, at0_in (by omega), g0]
        rw [show (scriptOf 108 == 2) = false by simpa using f3, show (scriptOf 0 == 2) = false by simpa using script_zero.1]
    rw [if_neg h4, if_neg h4]
    by_cases h5 : l[k]! = 1523 ∨ l[k]! = 1524
    · rw [if_pos h5, if_pos h5]
    rw [if_neg h5, if_neg h5]
    rw [asian_app, f4, Bool.or_false, among_app, among_app, show among [108, 183, 108] 1776 1785 = false by decide, show among [108, 183, 108] 1632 1641 = false by decide, Bool.or_false, Bool.or_false]
  refine ⟨?_, ?_⟩
  · have key : all (l ++ [108, 183, 108]) = true ↔ all l = true := by
      rw [all_iff, all_iff]
      constructor
      · intro hh k hk hn
        rw [← same k hk]
        exact hh k (by omega) (by rw [get_app hk]; exact hn)
      · intro hh k hk hn
        by_cases hkl : k < l.length
        · rw [same k hkl]
          rw [get_app hkl] at hn
          exact hh k hkl hn
        · rcases (show k = l.length ∨ k = l.length + 1 ∨ k = l.length + 2 by omega) with rfl | rfl | rfl
          · rw [g0, f5] at hn; cases hn
          · exact hmet
          · rw [g2, f5] at hn; cases hn
    cases h1 : all l with
    | true => exact key.2 h1
    | false =>
      cases h2 : all (l ++ [108, 183, 108]) with
      | false => rfl
      | true => rw [key.1 h2] at h1; cases h1
  · rw [show ((l.length : Int) + 1) = ((l.length + 1 : Nat) : Int) by omega, need_in (by omega), g1, f6, if_pos rfl, hmet]
    rfl
end Ctx
end Go.Proofs.YtmbammhkkcnoaaaGreat
