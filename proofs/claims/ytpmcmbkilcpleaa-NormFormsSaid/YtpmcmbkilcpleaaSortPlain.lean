/-
  PLAIN: rows in which marks of unlike classes are turned: by neighbours, by parts that change their places; two rows in their order, and how they become one. Conditions: as they stand in each. Nothing of the program is imported here.
-/
import Derived.Test.YtpmcmbkilcpleaaNormPlain
namespace Go.Proofs.Ytpmcmbkilcpleaa
namespace Norm
theorem bang_ext {L M : List Int} (hl : L.length = M.length) (h : ∀ i, i < L.length → L[i]! = M[i]!) : L = M := by
  refine List.ext_getElem hl fun i h1 h2 => ?_
  have := h i h1
  rwa [getElem!_pos L i h1, getElem!_pos M i h2] at this
theorem bang_left {p q : List Int} {i : Nat} (h : i < p.length) : (p ++ q)[i]! = p[i]! := by
  rw [getElem!_pos (p ++ q) i (by rw [List.length_append]; omega), getElem!_pos p i h, List.getElem_append_left h]
theorem bang_right {p q : List Int} {i : Nat} (h : p.length ≤ i) : (p ++ q)[i]! = q[i - p.length]! := by
  simp only [List.getElem!_eq_getElem?_getD, List.getElem?_append_right h]
theorem bang_take {L : List Int} {n i : Nat} (h : i < n) : (L.take n)[i]! = L[i]! := by
  simp only [List.getElem!_eq_getElem?_getD, List.getElem?_take_of_lt h]
theorem bang_drop (L : List Int) (n i : Nat) : (L.drop n)[i]! = L[n + i]! := by
  simp only [List.getElem!_eq_getElem?_getD, List.getElem?_drop]
theorem bang_set (L : List Int) (k i : Nat) (x : Int) (h : k < L.length) : (L.set k x)[i]! = if i = k then x else L[i]! := by
  simp only [List.getElem!_eq_getElem?_getD, List.getElem?_set]
  by_cases e : i = k
  · subst e; simp [h]
  · rw [if_neg (fun h => e h.symm), if_neg e]
theorem bang_mem {L : List Int} {x : Int} (h : x ∈ L) : ∃ i, i < L.length ∧ L[i]! = x := by
  obtain ⟨i, hi, rfl⟩ := List.mem_iff_getElem.1 h
  exact ⟨i, hi, getElem!_pos L i hi⟩
/-- From a up to b classes rise. -/
def Up (L : List Int) (a b : Nat) : Prop := ∀ i j, a ≤ i → i < j → j < b → clsOf L[i]! ≤ clsOf L[j]!
theorem Up.part {L : List Int} {a b a' b' : Nat} (h : Up L a b) (h1 : a ≤ a') (h2 : b' ≤ b) : Up L a' b' := fun i j hi hij hj => h i j (by omega) hij (by omega)
theorem Up.le {L : List Int} {a b : Nat} (h : Up L a b) {i j : Nat} (hi : a ≤ i) (hij : i ≤ j) (hj : j < b) : clsOf L[i]! ≤ clsOf L[j]! := by
  rcases Nat.lt_or_eq_of_le hij with h1 | rfl
  · exact h i j hi h1 hj
  · exact Int.le_refl _
theorem Up.small {L : List Int} {a b : Nat} (h : b ≤ a + 1) : Up L a b := fun i j _ _ _ => by omega
theorem Up.same {L M : List Int} {a b : Nat} (h : Up L a b) (e : ∀ i, a ≤ i → i < b → M[i]! = L[i]!) : Up M a b := fun i j hi hij hj => by
  rw [e i hi (by omega), e j (by omega) hj]
  exact h i j hi hij hj
/-- M is L, but for marks of unlike classes from a up to b that were turned. -/
structure Moved (a b : Nat) (L M : List Int) : Prop where
  len : M.length = L.length
  out : ∀ i, i < a ∨ b ≤ i → M[i]! = L[i]!
  inn : ∀ i, a ≤ i → i < b → ∃ j, a ≤ j ∧ j < b ∧ M[i]! = L[j]!
  sim : (∀ i, a ≤ i → i < b → 0 < clsOf L[i]!) → Sim L M
theorem Moved.refl (a b : Nat) (L : List Int) : Moved a b L L := ⟨rfl, fun _ _ => rfl, fun i h1 h2 => ⟨i, h1, h2, rfl⟩, fun _ => .refl _⟩
theorem Moved.trans {a b : Nat} {L M N : List Int} (h : Moved a b L M) (k : Moved a b M N) : Moved a b L N := by
  refine ⟨k.len.trans h.len, fun i hi => (k.out i hi).trans (h.out i hi), fun i h1 h2 => ?_, fun hm => ?_⟩
  · obtain ⟨j, h3, h4, e⟩ := k.inn i h1 h2
    obtain ⟨j', h5, h6, e'⟩ := h.inn j h3 h4
    exact ⟨j', h5, h6, e.trans e'⟩
  · refine .trans (h.sim hm) (k.sim fun i h1 h2 => ?_)
    obtain ⟨j, h3, h4, e⟩ := h.inn i h1 h2
    rw [e]
    exact hm j h3 h4
theorem Moved.mono {a b a' b' : Nat} {L M : List Int} (h : Moved a b L M) (h1 : a' ≤ a) (h2 : b ≤ b') : Moved a' b' L M := by
  refine ⟨h.len, fun i hi => h.out i (by omega), fun i h3 h4 => ?_, fun hm => h.sim fun i h3 h4 => hm i (by omega) (by omega)⟩
  by_cases hi : a ≤ i ∧ i < b
  · obtain ⟨j, h5, h6, e⟩ := h.inn i hi.1 hi.2
    exact ⟨j, by omega, by omega, e⟩
  · exact ⟨i, h3, h4, h.out i (by omega)⟩
theorem Moved.all {a b : Nat} {L M : List Int} (h : Moved a b L M) {p : Int → Prop} (hp : ∀ i, a ≤ i → i < b → p L[i]!) : ∀ i, a ≤ i → i < b → p M[i]! := fun i h1 h2 => by
  obtain ⟨j, h3, h4, e⟩ := h.inn i h1 h2
  rw [e]
  exact hp j h3 h4
/-- Two neighbours are turned. -/
def turn (L : List Int) (k : Nat) : List Int := (L.set k L[k + 1]!).set (k + 1) L[k]!
theorem turn_len (L : List Int) (k : Nat) : (turn L k).length = L.length := by unfold turn; simp
theorem turn_bang (L : List Int) (k i : Nat) (h : k + 1 < L.length) : (turn L k)[i]! = if i = k + 1 then L[k]! else if i = k then L[k + 1]! else L[i]! := by
  unfold turn
  rw [bang_set _ _ _ _ (by rw [List.length_set]; exact h), bang_set _ _ _ _ (by omega)]
theorem cut_two (L : List Int) (k : Nat) (h : k + 1 < L.length) : L = L.take k ++ L[k]! :: L[k + 1]! :: L.drop (k + 2) := by
  rw [getElem!_pos L k (by omega), getElem!_pos L (k + 1) h, ← List.drop_eq_getElem_cons h, ← List.drop_eq_getElem_cons (by omega), List.take_append_drop]
theorem turn_eq (L : List Int) (k : Nat) (h : k + 1 < L.length) : turn L k = L.take k ++ L[k + 1]! :: L[k]! :: L.drop (k + 2) := by
  have e := cut_two L k h
  have hk : (L.take k).length = k := by rw [List.length_take]; omega
  unfold turn
  generalize L[k]! = x at e ⊢
  generalize L[k + 1]! = y at e ⊢
  generalize L.take k = p at e hk ⊢
  generalize L.drop (k + 2) = q at e ⊢
  subst e hk
  rw [List.set_append_right _ _ (Nat.le_refl _), List.set_append_right _ _ (by omega), Nat.sub_self, show p.length + 1 - p.length = 1 by omega]
  rfl
theorem Moved.turn {a b k : Nat} (L : List Int) (h1 : a ≤ k) (h2 : k + 1 < b) (h3 : b ≤ L.length) (hc : clsOf L[k + 1]! < clsOf L[k]!) : Moved a b L (turn L k) := by
  refine ⟨turn_len _ _, fun i hi => ?_, fun i h4 h5 => ?_, fun hm => ?_⟩
  · rw [turn_bang _ _ _ (by omega), if_neg (by omega), if_neg (by omega)]
  · rw [turn_bang _ _ _ (by omega)]
    by_cases e1 : i = k + 1
    · rw [if_pos e1]; exact ⟨k, by omega, by omega, rfl⟩
    · rw [if_neg e1]
      by_cases e2 : i = k
      · rw [if_pos e2]; exact ⟨k + 1, by omega, by omega, rfl⟩
      · rw [if_neg e2]; exact ⟨i, h4, h5, rfl⟩
  · rw [turn_eq L k (by omega)]
    have h := Sim.swap (L.take k) L[k]! L[k + 1]! (L.drop (k + 2)) (hm k h1 (by omega)) (hm (k + 1) (by omega) h2) (by omega)
    rwa [← cut_two L k (by omega)] at h
/-- Two parts side by side have changed their places. -/
structure Rot (a m b : Nat) (L M : List Int) : Prop where
  len : M.length = L.length
  fst : ∀ i, a ≤ i → i < a + (b - m) → M[i]! = L[i + (m - a)]!
  snd : ∀ i, a + (b - m) ≤ i → i < b → M[i]! = L[i - (b - m)]!
  out : ∀ i, i < a ∨ b ≤ i → M[i]! = L[i]!
theorem Rot.none {a m b : Nat} (L : List Int) (h1 : a ≤ m) (h2 : m ≤ b) (h : a = m ∨ m = b) : Rot a m b L L := by
  refine ⟨rfl, fun i h3 h4 => ?_, fun i h3 h4 => ?_, fun _ _ => rfl⟩
  · rcases h with rfl | rfl
    · rw [show i + (a - a) = i by omega]
    · omega
  · rcases h with rfl | rfl
    · omega
    · rw [show i - (m - m) = i by omega]
theorem sim_parts : ∀ {X Y : List Int}, (∀ x ∈ X, ∀ y ∈ Y, 0 < clsOf y ∧ clsOf y < clsOf x) → Sim (X ++ Y) (Y ++ X)
  | [], Y, _ => by rw [List.append_nil]; exact .refl _
  | x :: X, Y, h => by
    have h1 : Sim (X ++ Y) (Y ++ X) := sim_parts fun z hz y hy => h z (by simp [hz]) y hy
    have h2 : Sim (x :: Y) (Y ++ [x]) := sim_past fun y hy => h x (by simp) y hy
    have h3 := h2.behind X
    rw [List.append_assoc] at h3
    exact .trans (h1.ahead [x]) h3
theorem Rot.moved {a m b : Nat} {L M : List Int} (h : Rot a m b L M) (h1 : a ≤ m) (h2 : m ≤ b) (h3 : b ≤ L.length) (hc : ∀ i j, a ≤ i → i < m → m ≤ j → j < b → clsOf L[j]! < clsOf L[i]!) : Moved a b L M := by
  refine ⟨h.len, h.out, fun i h4 h5 => ?_, fun hm => ?_⟩
  · by_cases hi : i < a + (b - m)
    · exact ⟨i + (m - a), by omega, by omega, h.fst i h4 hi⟩
    · exact ⟨i - (b - m), by omega, by omega, h.snd i (by omega) h5⟩
  · have l1 : (L.take a).length = a := by rw [List.length_take]; omega
    have l2 : ((L.take m).drop a).length = m - a := by rw [List.length_drop, List.length_take]; omega
    have l3 : ((L.take b).drop m).length = b - m := by rw [List.length_drop, List.length_take]; omega
    have b2 : ∀ i, i < m - a → ((L.take m).drop a)[i]! = L[a + i]! := fun i hi => by rw [bang_drop, bang_take (by omega)]
    have b3 : ∀ i, i < b - m → ((L.take b).drop m)[i]! = L[m + i]! := fun i hi => by rw [bang_drop, bang_take (by omega)]
    have eL : L = L.take a ++ (((L.take m).drop a ++ (L.take b).drop m) ++ L.drop b) := by
      refine bang_ext (by simp only [List.length_append, List.length_drop, l1, l2, l3]; omega) fun i hi => ?_
      by_cases i1 : i < a
      · rw [bang_left (by omega), bang_take i1]
      rw [bang_right (by omega), l1]
      by_cases i2 : i < m
      · rw [bang_left (by simp only [List.length_append, l2, l3]; omega), bang_left (by omega), b2 _ (by omega), show a + (i - a) = i by omega]
      by_cases i3 : i < b
      · rw [bang_left (by simp only [List.length_append, l2, l3]; omega), bang_right (by omega), l2, b3 _ (by omega), show m + (i - a - (m - a)) = i by omega]
      rw [bang_right (by simp only [List.length_append, l2, l3]; omega), bang_drop, List.length_append, l2, l3, show b + (i - a - (m - a + (b - m))) = i by omega]
    have eM : M = L.take a ++ (((L.take b).drop m ++ (L.take m).drop a) ++ L.drop b) := by
      refine bang_ext (by rw [h.len]; simp only [List.length_append, List.length_drop, l1, l2, l3]; omega) fun i hi => ?_
      by_cases i1 : i < a
      · rw [bang_left (by omega), bang_take i1]; exact h.out i (.inl i1)
      rw [bang_right (by omega), l1]
      by_cases i2 : i < a + (b - m)
      · rw [bang_left (by simp only [List.length_append, l2, l3]; omega), bang_left (by omega), b3 _ (by omega), h.fst i (by omega) i2]
        congr 1; omega
      by_cases i3 : i < b
      · rw [bang_left (by simp only [List.length_append, l2, l3]; omega), bang_right (by omega), l3, b2 _ (by omega), h.snd i (by omega) i3]
        congr 1; omega
      rw [bang_right (by simp only [List.length_append, l2, l3]; omega), bang_drop, List.length_append, l2, l3, h.out i (.inr (by omega))]
      congr 1; omega
    have hS : Sim ((L.take m).drop a ++ (L.take b).drop m) ((L.take b).drop m ++ (L.take m).drop a) := by
      refine sim_parts fun x hx y hy => ?_
      obtain ⟨i, hi, rfl⟩ := bang_mem hx
      obtain ⟨j, hj, rfl⟩ := bang_mem hy
      rw [b2 i (by omega), b3 j (by omega)]
      exact ⟨hm _ (by omega) (by omega), hc _ _ (by omega) (by omega) (by omega) (by omega)⟩
    have := (hS.behind (L.drop b)).ahead (L.take a)
    rw [← eL, ← eM] at this
    exact this
/-- Behind the change of places: each half has two rows in their order. -/
theorem Rot.halves {a m b mid s e : Nat} {L M : List Int} (h : Rot s m e L M) (h1 : a ≤ s) (h2 : s ≤ m) (h3 : m ≤ e) (h4 : e ≤ b) (hse : s + e = mid + m) (u1 : Up L a m) (u2 : Up L m b) :
    Up M a s ∧ Up M s mid ∧ Up M mid e ∧ Up M e b := by
  refine ⟨fun i j hi hij hj => ?_, fun i j hi hij hj => ?_, fun i j hi hij hj => ?_, fun i j hi hij hj => ?_⟩
  · rw [h.out i (by omega), h.out j (by omega)]; exact u1 i j hi hij (by omega)
  · rw [h.fst i hi (by omega), h.fst j (by omega) (by omega)]; exact u2 _ _ (by omega) (by omega) (by omega)
  · rw [h.snd i (by omega) (by omega), h.snd j (by omega) hj]; exact u1 _ _ (by omega) (by omega) (by omega)
  · rw [h.out i (by omega), h.out j (by omega)]; exact u2 i j (by omega) hij hj
/-- Two rows in their order become one: by halves. -/
theorem merged {a m b mid s e : Nat} {L L1 L2 L3 : List Int} (h1 : a ≤ s) (h2 : s ≤ m) (h3 : m ≤ e) (h4 : e ≤ b) (hse : s + e = mid + m) (hm1 : s ≤ mid) (hb : b ≤ L.length) (u1 : Up L a m) (u2 : Up L m b)
    (hlo : ∀ c d, a ≤ c → c < s → e ≤ d → d < b → clsOf L[c]! ≤ clsOf L[d]!)
    (hhi : ∀ i j, s ≤ i → i < m → m ≤ j → j < e → clsOf L[j]! < clsOf L[i]!)
    (hR : Rot s m e L L1) (k2 : Moved a mid L1 L2) (v2 : Up L2 a mid) (k3 : Moved mid b L2 L3) (v3 : Up L3 mid b) : Moved a b L L3 ∧ Up L3 a b := by
  refine ⟨(((hR.moved h2 h3 (by omega) hhi).mono h1 h4).trans (k2.mono (Nat.le_refl _) (by omega))).trans (k3.mono (by omega) (Nat.le_refl _)), fun i j hi hij hj => ?_⟩
  by_cases c1 : j < mid
  · rw [k3.out i (by omega), k3.out j (by omega)]; exact v2 i j hi hij c1
  by_cases c2 : mid ≤ i
  · exact v3 i j c2 hij hj
  rw [k3.out i (by omega)]
  obtain ⟨i', a1, a2, ei⟩ := k2.inn i hi (by omega)
  obtain ⟨j', b1, b2, ej⟩ := k3.inn j (by omega) hj
  rw [ei, ej, k2.out j' (by omega)]
  by_cases d1 : i' < s
  · rw [hR.out i' (by omega)]
    by_cases d2 : j' < e
    · rw [hR.snd j' (by omega) d2]; exact u1 _ _ (by omega) (by omega) (by omega)
    · rw [hR.out j' (by omega)]; exact hlo _ _ (by omega) d1 (by omega) b2
  · rw [hR.fst i' (by omega) (by omega)]
    by_cases d2 : j' < e
    · rw [hR.snd j' (by omega) d2]; exact Int.le_of_lt (hhi _ _ (by omega) (by omega) (by omega) (by omega))
    · rw [hR.out j' (by omega)]; exact u2 _ _ (by omega) (by omega) b2
end Norm
end Go.Proofs.Ytpmcmbkilcpleaa
