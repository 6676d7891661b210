/-
  PLAIN: UTF-8, strictly: the bytes of a character, what bytes begin with, and that each tells of the other. Conditions: none. Nothing of the program is imported here.
-/
namespace Go.Proofs.YtkcabnodhdhaaaaDoor
namespace Utf
/-- Is it a character? -/
def right (r : Nat) : Bool := decide (r < 55296) || (decide (57343 < r) && decide (r ≤ 1114111))
def u (n : Nat) : UInt8 := UInt8.ofNat n
theorem u_toNat {n : Nat} (h : n < 256) : (u n).toNat = n := by
  show (UInt8.ofNat n).toNat = n
  rw [UInt8.toNat_ofNat']
  omega
theorem u_of (b : UInt8) : u b.toNat = b := UInt8.ofNat_toNat
theorem lt256 (b : UInt8) : b.toNat < 256 := UInt8.toNat_lt b
/-- Its bytes. -/
def enc (r : Nat) : List UInt8 :=
  if r < 128 then [u r]
  else if r < 2048 then [u (192 + r / 64), u (128 + r % 64)]
  else if r < 65536 then [u (224 + r / 4096), u (128 + r / 64 % 64), u (128 + r % 64)]
  else [u (240 + r / 262144), u (128 + r / 4096 % 64), u (128 + r / 64 % 64), u (128 + r % 64)]
def cont (b : UInt8) : Bool := decide (128 ≤ b.toNat) && decide (b.toNat < 192)
/-- The character that bytes begin with, and how many it has. -/
def dec : List UInt8 → Option (Nat × Nat)
  | [] => none
  | a :: t =>
    if a.toNat < 128 then some (a.toNat, 1)
    else if a.toNat < 194 then none
    else if a.toNat < 224 then
      match t with
      | b :: _ => if cont b then some ((a.toNat - 192) * 64 + (b.toNat - 128), 2) else none
      | _ => none
    else if a.toNat < 240 then
      match t with
      | b :: c :: _ =>
        if cont b && cont c && decide (2048 ≤ (a.toNat - 224) * 4096 + (b.toNat - 128) * 64 + (c.toNat - 128)) && right ((a.toNat - 224) * 4096 + (b.toNat - 128) * 64 + (c.toNat - 128))
        then some ((a.toNat - 224) * 4096 + (b.toNat - 128) * 64 + (c.toNat - 128), 3) else none
      | _ => none
    else if a.toNat < 248 then
      match t with
      | b :: c :: d :: _ =>
        if cont b && cont c && cont d && decide (65536 ≤ (a.toNat - 240) * 262144 + (b.toNat - 128) * 4096 + (c.toNat - 128) * 64 + (d.toNat - 128)) && right ((a.toNat - 240) * 262144 + (b.toNat - 128) * 4096 + (c.toNat - 128) * 64 + (d.toNat - 128))
        then some ((a.toNat - 240) * 262144 + (b.toNat - 128) * 4096 + (c.toNat - 128) * 64 + (d.toNat - 128), 4) else none
      | _ => none
    else none
theorem right_iff (r : Nat) : right r = true ↔ r < 55296 ∨ (57343 < r ∧ r ≤ 1114111) := by
  unfold right; simp
theorem dec_enc (r : Nat) (h : right r = true) (t : List UInt8) : dec (enc r ++ t) = some (r, (enc r).length) := by
  rw [right_iff] at h
  unfold enc
  by_cases h1 : r < 128
  · rw [if_pos h1]
    simp only [List.cons_append, List.nil_append, dec, u_toNat (show r < 256 by omega), if_pos h1, List.length_cons, List.length_nil]
  rw [if_neg h1]
  by_cases h2 : r < 2048
  · rw [if_pos h2]
    have a := u_toNat (show 192 + r / 64 < 256 by omega)
    have b := u_toNat (show 128 + r % 64 < 256 by omega)
    have cb : cont (u (128 + r % 64)) = true := by unfold cont; rw [b]; simp; omega
    simp only [List.cons_append, List.nil_append, dec, a, b, cb, if_true, List.length_cons, List.length_nil]
    rw [if_neg (by omega), if_neg (by omega), if_pos (by omega), show (192 + r / 64 - 192) * 64 + (128 + r % 64 - 128) = r by omega]
  rw [if_neg h2]
  by_cases h3 : r < 65536
  · rw [if_pos h3]
    have a := u_toNat (show 224 + r / 4096 < 256 by omega)
    have b := u_toNat (show 128 + r / 64 % 64 < 256 by omega)
    have c := u_toNat (show 128 + r % 64 < 256 by omega)
    have cb : cont (u (128 + r / 64 % 64)) = true := by unfold cont; rw [b]; simp; omega
    have cc : cont (u (128 + r % 64)) = true := by unfold cont; rw [c]; simp; omega
    have e : (224 + r / 4096 - 224) * 4096 + (128 + r / 64 % 64 - 128) * 64 + (128 + r % 64 - 128) = r := by omega
    have hr : right r = true := (right_iff r).2 h
    have h2' : decide (2048 ≤ r) = true := by simp; omega
    simp only [List.cons_append, List.nil_append, dec, a, b, c, cb, cc, e, hr, h2', Bool.and_self, if_true, List.length_cons, List.length_nil]
    rw [if_neg (by omega), if_neg (by omega), if_neg (by omega), if_pos (by omega)]
  rw [if_neg h3]
  have a := u_toNat (show 240 + r / 262144 < 256 by omega)
  have b := u_toNat (show 128 + r / 4096 % 64 < 256 by omega)
  have c := u_toNat (show 128 + r / 64 % 64 < 256 by omega)
  have d := u_toNat (show 128 + r % 64 < 256 by omega)
  have cb : cont (u (128 + r / 4096 % 64)) = true := by unfold cont; rw [b]; simp; omega
  have cc : cont (u (128 + r / 64 % 64)) = true := by unfold cont; rw [c]; simp; omega
  have cd : cont (u (128 + r % 64)) = true := by unfold cont; rw [d]; simp; omega
  have e : (240 + r / 262144 - 240) * 262144 + (128 + r / 4096 % 64 - 128) * 4096 + (128 + r / 64 % 64 - 128) * 64 + (128 + r % 64 - 128) = r := by omega
  have hr : right r = true := (right_iff r).2 h
  have h2' : decide (65536 ≤ r) = true := by simp; omega
  simp only [List.cons_append, List.nil_append, dec, a, b, c, d, cb, cc, cd, e, hr, h2', Bool.and_self, if_true, List.length_cons, List.length_nil]
  rw [if_neg (by omega), if_neg (by omega), if_neg (by omega), if_neg (by omega), if_pos (by omega)]
theorem u_eq {b : UInt8} {n : Nat} (h : b.toNat = n) : u n = b := by rw [← h]; exact u_of b
theorem dec_sound {s : List UInt8} {r n : Nat} (h : dec s = some (r, n)) : right r = true ∧ n = (enc r).length ∧ s = enc r ++ s.drop n := by
  match s, h with
  | [], h => simp [dec] at h
  | a :: t, h =>
    have ha := lt256 a
    unfold dec at h
    dsimp only at h
    by_cases h1 : a.toNat < 128
    · rw [if_pos h1] at h
      simp only [Option.some.injEq, Prod.mk.injEq] at h
      obtain ⟨rfl, rfl⟩ := h
      refine ⟨(right_iff _).2 (by omega), ?_, ?_⟩
      · simp [enc, h1]
      · simp [enc, h1, u_of]
    rw [if_neg h1] at h
    by_cases h2 : a.toNat < 194
    · rw [if_pos h2] at h; cases h
    rw [if_neg h2] at h
    by_cases h3 : a.toNat < 224
    · rw [if_pos h3] at h
      match t, h with
      | [], h => cases h
      | b :: t, h =>
        have hb := lt256 b
        cases cb : cont b with
        | false => simp [cb] at h
        | true =>
          simp only [cb, if_true, Option.some.injEq, Prod.mk.injEq] at h
          obtain ⟨hr, rfl⟩ := h
          simp only [cont, Bool.and_eq_true, decide_eq_true_eq] at cb
          have e : enc r = [a, b] := by
            unfold enc
            rw [if_neg (by omega), if_pos (by omega), u_eq (b := a) (by omega), u_eq (b := b) (by omega)]
          exact ⟨(right_iff _).2 (by omega), by rw [e]; rfl, by rw [e]; rfl⟩
    rw [if_neg h3] at h
    by_cases h4 : a.toNat < 240
    · rw [if_pos h4] at h
      match t, h with
      | [], h => cases h
      | [_], h => cases h
      | b :: c :: t, h =>
        have hb := lt256 b
        have hc := lt256 c
        simp only at h
        split at h
        · rename_i hh
          simp only [Option.some.injEq, Prod.mk.injEq] at h
          obtain ⟨hr, rfl⟩ := h
          simp only [Bool.and_eq_true, cont, decide_eq_true_eq] at hh
          obtain ⟨⟨⟨cb, cc⟩, h5⟩, h6⟩ := hh
          have e : enc r = [a, b, c] := by
            unfold enc
            rw [if_neg (by omega), if_neg (by omega), if_pos (by omega), u_eq (b := a) (by omega), u_eq (b := b) (by omega), u_eq (b := c) (by omega)]
          exact ⟨by rw [← hr]; exact h6, by rw [e]; rfl, by rw [e]; rfl⟩
        · cases h
    rw [if_neg h4] at h
    by_cases h5 : a.toNat < 248
    · rw [if_pos h5] at h
      match t, h with
      | [], h => cases h
      | [_], h => cases h
      | [_, _], h => cases h
      | b :: c :: d :: t, h =>
        have hb := lt256 b
        have hc := lt256 c
        have hd := lt256 d
        simp only at h
        split at h
        · rename_i hh
          simp only [Option.some.injEq, Prod.mk.injEq] at h
          obtain ⟨hr, rfl⟩ := h
          simp only [Bool.and_eq_true, cont, decide_eq_true_eq] at hh
          obtain ⟨⟨⟨⟨cb, cc⟩, cd⟩, h6⟩, h7⟩ := hh
          have e : enc r = [a, b, c, d] := by
            unfold enc
            rw [if_neg (by omega), if_neg (by omega), if_neg (by omega), u_eq (b := a) (by omega), u_eq (b := b) (by omega), u_eq (b := c) (by omega), u_eq (b := d) (by omega)]
          exact ⟨by rw [← hr]; exact h7, by rw [e]; rfl, by rw [e]; rfl⟩
        · cases h
    rw [if_neg h5] at h
    cases h
theorem enc_pos (r : Nat) : 0 < (enc r).length := by
  unfold enc
  repeat' split
  all_goals simp
theorem enc_le (r : Nat) : (enc r).length ≤ 4 := by
  unfold enc
  repeat' split
  all_goals simp
/-- Bytes begin with one character at most. -/
theorem enc_one {r q : Nat} {s t : List UInt8} (hr : right r = true) (hq : right q = true) (h : enc r ++ s = enc q ++ t) : r = q ∧ s = t := by
  have h1 := dec_enc r hr s
  rw [h, dec_enc q hq t] at h1
  simp only [Option.some.injEq, Prod.mk.injEq] at h1
  obtain ⟨rfl, -⟩ := h1
  exact ⟨rfl, List.append_cancel_left h⟩
theorem dec_none {s : List UInt8} (h : dec s = none) (r : Nat) (hr : right r = true) (t : List UInt8) : s ≠ enc r ++ t := by
  rintro rfl
  rw [dec_enc r hr t] at h
  cases h
def encAll (l : List Nat) : List UInt8 := l.flatMap enc
def rights (l : List Nat) : Bool := l.all right
/-- All characters that bytes begin with, and what is left. -/
def readAll : Nat → List UInt8 → List Nat × List UInt8
  | 0, s => ([], s)
  | k + 1, s =>
    match dec s with
    | some (r, n) => (r :: (readAll k (s.drop n)).1, (readAll k (s.drop n)).2)
    | none => ([], s)
theorem readAll_sound : ∀ (k : Nat) (s : List UInt8), rights (readAll k s).1 = true ∧ s = encAll (readAll k s).1 ++ (readAll k s).2
  | 0, s => ⟨rfl, rfl⟩
  | k + 1, s => by
    unfold readAll
    cases h : dec s with
    | none => exact ⟨rfl, rfl⟩
    | some p =>
      obtain ⟨r, n⟩ := p
      obtain ⟨h1, h2, h3⟩ := dec_sound h
      obtain ⟨h4, h5⟩ := readAll_sound k (s.drop n)
      refine ⟨?_, ?_⟩
      · simp only [rights, List.all_cons, Bool.and_eq_true]; exact ⟨h1, h4⟩
      · simp only [encAll, List.flatMap_cons, List.append_assoc]
        have h6 : s.drop n = (readAll k (s.drop n)).1.flatMap enc ++ (readAll k (s.drop n)).2 := h5
        rw [← h6]; exact h3
theorem readAll_stops : ∀ (k : Nat) (s : List UInt8), s.length ≤ k → dec (readAll k s).2 = none
  | 0, s, h => by
    have : s = [] := List.eq_nil_of_length_eq_zero (by omega)
    subst this; rfl
  | k + 1, s, h => by
    unfold readAll
    cases hd : dec s with
    | none => exact hd
    | some p =>
      obtain ⟨r, n⟩ := p
      obtain ⟨h1, h2, h3⟩ := dec_sound hd
      have := enc_pos r
      exact readAll_stops k (s.drop n) (by rw [List.length_drop]; omega)
/-- What is read is told by what it is. -/
theorem readAll_is : ∀ (l : List Nat) (k : Nat) (s t : List UInt8), s = encAll l ++ t → rights l = true → dec t = none → s.length ≤ k → readAll k s = (l, t)
  | [], k, s, t, hs, _, ht, _ => by
    simp only [encAll, List.flatMap_nil, List.nil_append] at hs
    subst hs
    cases k with
    | zero => rfl
    | succ k => unfold readAll; rw [ht]
  | r :: l, k, s, t, hs, hl, ht, hk => by
    simp only [rights, List.all_cons, Bool.and_eq_true] at hl
    simp only [encAll, List.flatMap_cons, List.append_assoc] at hs
    have hp := enc_pos r
    have hlen : s.length = (enc r).length + (l.flatMap enc ++ t).length := by rw [hs, List.length_append]
    match k, hk with
    | 0, hk => omega
    | k + 1, hk =>
      unfold readAll
      rw [hs, dec_enc r hl.1 _]
      have h1 : (enc r ++ (l.flatMap enc ++ t)).drop (enc r).length = l.flatMap enc ++ t := by simp
      simp only [h1]
      rw [readAll_is l k (l.flatMap enc ++ t) t rfl hl.2 ht (by omega)]
theorem readAll_parts (l : List Nat) (s : List UInt8) (k j : Nat) (hl : rights l = true) (hk : (encAll l ++ s).length ≤ k) (hj : s.length ≤ j) :
    readAll k (encAll l ++ s) = (l ++ (readAll j s).1, (readAll j s).2) := by
  obtain ⟨h1, h2⟩ := readAll_sound j s
  refine readAll_is _ k _ _ ?_ ?_ (readAll_stops j s hj) hk
  · simp only [encAll, List.flatMap_append, List.append_assoc]
    have h3 : s = (readAll j s).1.flatMap enc ++ (readAll j s).2 := h2
    rw [← h3]
  · simp only [rights, List.all_append, Bool.and_eq_true] at hl h1 ⊢
    exact ⟨hl, h1⟩
/-- Strings stand byte by byte. -/
def less : List UInt8 → List UInt8 → Bool
  | _, [] => false
  | [], _ :: _ => true
  | a :: x, b :: y => decide (a < b) || (a == b && less x y)
theorem less_cons {m n : Nat} {x y : List UInt8} (hm : m < 256) (hn : n < 256) : less (u m :: x) (u n :: y) = (decide (m < n) || (decide (m = n) && less x y)) := by
  have h1 : (u m < u n) ↔ m < n := by rw [UInt8.lt_iff_toNat_lt, u_toNat hm, u_toNat hn]
  have h2 : (u m == u n) = decide (m = n) := by
    rw [Bool.eq_iff_iff, beq_iff_eq, decide_eq_true_eq]
    exact ⟨fun h => by rw [← u_toNat hm, ← u_toNat hn, h], fun h => by rw [h]⟩
  simp only [less, h1, h2]
theorem less_lt {m n : Nat} {x y : List UInt8} (h : m < n) (hn : n < 256) : less (u m :: x) (u n :: y) = true := by
  rw [less_cons (by omega) hn]; simp [h]
theorem less_gt {m n : Nat} {x y : List UInt8} (h : n < m) (hm : m < 256) : less (u m :: x) (u n :: y) = false := by
  rw [less_cons hm (by omega)]
  simp [show ¬ m < n by omega, show ¬ m = n by omega]
theorem less_nil (x : List UInt8) : less x [] = false := by cases x <;> rfl
/-- The strings of two characters stand as these do. -/
theorem less_enc (a b : Nat) (ha : a ≤ 1114111) (hb : b ≤ 1114111) : less (enc a) (enc b) = decide (a < b) := by
  unfold enc
  by_cases a1 : a < 128
  · rw [if_pos a1]
    by_cases b1 : b < 128
    · rw [if_pos b1, less_cons (by omega) (by omega), less_nil]; simp
    · rw [if_neg b1]
      have e : decide (a < b) = true := by simp; omega
      rw [e]
      repeat' split
      all_goals exact less_lt (by omega) (by omega)
  rw [if_neg a1]
  by_cases a2 : a < 2048
  · rw [if_pos a2]
    by_cases b1 : b < 128
    · rw [if_pos b1, less_gt (by omega) (by omega)]; simp; omega
    rw [if_neg b1]
    by_cases b2 : b < 2048
    · rw [if_pos b2, less_cons (by omega) (by omega), less_cons (by omega) (by omega), less_nil, Bool.eq_iff_iff]
      simp only [Bool.or_eq_true, Bool.and_eq_true, decide_eq_true_eq, Bool.and_false, Bool.or_false]
      omega
    · rw [if_neg b2]
      have e : decide (a < b) = true := by simp; omega
      rw [e]
      split
      all_goals exact less_lt (by omega) (by omega)
  rw [if_neg a2]
  by_cases a3 : a < 65536
  · rw [if_pos a3]
    by_cases b1 : b < 128
    · rw [if_pos b1, less_gt (by omega) (by omega)]; simp; omega
    rw [if_neg b1]
    by_cases b2 : b < 2048
    · rw [if_pos b2, less_gt (by omega) (by omega)]; simp; omega
    rw [if_neg b2]
    by_cases b3 : b < 65536
    · rw [if_pos b3, less_cons (by omega) (by omega), less_cons (by omega) (by omega), less_cons (by omega) (by omega), less_nil, Bool.eq_iff_iff]
      simp only [Bool.or_eq_true, Bool.and_eq_true, decide_eq_true_eq, Bool.and_false, Bool.or_false]
      omega
    · rw [if_neg b3, less_lt (by omega) (by omega)]; simp; omega
  rw [if_neg a3]
  by_cases b1 : b < 128
  · rw [if_pos b1, less_gt (by omega) (by omega)]; simp; omega
  rw [if_neg b1]
  by_cases b2 : b < 2048
  · rw [if_pos b2, less_gt (by omega) (by omega)]; simp; omega
  rw [if_neg b2]
  by_cases b3 : b < 65536
  · rw [if_pos b3, less_gt (by omega) (by omega)]; simp; omega
  rw [if_neg b3, less_cons (by omega) (by omega), less_cons (by omega) (by omega), less_cons (by omega) (by omega), less_cons (by omega) (by omega), less_nil, Bool.eq_iff_iff]
  simp only [Bool.or_eq_true, Bool.and_eq_true, decide_eq_true_eq, Bool.and_false, Bool.or_false]
  omega
theorem enc_inj {a b : Nat} (ha : right a = true) (hb : right b = true) (h : enc a = enc b) : a = b :=
  (enc_one (s := []) (t := []) ha hb (by rw [h])).1
/-- The first byte tells whether it is one of ASCII. -/
theorem enc_small {a : Nat} (h : a < 128) : enc a = [u a] := by unfold enc; rw [if_pos h]
theorem enc_great {a : Nat} (h : 128 ≤ a) (ha : a ≤ 1114111) : ∃ b t, enc a = b :: t ∧ 128 ≤ b.toNat := by
  unfold enc
  rw [if_neg (by omega)]
  split
  · exact ⟨_, _, rfl, by rw [u_toNat (by omega)]; omega⟩
  · split
    · exact ⟨_, _, rfl, by rw [u_toNat (by omega)]; omega⟩
    · exact ⟨_, _, rfl, by rw [u_toNat (by omega)]; omega⟩
def lenOf (r : Nat) : Nat := if r < 128 then 1 else if r < 2048 then 2 else if r < 65536 then 3 else 4
theorem enc_length (r : Nat) : (enc r).length = lenOf r := by
  unfold enc lenOf
  repeat' split
  all_goals rfl
end Utf
end Go.Proofs.YtkcabnodhdhaaaaDoor
