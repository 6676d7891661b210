/-
  Proved here: how many bytes an atom's byte, a blank or a fold has that a string begins with; how far such run on; the place of the byte that a \ stands ahead of. Conditions: strings of at most 100,000 bytes.
-/
import Derived.Test.YtmcjgdajnppbhaaGreatDoorLexByte
import Derived.Test.YtmcjgdajnppbhaaGreatDoorUtfEight
import Derived.Deep.LoopGhost
import Derived.Lib.Strings
namespace Go.Proofs.YtmcjgdajnppbhaaGreatDoor
open Go.RowKit Utf
namespace Lex
/-- How many bytes of an atom it begins with, one at most. -/
def atom1 : List UInt8 → Nat
  | [] => 0
  | c :: _ => if atomB c then 1 else 0
/-- How many bytes the blank, or the fold, has that it begins with. -/
def white1 : List UInt8 → Nat
  | [] => 0
  | c :: t =>
    if blankB c then 1
    else match t with
      | d :: e :: _ => if c.toNat = 13 ∧ d.toNat = 10 ∧ blankB e = true then 3 else 0
      | _ => 0
/-- How many bytes stand one behind the other, by a function that tells how many the first one has. -/
def run (n : List UInt8 → Nat) : Nat → List UInt8 → Nat
  | 0, _ => 0
  | f + 1, l => if n l = 0 then 0 else n l + run n f (l.drop (n l))
theorem run_le {n : List UInt8 → Nat} (hn : ∀ l, n l ≤ l.length) : ∀ (f : Nat) (l : List UInt8), run n f l ≤ l.length
  | 0, _ => Nat.zero_le _
  | f + 1, l => by
    unfold run
    split
    · exact Nat.zero_le _
    · have h1 := run_le hn f (l.drop (n l))
      have h2 := hn l
      rw [List.length_drop] at h1
      omega
theorem run_more {n : List UInt8 → Nat} (hn : ∀ l, n l ≤ l.length) : ∀ (f g : Nat) (l : List UInt8), l.length ≤ f → l.length ≤ g → run n f l = run n g l
  | 0, g, l, h, _ => by
    have h0 : n l = 0 := by have := hn l; omega
    cases g with
    | zero => rfl
    | succ g => unfold run; rw [if_pos h0]
  | f + 1, 0, l, _, h => by
    have h0 : n l = 0 := by have := hn l; omega
    unfold run
    rw [if_pos h0]
  | f + 1, g + 1, l, h1, h2 => by
    unfold run
    split
    · rfl
    · rename_i h0
      rw [run_more hn f g _ (by rw [List.length_drop]; omega) (by rw [List.length_drop]; omega)]
theorem run_on {n : List UInt8 → Nat} (hn : ∀ l, n l ≤ l.length) {l : List UInt8} (h : n l ≠ 0) : run n l.length l = n l + run n (l.drop (n l)).length (l.drop (n l)) := by
  have h2 := hn l
  rw [run_more hn l.length (l.length + 1) l (Nat.le_refl _) (by omega)]
  show (if n l = 0 then 0 else n l + run n l.length (l.drop (n l))) = _
  rw [if_neg h, run_more hn l.length (l.drop (n l)).length (l.drop (n l)) (by rw [List.length_drop]; omega) (Nat.le_refl _)]
theorem run_end {n : List UInt8 → Nat} (hn : ∀ l, n l ≤ l.length) {l : List UInt8} (h : n l = 0) : run n l.length l = 0 := by
  rw [run_more hn l.length (l.length + 1) l (Nat.le_refl _) (by omega)]
  show (if n l = 0 then 0 else n l + run n l.length (l.drop (n l))) = _
  rw [if_pos h]
theorem atom1_le (l : List UInt8) : atom1 l ≤ l.length := by
  cases l with
  | nil => exact Nat.le_refl _
  | cons c t =>
    show (if atomB c = true then 1 else 0) ≤ t.length + 1
    split <;> omega
theorem run_atom : ∀ l : List UInt8, run atom1 l.length l = (l.takeWhile atomB).length
  | [] => rfl
  | c :: t => by
    by_cases h : atomB c = true
    · have h1 : atom1 (c :: t) = 1 := by show (if atomB c = true then 1 else 0) = 1; rw [if_pos h]
      rw [run_on atom1_le (by rw [h1]; decide), h1, List.takeWhile_cons_of_pos h, List.length_cons]
      show 1 + run atom1 t.length t = _
      rw [run_atom t]
      omega
    · have h1 : atom1 (c :: t) = 0 := by show (if atomB c = true then 1 else 0) = 0; rw [if_neg h]
      rw [run_end atom1_le h1, List.takeWhile_cons_of_neg h]
      rfl
theorem white1_le (l : List UInt8) : white1 l ≤ l.length := by
  match l with
  | [] => exact Nat.le_refl _
  | [c] =>
    show (if blankB c = true then 1 else 0) ≤ 1
    split <;> omega
  | [c, d] =>
    show (if blankB c = true then 1 else 0) ≤ 2
    split <;> omega
  | c :: d :: e :: t =>
    show (if blankB c = true then 1 else if c.toNat = 13 ∧ d.toNat = 10 ∧ blankB e = true then 3 else 0) ≤ t.length + 1 + 1 + 1
    split
    · omega
    · split <;> omega
theorem white1_is (l : List UInt8) : (white1 l = 0 ∧ white l = 0) ∨ (white1 l ≠ 0 ∧ white l = white1 l + white (l.drop (white1 l))) := by
  match l with
  | [] => exact .inl ⟨rfl, rfl⟩
  | c :: t =>
    cases hc : blankB c with
    | true =>
      have h1 : white1 (c :: t) = 1 := by rw [white1.eq_def]; simp only [hc, if_true]
      refine .inr ⟨by rw [h1]; decide, ?_⟩
      rw [h1, white_blank hc]
      show white t + 1 = 1 + white t
      omega
    | false =>
      match t with
      | [] =>
        refine .inl ⟨?_, ?_⟩
        · rw [white1.eq_def]; simp [hc]
        · rw [white.eq_def]; simp [hc]
      | [_] =>
        refine .inl ⟨?_, ?_⟩
        · rw [white1.eq_def]; simp [hc]
        · rw [white.eq_def]; simp [hc]
      | d :: e :: r =>
        by_cases h : c.toNat = 13 ∧ d.toNat = 10 ∧ blankB e = true
        · have h1 : white1 (c :: d :: e :: r) = 3 := by rw [white1.eq_def]; simp only [hc, Bool.false_eq_true, if_false, if_pos h]
          refine .inr ⟨by rw [h1]; decide, ?_⟩
          rw [h1, white_fold hc h]
          show white r + 3 = 3 + white r
          omega
        · refine .inl ⟨?_, ?_⟩
          · rw [white1.eq_def]; simp only [hc, Bool.false_eq_true, if_false, if_neg h]
          · rw [white.eq_def]; simp only [hc, Bool.false_eq_true, if_false, if_neg h]
theorem run_white : ∀ (m : Nat) (l : List UInt8), l.length ≤ m → run white1 l.length l = white l
  | 0, l, h => by
    obtain rfl : l = [] := List.eq_nil_of_length_eq_zero (by omega)
    rfl
  | m + 1, l, h => by
    rcases white1_is l with ⟨h1, h2⟩ | ⟨h1, h2⟩
    · rw [run_end white1_le h1, h2]
    · rw [run_on white1_le h1, h2, run_white m _ (by rw [List.length_drop]; have := white1_le l; omega)]
theorem white1_some (l : List UInt8) : (0 < white1 l) = (white l ≠ 0) := by
  rcases white1_is l with ⟨h1, h2⟩ | ⟨h1, h2⟩
  · rw [h1, h2]; simp
  · have : white l ≠ 0 := by omega
    simp [this]; omega
theorem ba_list (s : ByteArray) : (⟨s.data.toList.toArray⟩ : ByteArray) = s := by
  apply ByteArray.ext
  simp
theorem drop_of (s : ByteArray) (k : Nat) : (s.extract k s.size).data.toList = s.data.toList.drop k := by
  rw [ByteArray.data_extract, Array.toList_extract, List.extract_eq_take_drop]
  rw [List.take_of_length_le (by simp)]
theorem sub_of (s : ByteArray) (i j : Nat) : (s.extract i j).data.toList = (s.data.toList.drop i).take (j - i) := by
  rw [ByteArray.data_extract, Array.toList_extract, List.extract_eq_take_drop]
end Lex
set_option maxHeartbeats 1000000 in
set_option maxRecDepth 100000 in
theorem atomSize_any (t : ByteArray) (w : World) (hs : t.size ≤ 100000) : Calls Tryz.prog 20 #[.string t] w fun e w' => e = .returned (.int .i64 (Lex.atom1 t.data.toList : Nat)) ∧ w = w' := by
  by_cases h0 : t.size = 0
  · obtain rfl : t = ByteArray.empty := ByteArray.size_eq_zero_iff.1 h0
    go_enter Tryz.func20, Tryz.ntmps20
    go_wp2
    go_ret
    exact ⟨rfl, rfl⟩
  · have hpos : 0 < t.size := by omega
    have hne : (t.toList == []) = false := by
      cases hh : t.toList with
      | nil => exact absurd (by have := congrArg List.length hh; simpa [ByteArray.toList_eq] using this) h0
      | cons _ _ => rfl
    have hd : Lex.atom1 t.data.toList = if Lex.atomB t[0] then 1 else 0 := by
      have := drop_next t 0 hpos
      rw [List.drop_zero] at this
      rw [this]
      rfl
    rw [hd]
    have K := isAtom_any t[0] w
    have hz : (0 : Int) < (t.size : Int) := by omega
    clear hd h0
    generalize Lex.atomB t[0] = x at K ⊢
    have K := Lib.hid K
    cases x
    · go_enter Tryz.func20, Tryz.ntmps20
      go_wp2_with (go_at_call 32; with_reducible refine K.out.mono ?_; rintro e w1 ⟨rfl, rfl⟩)
      go_ret
      exact ⟨rfl, rfl⟩
    · go_enter Tryz.func20, Tryz.ntmps20
      go_wp2_with (go_at_call 32; with_reducible refine K.out.mono ?_; rintro e w1 ⟨rfl, rfl⟩)
      go_ret
      exact ⟨rfl, rfl⟩
set_option maxHeartbeats 1000000 in
set_option maxRecDepth 100000 in
theorem litePrefix_any (s : ByteArray) (w : World) : Calls Tryz.prog 54 #[.string s, .string ⟨#[13, 10]⟩] w fun e w' => e = .returned (.bool (Lib.hasPrefix s.data.toList [13, 10])) ∧ w = w' := by
  have hx : (decide (2 ≤ s.size) && ((s.extract 0 2).toList == [13, 10])) = Lib.hasPrefix s.data.toList [13, 10] := by
    have h := Lib.hasPrefix_raw s ⟨#[13, 10]⟩
    rw [ByteArray.toList_eq (ByteArray.mk #[13, 10])] at h
    exact h
  rw [← hx]
  clear hx
  by_cases h : 2 ≤ s.size
  · have hz : (2 : Int) ≤ (s.size : Int) := by omega
    rw [decide_eq_true h, Bool.true_and]
    clear h
    go_enter Tryz.func54, Tryz.ntmps54
    go_wp2
    go_ret
    exact ⟨rfl, rfl⟩
  · have hz : ¬ (2 : Int) ≤ (s.size : Int) := by omega
    rw [decide_eq_false h, Bool.false_and]
    clear h
    go_enter Tryz.func54, Tryz.ntmps54
    go_wp2
    go_ret
    exact ⟨rfl, rfl⟩
set_option maxHeartbeats 1000000 in
set_option maxRecDepth 100000 in
theorem prefix_any (s : ByteArray) (w : World) : Calls Tryz.prog 43 #[.string s, .string ⟨#[13, 10]⟩] w fun e w' => e = .returned (.bool (Lib.hasPrefix s.data.toList [13, 10])) ∧ w = w' := by
  go_enter Tryz.func43, Tryz.ntmps43
  go_wp2_with (go_at_call 54; with_reducible refine (litePrefix_any s w).mono ?_; rintro e w1 ⟨rfl, rfl⟩)
  go_ret
  exact ⟨rfl, rfl⟩
namespace Lex
theorem white1_of (t : ByteArray) (h0 : 0 < t.size) : (blankB t[0] = true ∧ white1 t.data.toList = 1) ∨ (blankB t[0] = false ∧ Lib.hasPrefix t.data.toList [13, 10] = false ∧ white1 t.data.toList = 0) ∨
    (blankB t[0] = false ∧ Lib.hasPrefix t.data.toList [13, 10] = true ∧ t.size = 2 ∧ white1 t.data.toList = 0) ∨
    (blankB t[0] = false ∧ Lib.hasPrefix t.data.toList [13, 10] = true ∧ ∃ h2 : 2 < t.size, white1 t.data.toList = if blankB t[2] = true then 3 else 0) := by
  have e0 := drop_next t 0 h0
  rw [List.drop_zero] at e0
  rw [e0]
  cases hb : blankB t[0] with
  | true =>
    refine .inl ⟨rfl, ?_⟩
    rw [white1.eq_def]
    simp only [hb, if_true]
  | false =>
    refine .inr ?_
    by_cases h1 : 1 < t.size
    · have e1 := drop_next t 1 h1
      rw [show (0 : Nat) + 1 = 1 from rfl, e1]
      cases hp : Lib.hasPrefix (t[0] :: t[1] :: t.data.toList.drop (1 + 1)) [13, 10] with
      | false =>
        refine .inl ⟨rfl, rfl, ?_⟩
        rw [white1.eq_def]
        simp only [hb, Bool.false_eq_true, if_false]
        cases t.data.toList.drop (1 + 1) with
        | nil => rfl
        | cons e r =>
          simp only
          rw [if_neg]
          rintro ⟨h3, h4, -⟩
          have q0 : t[0] = 13 := UInt8.toNat_inj.1 h3
          have q1 : t[1] = 10 := UInt8.toNat_inj.1 h4
          rw [q0, q1] at hp
          simp [Lib.hasPrefix] at hp
      | true =>
        refine .inr ?_
        have hq : t[0] = 13 ∧ t[1] = 10 := by
          simp [Lib.hasPrefix] at hp
          exact ⟨hp.1.symm, hp.2.symm⟩
        by_cases h2 : 2 < t.size
        · refine .inr ⟨rfl, rfl, h2, ?_⟩
          have e2 := drop_next t 2 h2
          rw [show (1 : Nat) + 1 = 2 from rfl, e2, white1.eq_def]
          simp only [hb, Bool.false_eq_true, if_false]
          rw [hq.1, hq.2]
          cases blankB t[2] <;> rfl
        · refine .inl ⟨rfl, rfl, by omega, ?_⟩
          rw [List.drop_of_length_le (by simp; omega), white1.eq_def]
          simp only [hb, Bool.false_eq_true, if_false]
    · have e1 : t.data.toList.drop (0 + 1) = [] := List.drop_of_length_le (by simp; omega)
      rw [e1]
      refine .inl ⟨rfl, by simp [Lib.hasPrefix, List.isPrefixOf], ?_⟩
      rw [white1.eq_def]
      simp only [hb, Bool.false_eq_true, if_false]
theorem ne_nil {t : ByteArray} (h : 0 < t.size) : (t.toList == []) = false := by
  cases hh : t.toList with
  | nil => exact absurd (by have := congrArg List.length hh; simpa [ByteArray.toList_eq] using this) (by omega : ¬ t.size = 0)
  | cons _ _ => rfl
end Lex
set_option maxHeartbeats 2000000 in
set_option maxRecDepth 100000 in
theorem whiteSize_any (t : ByteArray) (w : World) (hs : t.size ≤ 100000) : Calls Tryz.prog 31 #[.string t] w fun e w' => e = .returned (.int .i64 (Lex.white1 t.data.toList : Nat)) ∧ w = w' := by
  by_cases h0 : t.size = 0
  · obtain rfl : t = ByteArray.empty := ByteArray.size_eq_zero_iff.1 h0
    have K : Calls Tryz.prog 43 #[.string ByteArray.empty, .string ⟨#[13, 10]⟩] w fun e w' => e = .returned (.bool false) ∧ w = w' := prefix_any ByteArray.empty w
    have K := Lib.hid K
    go_enter Tryz.func31, Tryz.ntmps31
    go_wp2_with (go_at_call 43; with_reducible refine K.out.mono ?_; rintro e w1 ⟨rfl, rfl⟩)
    go_ret
    exact ⟨rfl, rfl⟩
  · have hpos : 0 < t.size := by omega
    have hne := Lex.ne_nil hpos
    have K0 := Lib.hid (isBlank_any t[0] w)
    have K1 := Lib.hid (prefix_any t w)
    have hz : (0 : Int) < (t.size : Int) := by omega
    clear h0
    rcases Lex.white1_of t hpos with ⟨h1, h2⟩ | ⟨h1, h2, h3⟩ | ⟨h1, h2, h3, h4⟩ | ⟨h1, h2, h3, h4⟩
    · rw [h2]
      rw [h1] at K0
      clear h1 h2
      go_enter Tryz.func31, Tryz.ntmps31
      go_wp2_with (go_at_call 42; with_reducible refine K0.out.mono ?_; rintro e w1 ⟨rfl, rfl⟩)
      go_ret
      exact ⟨rfl, rfl⟩
    · rw [h3]
      rw [h1] at K0
      rw [h2] at K1
      clear h1 h2 h3
      go_enter Tryz.func31, Tryz.ntmps31
      go_wp2_with (first | (go_at_call 42; with_reducible refine K0.out.mono ?_; rintro e w1 ⟨rfl, rfl⟩) | (go_at_call 43; with_reducible refine K1.out.mono ?_; rintro e w1 ⟨rfl, rfl⟩))
      go_ret
      exact ⟨rfl, rfl⟩
    · rw [h4]
      rw [h1] at K0
      rw [h2] at K1
      have h3z : ¬ (2 : Int) < (t.size : Int) := by omega
      clear h1 h2 h3 h4
      go_enter Tryz.func31, Tryz.ntmps31
      go_wp2_with (first | (go_at_call 42; with_reducible refine K0.out.mono ?_; rintro e w1 ⟨rfl, rfl⟩) | (go_at_call 43; with_reducible refine K1.out.mono ?_; rintro e w1 ⟨rfl, rfl⟩))
      go_ret
      exact ⟨rfl, rfl⟩
    · rw [h4]
      rw [h1] at K0
      rw [h2] at K1
      have h3z : (2 : Int) < (t.size : Int) := by omega
      have K2 := Lib.hid (isBlank_any t[2] w)
      clear h1 h2 h4
      cases hx : Lex.blankB t[2]
      · rw [hx] at K2
        clear hx
        go_enter Tryz.func31, Tryz.ntmps31
        go_wp2_with (first | (go_at_call 42; with_reducible refine K0.out.mono ?_; rintro e w1 ⟨rfl, rfl⟩) | (go_at_call 43; with_reducible refine K1.out.mono ?_; rintro e w1 ⟨rfl, rfl⟩) | (go_at_call 42; with_reducible refine K2.out.mono ?_; rintro e w1 ⟨rfl, rfl⟩))
        go_ret
        exact ⟨rfl, rfl⟩
      · rw [hx] at K2
        clear hx
        go_enter Tryz.func31, Tryz.ntmps31
        go_wp2_with (first | (go_at_call 42; with_reducible refine K0.out.mono ?_; rintro e w1 ⟨rfl, rfl⟩) | (go_at_call 43; with_reducible refine K1.out.mono ?_; rintro e w1 ⟨rfl, rfl⟩) | (go_at_call 42; with_reducible refine K2.out.mono ?_; rintro e w1 ⟨rfl, rfl⟩))
        go_ret
        exact ⟨rfl, rfl⟩
set_option maxHeartbeats 1000000 in
set_option maxRecDepth 100000 in
theorem meant_any (s : ByteArray) (k : Nat) (hk : k < s.size) (w : World) (hs : s.size ≤ 100000) :
    Calls Tryz.prog 39 #[.string s, .int .i64 k] w fun e w' => e = .returned (.int .i64 ((if s[k].toNat = 92 ∧ k + 1 < s.size then k + 1 else k : Nat) : Int)) ∧ w = w' := by
  have hkz : (k : Int) < (s.size : Int) := by omega
  by_cases h1 : s[k].toNat = 92
  · by_cases h2 : k + 1 < s.size
    · rw [if_pos ⟨h1, h2⟩]
      have h2z : (k : Int) + 1 < (s.size : Int) := by omega
      go_enter Tryz.func39, Tryz.ntmps39
      go_wp2
      go_ret
      exact ⟨by simp, rfl⟩
    · rw [if_neg (fun h => h2 h.2)]
      have h2z : ¬ (k : Int) + 1 < (s.size : Int) := by omega
      go_enter Tryz.func39, Tryz.ntmps39
      go_wp2
      go_ret
      exact ⟨rfl, rfl⟩
  · rw [if_neg (fun h => h1 h.1)]
    have h1z : ((s[k].toNat : Int) == 92) = false := by simpa using (by omega : ¬ (s[k].toNat : Int) = 92)
    clear h1
    go_enter Tryz.func39, Tryz.ntmps39
    go_wp2
    go_ret
    exact ⟨rfl, rfl⟩
set_option maxHeartbeats 4000000 in
set_option maxRecDepth 100000 in
theorem runEnd_any (g : Nat) (n : List UInt8 → Nat) (hn : ∀ l, n l ≤ l.length) (eg : ∀ args w, (callFunc g args).run Tryz.prog w = .ok (.enter g args) w)
    (hf : ∀ (t : ByteArray) (W : World), t.size ≤ 100000 → Calls Tryz.prog g #[.string t] W fun e w' => e = .returned (.int .i64 (n t.data.toList : Nat)) ∧ W = w')
    (s : ByteArray) (k : Nat) (hk : k ≤ s.size) (w : World) (hs : s.size ≤ 100000) :
    Calls Tryz.prog 19 #[.string s, .int .i64 k, .func (.func g) #[] #[]] w fun e w' => e = .returned (.int .i64 ((k + Lex.run n (s.data.toList.drop k).length (s.data.toList.drop k) : Nat) : Int)) ∧ w = w' := by
  have hkz : (k : Int) ≤ (s.size : Int) := by omega
  have K : Hid (∀ j, j ≤ s.size → Calls Tryz.prog g #[.string (s.extract j s.size)] w fun e w' => e = .returned (.int .i64 (n (s.data.toList.drop j) : Nat)) ∧ w = w') := Lib.hid fun j hj => by
    have h := hf (s.extract j s.size) w (by rw [ByteArray.size_extract]; omega)
    rwa [Lex.drop_of] at h
  have NL : Hid (∀ j, j ≤ s.size → n (s.data.toList.drop j) ≤ s.size - j) := Lib.hid fun j _ => by
    have h := hn (s.data.toList.drop j)
    rw [List.length_drop] at h
    simpa using h
  have N0 : Hid (∀ j, j ≤ s.size → n (s.data.toList.drop j) = 0 → Lex.run n (s.data.toList.drop j).length (s.data.toList.drop j) = 0) := Lib.hid fun j _ h => Lex.run_end hn h
  have N1 : Hid (∀ j, j ≤ s.size → n (s.data.toList.drop j) ≠ 0 → Lex.run n (s.data.toList.drop j).length (s.data.toList.drop j) = n (s.data.toList.drop j) + Lex.run n (s.data.toList.drop (j + n (s.data.toList.drop j))).length (s.data.toList.drop (j + n (s.data.toList.drop j)))) := Lib.hid fun j _ h => by
    have := Lex.run_on hn h
    rw [List.drop_drop] at this
    exact this
  obtain ⟨N, hN⟩ : ∃ N, N = fun j => n (s.data.toList.drop j) := ⟨_, rfl⟩
  obtain ⟨R, hR⟩ : ∃ R, R = fun j => Lex.run n (s.data.toList.drop j).length (s.data.toList.drop j) := ⟨_, rfl⟩
  have K : Hid (∀ j, j ≤ s.size → Calls Tryz.prog g #[.string (s.extract j s.size)] w fun e w' => e = .returned (.int .i64 (N j : Int)) ∧ w = w') := by rw [hN]; exact K
  have NL : Hid (∀ j, j ≤ s.size → N j ≤ s.size - j) := by rw [hN]; exact NL
  have N0 : Hid (∀ j, j ≤ s.size → N j = 0 → R j = 0) := by rw [hN, hR]; exact N0
  have N1 : Hid (∀ j, j ≤ s.size → N j ≠ 0 → R j = N j + R (j + N j)) := by rw [hN, hR]; exact N1
  obtain ⟨T, hT⟩ : ∃ T, T = k + R k := ⟨_, rfl⟩
  rw [show k + Lex.run n (s.data.toList.drop k).length (s.data.toList.drop k) = T by rw [hT, hR]]
  have HT := Lib.hid hT
  clear hT
  clear hN hR hn hf
  obtain ⟨a, ha⟩ : ∃ a, a = N k := ⟨_, rfl⟩
  have K0 := K.out k hk
  rw [← ha] at K0
  have K0 := Lib.hid K0
  have HA := Lib.hid ha
  clear ha
  go_enter Tryz.func19, Tryz.ntmps19
  go_wp2_with fail
  refine K0.out.mono ?_
  rintro e w1 ⟨rfl, rfl⟩
  go_wp2
  go_loopg [1, 7] (s.size + 1) (fun gk s1 s7 wr => ∃ j a : Nat, s1 = .int .i64 j ∧ s7 = .int .i64 a ∧ j ≤ s.size ∧ s.size - j < gk ∧ Hid (a = N j ∧ j + R j = T) ∧ w = wr)
  case atStart => exact ⟨k, a, rfl, rfl, hk, by omega, ⟨HA.out, HT.out.symm⟩, rfl⟩
  case round =>
    obtain ⟨j, a, rfl, rfl, hj, hg, I, rfl⟩ := hrel
    by_cases h0 : a = 0
    · have haz : ¬ (0 : Int) < (a : Int) := by omega
      have I2 : Hid (j = T) := Lib.hid (by
        have h1 := N0.out j hj (by rw [← I.out.1]; exact h0)
        have := I.out.2
        omega)
      clear h0 I
      go_wp2
      go_ret
      obtain rfl : j = T := I2.out
      exact ⟨rfl, rfl⟩
    · have ha : 0 < a := by omega
      have haz : (0 : Int) < (a : Int) := by omega
      have hle : j + a ≤ s.size := by have := NL.out j hj; rw [← I.out.1] at this; omega
      have hlez : (j : Int) + (a : Int) ≤ (s.size : Int) := by omega
      obtain ⟨b, hb⟩ : ∃ b, b = N (j + a) := ⟨_, rfl⟩
      have K1 := K.out (j + a) hle
      rw [← hb] at K1
      have K1 := Lib.hid K1
      have I2 : Hid (b = N (j + a) ∧ (j + a) + R (j + a) = T) := Lib.hid ⟨hb, by
        have h1 := N1.out j hj (by rw [← I.out.1]; exact h0)
        rw [← I.out.1] at h1
        have := I.out.2
        omega⟩
      clear hb h0
      go_wp2_with fail
      refine K1.out.mono ?_
      rintro e w1 ⟨rfl, rfl⟩
      go_wp2
      go_roundg (s.size - j)
      case measure => omega
      case rel => exact ⟨j + a, b, by go_num, rfl, hle, by omega, I2, rfl⟩
end Go.Proofs.YtmcjgdajnppbhaaGreatDoor
