/-
  Proved here: what the program reads of a literal, and of a quote, whose opening end stands at a place. Conditions: strings of at most 100,000 bytes.
-/
import Derived.Test.YtmcjgdajnppbhaaGreatDoorLexRun
import Derived.Test.YtmcjgdajnppbhaaGreatDoorUtfMore
namespace Go.Proofs.YtmcjgdajnppbhaaGreatDoor
open Go.RowKit Utf
namespace Lex
theorem on_on (r : Cut) (x y : List UInt8) (a b : Nat) : (r.on x a).on y b = r.on (y ++ x) (a + b) := by
  cases r <;> simp [Cut.on, Nat.add_assoc]
theorem on_nil (r : Cut) : r.on [] 0 = r := by cases r <;> rfl
/-- What is told of what comes of cutting, from a place on. -/
def told (k : Nat) : Cut → Value
  | .fine x n => .tuple #[.string ⟨x.toArray⟩, .int .i64 ((k + n : Nat) : Int), .int .i64 0]
  | .bad i => .tuple #[.string ⟨#[]⟩, .int .i64 ((k + i : Nat) : Int), .int .i64 4]
  | .deep i => .tuple #[.string ⟨#[]⟩, .int .i64 ((k + i : Nat) : Int), .int .i64 6]
  | .gap => .tuple #[.string ⟨#[]⟩, .int .i64 (k : Int), .int .i64 4]
theorem next_of {s : ByteArray} {a j : Nat} (h1 : a ≤ j) (h2 : j < s.size) : (s.data.toList.drop a).take (j + 1 - a) = (s.data.toList.drop a).take (j - a) ++ [s[j]] := by
  rw [show j + 1 - a = (j - a) + 1 by omega, List.take_add_one, List.getElem?_drop, show a + (j - a) = j by omega, List.getElem?_eq_getElem (by simpa using h2)]
  rfl
/-- What is known of a literal's bytes up to a place. -/
def LitTo (s : ByteArray) (a j : Nat) : Prop := lit (s.data.toList.drop a) = (lit (s.data.toList.drop j)).on ((s.data.toList.drop a).take (j - a)) (j - a)
theorem litTo_0 (s : ByteArray) (a : Nat) : LitTo s a a := by
  unfold LitTo
  rw [Nat.sub_self, List.take_zero, on_nil]
theorem lit_cons (c : UInt8) (t : List UInt8) : lit (c :: t) = if c.toNat = 93 then .fine [] 1 else if printN c.toNat = true ∧ c.toNat ≠ 91 ∧ c.toNat ≠ 92 then (lit t).on [c] 1 else .bad 0 := by rw [lit]
theorem litTo_end {s : ByteArray} {a j : Nat} (h : LitTo s a j) (hj : j < s.size) (hc : s[j].toNat = 93) : lit (s.data.toList.drop a) = .fine ((s.data.toList.drop a).take (j - a)) (j - a + 1) := by
  rw [h, drop_next s j hj, lit_cons, if_pos hc]
  simp [Cut.on]
  omega
theorem litTo_bad {s : ByteArray} {a j : Nat} (h : LitTo s a j) (hj : j < s.size) (hc : s[j].toNat ≠ 93) (hb : ¬ (printN s[j].toNat = true ∧ s[j].toNat ≠ 91 ∧ s[j].toNat ≠ 92)) : lit (s.data.toList.drop a) = .bad (j - a) := by
  rw [h, drop_next s j hj, lit_cons, if_neg hc, if_neg hb]
  simp [Cut.on]
theorem litTo_on {s : ByteArray} {a j : Nat} (h : LitTo s a j) (h1 : a ≤ j) (hj : j < s.size) (hc : s[j].toNat ≠ 93) (hb : printN s[j].toNat = true ∧ s[j].toNat ≠ 91 ∧ s[j].toNat ≠ 92) : LitTo s a (j + 1) := by
  unfold LitTo at h ⊢
  rw [h, drop_next s j hj, lit_cons, if_neg hc, if_pos hb, on_on, next_of h1 hj, show 1 + (j - a) = j + 1 - a by omega]
theorem litTo_gap {s : ByteArray} {a : Nat} (h : LitTo s a s.size) : lit (s.data.toList.drop a) = .gap := by
  rw [h, show s.data.toList.drop s.size = [] from List.drop_of_length_le (by simp)]
  rfl
theorem told_fine {k n : Nat} {x : List UInt8} {s : ByteArray} {i j : Nat} {m : Int} (hs : s.extract i j = ⟨x.toArray⟩) (hm : ((k + 1 + n : Nat) : Int) = m) : told k (Cut.top (.fine x n)) = .tuple #[.string (s.extract i j), .int .i64 m, .int .i64 0] := by
  subst hm
  rw [hs]
  show Value.tuple #[_, .int .i64 ((k + (n + 1) : Nat) : Int), _] = _
  rw [show k + (n + 1) = k + 1 + n by omega]
theorem told_bad {k i : Nat} {m : Int} (hm : ((k + 1 + i : Nat) : Int) = m) : told k (Cut.top (.bad i)) = .tuple #[.string ⟨#[]⟩, .int .i64 m, .int .i64 4] := by
  subst hm
  show Value.tuple #[_, .int .i64 ((k + (i + 1) : Nat) : Int), _] = _
  rw [show k + (i + 1) = k + 1 + i by omega]
theorem told_deep {k i : Nat} {m : Int} (hm : ((k + 1 + i : Nat) : Int) = m) : told k (Cut.top (.deep i)) = .tuple #[.string ⟨#[]⟩, .int .i64 m, .int .i64 6] := by
  subst hm
  show Value.tuple #[_, .int .i64 ((k + (i + 1) : Nat) : Int), _] = _
  rw [show k + (i + 1) = k + 1 + i by omega]
theorem told_gap {k : Nat} : told k (Cut.top .gap) = .tuple #[.string ⟨#[]⟩, .int .i64 (k : Int), .int .i64 4] := rfl
end Lex
set_option maxHeartbeats 4000000 in
set_option maxRecDepth 100000 in
theorem literal_any (s : ByteArray) (k : Nat) (hk : k < s.size) (w : World) (hs : s.size ≤ 100000) :
    Calls Tryz.prog 29 #[.string s, .int .i64 k] w fun e w' => e = .returned (Lex.told k (Lex.lit (s.data.toList.drop (k + 1))).top) ∧ w = w' := by
  obtain ⟨R, hR⟩ : ∃ R, R = Lex.told k (Lex.lit (s.data.toList.drop (k + 1))).top := ⟨_, rfl⟩
  rw [← hR]
  have HR := Lib.hid hR
  clear hR
  go_enter Tryz.func29, Tryz.ntmps29
  go_wp2
  go_loopg [7] (s.size + 1) (fun gk s7 wr => ∃ j : Nat, s7 = .int .i64 j ∧ k + 1 ≤ j ∧ j ≤ s.size ∧ s.size - j < gk ∧ Hid (Lex.LitTo s (k + 1) j) ∧ w = wr)
  case atStart => exact ⟨k + 1, by go_num, Nat.le_refl _, by omega, by omega, Lib.hid (Lex.litTo_0 _ _), rfl⟩
  case round =>
    obtain ⟨j, rfl, hj1, hj, hg, I, rfl⟩ := hrel
    by_cases hlt : j < s.size
    · have hjz : (j : Int) < (s.size : Int) := by omega
      by_cases h93 : s[j].toNat = 93
      · have E : Hid (R = .tuple #[.string (s.extract (k + 1) j), .int .i64 ((j : Int) + 1), .int .i64 0]) := Lib.hid (by
          rw [HR.out, Lex.litTo_end I.out hlt h93]
          exact Lex.told_fine (by rw [← Lex.sub_of]) (by omega))
        have hkj : (k : Int) + 1 ≤ (j : Int) := by omega
        clear I
        go_wp2
        go_ret3
        exact ⟨congrArg Ending.returned E.out.symm, rfl⟩
      · have h93z : ((s[j].toNat : Int) == 93) = false := by simpa using (by omega : ¬ (s[j].toNat : Int) = 93)
        have K := isPrinted_any s[j] w
        by_cases h91 : s[j].toNat = 91
        · have E : Hid (R = .tuple #[.string ⟨#[]⟩, .int .i64 (j : Int), .int .i64 4]) := Lib.hid (by
            rw [HR.out, Lex.litTo_bad I.out hlt h93 (fun h => h.2.1 h91)]
            exact Lex.told_bad (by omega))
          clear I h93 K
          go_wp2
          go_ret3
          exact ⟨congrArg Ending.returned E.out.symm, rfl⟩
        · have h91z : ((s[j].toNat : Int) == 91) = false := by simpa using (by omega : ¬ (s[j].toNat : Int) = 91)
          by_cases h92 : s[j].toNat = 92
          · have E : Hid (R = .tuple #[.string ⟨#[]⟩, .int .i64 (j : Int), .int .i64 4]) := Lib.hid (by
              rw [HR.out, Lex.litTo_bad I.out hlt h93 (fun h => h.2.2 h92)]
              exact Lex.told_bad (by omega))
            clear I h93 h91 K
            go_wp2
            go_ret3
            exact ⟨congrArg Ending.returned E.out.symm, rfl⟩
          · have h92z : ((s[j].toNat : Int) == 92) = false := by simpa using (by omega : ¬ (s[j].toNat : Int) = 92)
            cases hp : Lex.printN s[j].toNat with
            | false =>
              rw [hp] at K
              have K := Lib.hid K
              have E : Hid (R = .tuple #[.string ⟨#[]⟩, .int .i64 (j : Int), .int .i64 4]) := Lib.hid (by
                rw [HR.out, Lex.litTo_bad I.out hlt h93 (fun h => by rw [hp] at h; exact Bool.noConfusion h.1)]
                exact Lex.told_bad (by omega))
              clear I h93 h91 h92 hp
              go_wp2_with (go_at_call 41; with_reducible refine K.out.mono ?_; rintro e w1 ⟨rfl, rfl⟩)
              go_ret3
              exact ⟨congrArg Ending.returned E.out.symm, rfl⟩
            | true =>
              rw [hp] at K
              have K := Lib.hid K
              have I2 := Lib.hid (Lex.litTo_on I.out hj1 hlt h93 ⟨hp, h91, h92⟩)
              clear I h93 h91 h92 hp
              go_wp2_with (go_at_call 41; with_reducible refine K.out.mono ?_; rintro e w1 ⟨rfl, rfl⟩)
              go_roundg (s.size - j)
              case measure => omega
              case rel => exact ⟨j + 1, by go_num, by omega, by omega, by omega, I2, rfl⟩
    · obtain rfl : j = s.size := by omega
      have E : Hid (R = .tuple #[.string ⟨#[]⟩, .int .i64 (k : Int), .int .i64 4]) := Lib.hid (by rw [HR.out, Lex.litTo_gap I.out]; rfl)
      have hjz : ¬ (s.size : Int) < (s.size : Int) := by omega
      clear I
      go_wp2
      go_ret3
      exact ⟨congrArg Ending.returned E.out.symm, rfl⟩
namespace Lex
theorem quo_is (c : UInt8) (t : List UInt8) (h34 : c.toNat ≠ 34) (h92 : c.toNat ≠ 92) : quo (c :: t) = if fineB c then (quo t).on [c] 1 else .bad 0 := by
  rw [quo.eq_def]
  simp only [if_neg h34, if_neg h92]
theorem quo_sl (c : UInt8) (t : List UInt8) (h92 : c.toNat = 92) : quo (c :: t) = match t with | [] => .gap | d :: r => if fineB d then (quo r).on [d] 2 else .bad 1 := by
  rw [quo.eq_def]
  simp only [if_neg (show ¬ c.toNat = 34 by omega), if_pos h92]
  cases t <;> rfl
theorem quo_end34 (c : UInt8) (t : List UInt8) (h34 : c.toNat = 34) : quo (c :: t) = .fine [] 1 := by
  rw [quo.eq_def]
  simp only [if_pos h34]
/-- What is known of a quote's bytes up to a place, x having been said. -/
def QuoTo (s : ByteArray) (a j : Nat) (x : List UInt8) : Prop := (j < s.size → quo (s.data.toList.drop a) = (quo (s.data.toList.drop j)).on x (j - a)) ∧ (j = s.size → quo (s.data.toList.drop a) = .gap)
theorem quoTo_0 {s : ByteArray} {a : Nat} : QuoTo s a a [] := by
  refine ⟨fun _ => by rw [Nat.sub_self, on_nil], fun h => ?_⟩
  rw [h, show s.data.toList.drop s.size = [] from List.drop_of_length_le (by simp)]
  rfl
theorem quoTo_end {s : ByteArray} {a j : Nat} {x : List UInt8} (h : QuoTo s a j x) (hj : j < s.size) (hc : s[j].toNat = 34) : quo (s.data.toList.drop a) = .fine x (j - a + 1) := by
  rw [h.1 hj, drop_next s j hj, quo_end34 _ _ hc]
  simp [Cut.on]
  omega
/-- The place whose byte is meant, and what comes of it. -/
theorem quoTo_next {s : ByteArray} {a j m : Nat} {x : List UInt8} (h : QuoTo s a j x) (h1 : a ≤ j) (hj : j < s.size) (hc : s[j].toNat ≠ 34) (hm : m = if s[j].toNat = 92 ∧ j + 1 < s.size then j + 1 else j) (hmz : m < s.size) :
    (fineB s[m] = false → quo (s.data.toList.drop a) = .bad (m - a)) ∧ (fineB s[m] = true → QuoTo s a (m + 1) (x ++ [s[m]])) := by
  have h0 := h.1 hj
  have hend : s.data.toList.drop s.size = [] := List.drop_of_length_le (by simp)
  by_cases h92 : s[j].toNat = 92
  · by_cases h2 : j + 1 < s.size
    · rw [if_pos ⟨h92, h2⟩] at hm
      subst hm
      rw [drop_next s j hj, quo_sl _ _ h92, drop_next s (j + 1) h2] at h0
      simp only at h0
      constructor
      · intro hf
        rw [if_neg (by rw [hf]; decide)] at h0
        rw [h0]
        show Cut.bad (1 + (j - a)) = _
        rw [show 1 + (j - a) = j + 1 - a by omega]
      · intro hf
        rw [if_pos hf, on_on, show 2 + (j - a) = j + 1 + 1 - a by omega] at h0
        refine ⟨fun _ => h0, fun he => ?_⟩
        rw [h0, he, hend]
        rfl
    · rw [if_neg (fun h => h2 h.2)] at hm
      subst hm
      have he : m + 1 = s.size := by omega
      have hf : fineB s[m] = true := by unfold fineB; rw [h92]; decide
      rw [drop_next s m hj, quo_sl _ _ h92, he, hend] at h0
      refine ⟨fun h => (by rw [hf] at h; cases h), fun _ => ⟨fun h => absurd h (by omega), fun _ => ?_⟩⟩
      rw [h0]
      rfl
  · rw [if_neg (fun h => h92 h.1)] at hm
    subst hm
    rw [drop_next s m hj, quo_is _ _ hc h92] at h0
    constructor
    · intro hf
      rw [if_neg (by rw [hf]; decide)] at h0
      rw [h0]
      show Cut.bad (0 + (m - a)) = _
      rw [Nat.zero_add]
    · intro hf
      rw [if_pos hf, on_on, show 1 + (m - a) = m + 1 - a by omega] at h0
      refine ⟨fun _ => h0, fun he => ?_⟩
      rw [h0, he, hend]
      rfl
theorem told_quo {k n : Nat} {x : List UInt8} {m : Int} (hm : ((k + 1 + n : Nat) : Int) = m) : told k (Cut.top (.fine x n)) = .tuple #[.string ⟨x.toArray⟩, .int .i64 m, .int .i64 0] := by
  subst hm
  show Value.tuple #[_, .int .i64 ((k + (n + 1) : Nat) : Int), _] = _
  rw [show k + (n + 1) = k + 1 + n by omega]
end Lex
set_option maxHeartbeats 4000000 in
set_option maxRecDepth 100000 in
theorem quote_any (s : ByteArray) (k : Nat) (hk : k < s.size) (w : World) (hs : s.size ≤ 100000) :
    Calls Tryz.prog 28 #[.string s, .int .i64 k] w fun e w' => e = .returned (Lex.told k (Lex.quo (s.data.toList.drop (k + 1))).top) ∧ Below w.heap.size w w' := by
  obtain ⟨R, hR⟩ : ∃ R, R = Lex.told k (Lex.quo (s.data.toList.drop (k + 1))).top := ⟨_, rfl⟩
  rw [← hR]
  have HR := Lib.hid hR
  clear hR
  go_enter Tryz.func28, Tryz.ntmps28
  go_wp2
  go_loopg [7, 8] (s.size + 1) (fun gk s7 s8 wr => ∃ (j : Nat) (x : List UInt8), s8 = .int .i64 j ∧ k + 1 ≤ j ∧ j ≤ s.size ∧ s.size - j < gk ∧ Hid (Lex.QuoTo s (k + 1) j x ∧ OwnB w.heap.size s7 x wr ∧ x.length ≤ j ∧ Below w.heap.size w wr))
  case atStart => exact ⟨k + 1, [], by go_num, Nat.le_refl _, by omega, by omega, Lib.hid ⟨Lex.quoTo_0, OwnB.nil _ _, Nat.zero_le _, Below.refl _ _⟩⟩
  case round =>
    obtain ⟨j, x, rfl, hj1, hj, hg, I⟩ := hrel
    by_cases hlt : j < s.size
    · have hjz : (j : Int) < (s.size : Int) := by omega
      by_cases h34 : s[j].toNat = 34
      · have E : Hid (R = .tuple #[.string ⟨x.toArray⟩, .int .i64 ((j : Int) + 1), .int .i64 0]) := Lib.hid (by
          rw [HR.out, Lex.quoTo_end I.out.1 hlt h34]
          exact Lex.told_quo (by omega))
        have hcv := string_of I.out.2.1.bytes
        go_wp2
        go_ret3
        exact ⟨congrArg Ending.returned E.out.symm, I.out.2.2.2⟩
      · have h34z : ((s[j].toNat : Int) == 34) = false := by simpa using (by omega : ¬ (s[j].toNat : Int) = 34)
        have K := meant_any s j hlt wr hs
        obtain ⟨m, hm⟩ : ∃ m, m = if s[j].toNat = 92 ∧ j + 1 < s.size then j + 1 else j := ⟨_, rfl⟩
        rw [← hm] at K
        have hmz : m < s.size ∧ j ≤ m := by
          rw [hm]
          split
          · rename_i h; exact ⟨h.2, by omega⟩
          · exact ⟨hlt, Nat.le_refl _⟩
        obtain ⟨hm1, hjm⟩ := hmz
        have N := Lex.quoTo_next I.out.1 hj1 hlt h34 hm hm1
        have K := Lib.hid K
        have hmi : (m : Int) < (s.size : Int) := by omega
        have KT := isText_any s[m] wr
        clear hm h34
        cases hf : Lex.fineB s[m] with
        | false =>
          have E : Hid (R = .tuple #[.string ⟨#[]⟩, .int .i64 (m : Int), .int .i64 4]) := Lib.hid (by
            rw [HR.out, N.1 hf]
            exact Lex.told_bad (by omega))
          rw [hf] at KT
          have KT := Lib.hid KT
          clear N hf
          go_wp2_with (first | (go_at_call 39; with_reducible refine K.out.mono ?_; rintro e w1 ⟨rfl, rfl⟩) | (go_at_call 40; with_reducible refine KT.out.mono ?_; rintro e w1 ⟨rfl, rfl⟩))
          go_ret3
          exact ⟨congrArg Ending.returned E.out.symm, I.out.2.2.2⟩
        | true =>
          have N2 := Lib.hid (N.2 hf)
          rw [hf] at KT
          have KT := Lib.hid KT
          have hxl : x.length ≤ 1000000 := by have := I.out.2.2.1; omega
          clear N hf
          go_wp2_with (first
            | (go_at_call 39; with_reducible refine K.out.mono ?_; rintro e w1 ⟨rfl, rfl⟩)
            | (go_at_call 40; with_reducible refine KT.out.mono ?_; rintro e w1 ⟨rfl, rfl⟩)
            | (at_builtin; refine append_cells _ 36 5 (.int .u8 0) 1 Tryz.underlying36 info_u8 rfl (by omega) w.heap.size u7 _ _ I.out.2.1 I.out.2.2.2.size hxl 1 (by omega) _ rfl rfl rfl _ _ rfl rfl rfl ?_; intro v2 w2 ho2 hb2; have HO := Lib.hid ho2; have HB2 := Lib.hid hb2; clear ho2 hb2))
          have I2 : Hid (Lex.QuoTo s (k + 1) (m + 1) (x ++ [s[m]]) ∧ OwnB w.heap.size v2 (x ++ [s[m]]) w2 ∧ (x ++ [s[m]]).length ≤ m + 1 ∧ Below w.heap.size w w2) :=
            Lib.hid ⟨N2.out, OwnB.more HO.out rfl rfl, by rw [List.length_append]; have := I.out.2.2.1; simp; omega, I.out.2.2.2.trans HB2.out⟩
          go_roundg (s.size - j)
          case measure => omega
          case rel => exact ⟨m + 1, x ++ [s[m]], by go_num, by omega, by omega, by omega, I2⟩
    · obtain rfl : j = s.size := by omega
      have E : Hid (R = .tuple #[.string ⟨#[]⟩, .int .i64 (k : Int), .int .i64 4]) := Lib.hid (by rw [HR.out, I.out.1.2 rfl]; rfl)
      have hjz : ¬ (s.size : Int) < (s.size : Int) := by omega
      go_wp2
      go_ret3
      exact ⟨congrArg Ending.returned E.out.symm, I.out.2.2.2⟩
end Go.Proofs.YtmcjgdajnppbhaaGreatDoor
