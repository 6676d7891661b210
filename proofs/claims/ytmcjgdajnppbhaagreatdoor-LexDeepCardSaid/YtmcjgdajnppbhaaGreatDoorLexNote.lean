/-
  Proved here: a scope that is left ahead by a goto to one of two labels; what the program reads of a note whose opening end stands at a place. Conditions: strings of at most 100,000 bytes.
-/
import Derived.Test.YtmcjgdajnppbhaaGreatDoorLexEnds
import Derived.Test.YtmcjgdajnppbhaaGreatDoorUtfMem
namespace Go.Proofs.YtmcjgdajnppbhaaGreatDoor
open Go.RowKit Utf
section
variable {P : Program} {Q : Exit → Act → World → Prop} {a : Act} {w : World}
/-- Where a goto goes ahead to one of two labels. -/
def jump2 (l m : Nat) (J K : Act → World → Prop) (Q : Exit → Act → World → Prop) : Exit → Act → World → Prop
  | .goto l', a, w => (l' = l ∧ J a w) ∨ (l' = m ∧ K a w)
  | e, a, w => Q e a w
theorem wp_ahead2 {c r1 r2 : Code} (l m : Nat) (h1 : findLabel c l = some r1) (h2 : findLabel c m = some r2)
    (h : c.wp P (jump2 l m (fun a' w' => r1.wp P (Exit.noGoto Q) a' w') (fun a' w' => r2.wp P (Exit.noGoto Q) a' w') Q) a w) : (Code.scope c).wp P Q a w := by
  intro b k cs
  have key : ∀ (r : Code) (a : Act) (w : World), r.wp P (Exit.noGoto Q) a w → ∃ e a' w', Q e a' w' ∧ Arrives P (lone (b.at a (.code r :: .inScope c :: k)) cs w) b k cs e a' w' := by
    intro r a w hr
    obtain ⟨e, a₁, w₁, hq, harr⟩ := hr b (.inScope c :: k) cs
    cases e with
    | normal => exact ⟨.normal, a₁, w₁, hq, Steps.trans harr (.one step_inScope)⟩
    | exit id => exact ⟨.exit id, a₁, w₁, hq, fun k' hk => harr k' (by simp [exitTo, hk])⟩
    | goto l' => exact hq.elim
    | ret => exact ⟨_, a₁, w₁, hq, harr⟩
    | panic ch => exact ⟨_, a₁, w₁, hq, harr⟩
    | outgrown => exact ⟨_, a₁, w₁, hq, harr⟩
  obtain ⟨e, a₁, w₁, hq, harr⟩ := h b (.inScope c :: k) cs
  cases e with
  | normal => exact ⟨.normal, a₁, w₁, hq, .head step_scope (Steps.trans harr (.one step_inScope))⟩
  | exit id => exact ⟨.exit id, a₁, w₁, hq, fun k' hk => .head step_scope (harr k' (by simp [exitTo, hk]))⟩
  | goto l' =>
    rcases hq with ⟨rfl, hJ⟩ | ⟨rfl, hK⟩
    · obtain ⟨e₂, a₂, w₂, hq₂, harr₂⟩ := key _ a₁ w₁ hJ
      exact ⟨e₂, a₂, w₂, hq₂, .of_steps (.head step_scope (harr _ (by simp [gotoIn, h1]))) harr₂⟩
    · obtain ⟨e₂, a₂, w₂, hq₂, harr₂⟩ := key _ a₁ w₁ hK
      exact ⟨e₂, a₂, w₂, hq₂, .of_steps (.head step_scope (harr _ (by simp [gotoIn, h2]))) harr₂⟩
  | ret => exact ⟨_, a₁, w₁, hq, .of_steps (.one step_scope) harr⟩
  | panic ch => exact ⟨_, a₁, w₁, hq, .of_steps (.one step_scope) harr⟩
  | outgrown => exact ⟨_, a₁, w₁, hq, .of_steps (.one step_scope) harr⟩
theorem jump2_ret (l m : Nat) (J K : Act → World → Prop) : jump2 l m J K Q .ret a w = Q .ret a w := rfl
end
namespace Lex
/-- What is known of a note's bytes up to a place, d deep there. -/
def NoteTo (s : ByteArray) (a j d : Nat) : Prop := (j < s.size → note (s.data.toList.drop a) 1 = (note (s.data.toList.drop j) d).on ((s.data.toList.drop a).take (j - a)) (j - a)) ∧ (j = s.size → note (s.data.toList.drop a) 1 = .gap)
theorem drop_end (s : ByteArray) : s.data.toList.drop s.size = [] := List.drop_of_length_le (by simp)
theorem noteTo_0 {s : ByteArray} {a : Nat} : NoteTo s a a 1 := by
  refine ⟨fun _ => by rw [Nat.sub_self, List.take_zero, on_nil], fun h => ?_⟩
  rw [h, drop_end]
  rfl
theorem noteTo_deep {s : ByteArray} {a j d : Nat} (h : NoteTo s a j d) (hj : j < s.size) (hc : s[j].toNat = 40) (hd : 32 ≤ d) : note (s.data.toList.drop a) 1 = .deep (j - a) := by
  rw [h.1 hj, drop_next s j hj, note_40 hc, if_pos hd]
  show Cut.deep (0 + (j - a)) = _
  rw [Nat.zero_add]
theorem noteTo_in {s : ByteArray} {a j d : Nat} (h : NoteTo s a j d) (h1 : a ≤ j) (hj : j < s.size) (hc : s[j].toNat = 40) (hd : ¬ 32 ≤ d) : NoteTo s a (j + 1) (d + 1) := by
  have h0 := h.1 hj
  rw [drop_next s j hj, note_40 hc, if_neg hd, on_on, ← next_of h1 hj, show 1 + (j - a) = j + 1 - a by omega] at h0
  refine ⟨fun _ => h0, fun he => ?_⟩
  rw [h0, he, drop_end]
  rfl
theorem noteTo_end {s : ByteArray} {a j d : Nat} (h : NoteTo s a j d) (hj : j < s.size) (hc : s[j].toNat = 41) (hd : d ≤ 1) : note (s.data.toList.drop a) 1 = .fine ((s.data.toList.drop a).take (j - a)) (j - a + 1) := by
  rw [h.1 hj, drop_next s j hj, note_41 hc, if_pos hd]
  simp [Cut.on]
  omega
theorem noteTo_out {s : ByteArray} {a j d : Nat} (h : NoteTo s a j d) (h1 : a ≤ j) (hj : j < s.size) (hc : s[j].toNat = 41) (hd : ¬ d ≤ 1) : NoteTo s a (j + 1) (d - 1) := by
  have h0 := h.1 hj
  rw [drop_next s j hj, note_41 hc, if_neg hd, on_on, ← next_of h1 hj, show 1 + (j - a) = j + 1 - a by omega] at h0
  refine ⟨fun _ => h0, fun he => ?_⟩
  rw [h0, he, drop_end]
  rfl
theorem noteTo_next {s : ByteArray} {a j m d : Nat} (h : NoteTo s a j d) (h1 : a ≤ j) (hj : j < s.size) (hc : s[j].toNat ≠ 40) (hc2 : s[j].toNat ≠ 41) (hm : m = if s[j].toNat = 92 ∧ j + 1 < s.size then j + 1 else j) (hmz : m < s.size) :
    (fineB s[m] = false → note (s.data.toList.drop a) 1 = .bad (m - a)) ∧ (fineB s[m] = true → NoteTo s a (m + 1) d) := by
  have h0 := h.1 hj
  by_cases h92 : s[j].toNat = 92
  · by_cases h2 : j + 1 < s.size
    · rw [if_pos ⟨h92, h2⟩] at hm
      subst hm
      rw [drop_next s j hj, drop_next s (j + 1) h2, note_92 h92] at h0
      constructor
      · intro hf
        rw [if_neg (by rw [hf]; decide)] at h0
        rw [h0]
        show Cut.bad (1 + (j - a)) = _
        rw [show 1 + (j - a) = j + 1 - a by omega]
      · intro hf
        have e2 : (s.data.toList.drop a).take (j + 1 + 1 - a) = (s.data.toList.drop a).take (j - a) ++ [s[j], s[j + 1]] := by
          rw [next_of (by omega) h2, next_of h1 hj, List.append_assoc]
          rfl
        rw [if_pos hf, on_on, ← e2, show 2 + (j - a) = j + 1 + 1 - a by omega] at h0
        refine ⟨fun _ => h0, fun he => ?_⟩
        rw [h0, he, drop_end]
        rfl
    · rw [if_neg (fun h => h2 h.2)] at hm
      subst hm
      have he : m + 1 = s.size := by omega
      have hf : fineB s[m] = true := by unfold fineB; rw [h92]; decide
      rw [drop_next s m hj, he, drop_end] at h0
      refine ⟨fun h => (by rw [hf] at h; cases h), fun _ => ⟨fun h => absurd h (by omega), fun _ => ?_⟩⟩
      rw [h0, note.eq_def]
      simp only [if_neg hc, if_neg hc2, if_pos h92]
      rfl
  · rw [if_neg (fun h => h92 h.1)] at hm
    subst hm
    rw [drop_next s m hj, note_on hc hc2 h92] at h0
    constructor
    · intro hf
      rw [if_neg (by rw [hf]; decide)] at h0
      rw [h0]
      show Cut.bad (0 + (m - a)) = _
      rw [Nat.zero_add]
    · intro hf
      rw [if_pos hf, on_on, ← next_of h1 hj, show 1 + (m - a) = m + 1 - a by omega] at h0
      refine ⟨fun _ => h0, fun he => ?_⟩
      rw [h0, he, drop_end]
      rfl
end Lex
set_option maxHeartbeats 4000000 in
set_option maxRecDepth 100000 in
theorem note_any (s : ByteArray) (k : Nat) (hk : k < s.size) (hc : s[k].toNat = 40) (w : World) (hs : s.size ≤ 100000) :
    Calls Tryz.prog 30 #[.string s, .int .i64 k] w fun e w' => e = .returned (Lex.told k (Lex.note (s.data.toList.drop (k + 1)) 1).top) ∧ w = w' := by
  obtain ⟨R, hR⟩ : ∃ R, R = Lex.told k (Lex.note (s.data.toList.drop (k + 1)) 1).top := ⟨_, rfl⟩
  rw [← hR]
  have HR := Lib.hid hR
  clear hR
  have HC := Lib.hid hc
  clear hc
  go_enter Tryz.func30, Tryz.ntmps30
  go_wp2
  refine wp_ahead2 0 1 rfl rfl ?_
  go_wp2
  go_loopg [7, 8, 9] (s.size + 1) (fun gk s7 s8 s9 wr => ∃ j d : Nat, s7 = .int .i64 d ∧ s8 = .int .i64 j ∧ s9 = .int .i64 4 ∧ d ≤ 32 ∧ k ≤ j ∧ j ≤ s.size ∧ s.size - j < gk ∧ Hid ((j = k ∧ d = 0) ∨ (k + 1 ≤ j ∧ 1 ≤ d ∧ Lex.NoteTo s (k + 1) j d)) ∧ w = wr)
  case atStart => exact ⟨k, 0, rfl, rfl, rfl, Nat.zero_le _, Nat.le_refl _, by omega, by omega, Lib.hid (.inl ⟨rfl, rfl⟩), rfl⟩
  case round =>
    obtain ⟨j, d, rfl, rfl, rfl, hd, hj1, hj, hg, I, rfl⟩ := hrel
    by_cases hlt : j < s.size
    · have hjz : (j : Int) < (s.size : Int) := by omega
      by_cases h40 : s[j].toNat = 40
      · by_cases h32 : 32 ≤ d
        · have E : Hid (R = .tuple #[.string ⟨#[]⟩, .int .i64 (j : Int), .int .i64 6]) := Lib.hid (by
            rcases I.out with ⟨rfl, rfl⟩ | ⟨h1, h2, h3⟩
            · omega
            · rw [HR.out, Lex.noteTo_deep h3 hlt h40 h32]
              exact Lex.told_deep (by omega))
          have h32z : (32 : Int) < (d : Int) + 1 := by omega
          clear I
          go_wp2
          go_step3
          refine .inl ⟨rfl, ?_⟩
          go_wp2
          rw [Exit.noGoto_ret]
          go_ret3
          exact ⟨congrArg Ending.returned E.out.symm, rfl⟩
        · have I2 : Hid ((j + 1 = k ∧ d + 1 = 0) ∨ (k + 1 ≤ j + 1 ∧ 1 ≤ d + 1 ∧ Lex.NoteTo s (k + 1) (j + 1) (d + 1))) := Lib.hid (by
            rcases I.out with ⟨rfl, rfl⟩ | ⟨h1, h2, h3⟩
            · exact .inr ⟨Nat.le_refl _, Nat.le_refl _, Lex.noteTo_0⟩
            · exact .inr ⟨by omega, by omega, Lex.noteTo_in h3 h1 hlt h40 h32⟩)
          have h32z : ¬ (32 : Int) < (d : Int) + 1 := by omega
          clear I
          go_wp2
          go_roundg (s.size - j)
          case measure => omega
          case rel => exact ⟨j + 1, d + 1, by go_num, by go_num, rfl, by omega, by omega, by omega, by omega, I2, rfl⟩
      · have hI : k + 1 ≤ j ∧ 1 ≤ d ∧ Lex.NoteTo s (k + 1) j d := by
          rcases I.out with ⟨rfl, rfl⟩ | h
          · exact absurd HC.out h40
          · exact h
        obtain ⟨hkj, hd1, hN⟩ := hI
        have h40z : ((s[j].toNat : Int) == 40) = false := by simpa using (by omega : ¬ (s[j].toNat : Int) = 40)
        by_cases h41 : s[j].toNat = 41
        · by_cases hd2 : d ≤ 1
          · have E : Hid (R = .tuple #[.string (s.extract (k + 1) j), .int .i64 ((j : Int) + 1), .int .i64 0]) := Lib.hid (by
              rw [HR.out, Lex.noteTo_end hN hlt h41 hd2]
              exact Lex.told_fine (by rw [← Lex.sub_of]) (by omega))
            have hdz : (d : Int) - 1 = 0 := by omega
            have hkjz : (k : Int) + 1 ≤ (j : Int) := by omega
            clear I hN h40
            go_wp2
            go_step3
            refine .inr ⟨rfl, ?_⟩
            go_wp2
            rw [Exit.noGoto_ret]
            go_ret3
            exact ⟨congrArg Ending.returned E.out.symm, rfl⟩
          · have I2 : Hid ((j + 1 = k ∧ d - 1 = 0) ∨ (k + 1 ≤ j + 1 ∧ 1 ≤ d - 1 ∧ Lex.NoteTo s (k + 1) (j + 1) (d - 1))) := Lib.hid (.inr ⟨by omega, by omega, Lex.noteTo_out hN hkj hlt h41 hd2⟩)
            have hdz : (((d : Int) - 1) == 0) = false := by simpa using (by omega : ¬ (d : Int) - 1 = 0)
            clear I hN h40
            go_wp2
            go_roundg (s.size - j)
            case measure => omega
            case rel => exact ⟨j + 1, d - 1, by go_num, by go_num, rfl, by omega, by omega, by omega, by omega, I2, rfl⟩
        · have h41z : ((s[j].toNat : Int) == 41) = false := by simpa using (by omega : ¬ (s[j].toNat : Int) = 41)
          have K := meant_any s j hlt w hs
          obtain ⟨m, hm⟩ : ∃ m, m = if s[j].toNat = 92 ∧ j + 1 < s.size then j + 1 else j := ⟨_, rfl⟩
          rw [← hm] at K
          have hmz : m < s.size ∧ j ≤ m := by
            rw [hm]
            split
            · rename_i h; exact ⟨h.2, by omega⟩
            · exact ⟨hlt, Nat.le_refl _⟩
          obtain ⟨hm1, hjm⟩ := hmz
          have N := Lex.noteTo_next hN hkj hlt h40 h41 hm hm1
          have K := Lib.hid K
          have hmi : (m : Int) < (s.size : Int) := by omega
          have KT := isText_any s[m] w
          clear hm h40 h41 hN I
          cases hf : Lex.fineB s[m] with
          | false =>
            have E : Hid (R = .tuple #[.string ⟨#[]⟩, .int .i64 (m : Int), .int .i64 4]) := Lib.hid (by
              rw [HR.out, N.1 hf]
              exact Lex.told_bad (by omega))
            rw [hf] at KT
            have KT := Lib.hid KT
            clear N hf
            go_wp2_with (first | (go_at_call 39; with_reducible refine K.out.mono ?_; rintro e w1 ⟨rfl, rfl⟩) | (go_at_call 40; with_reducible refine KT.out.mono ?_; rintro e w1 ⟨rfl, rfl⟩))
            go_step3
            refine .inl ⟨rfl, ?_⟩
            go_wp2
            rw [Exit.noGoto_ret]
            go_ret3
            exact ⟨congrArg Ending.returned E.out.symm, rfl⟩
          | true =>
            have I2 : Hid ((m + 1 = k ∧ d = 0) ∨ (k + 1 ≤ m + 1 ∧ 1 ≤ d ∧ Lex.NoteTo s (k + 1) (m + 1) d)) := Lib.hid (.inr ⟨by omega, hd1, N.2 hf⟩)
            rw [hf] at KT
            have KT := Lib.hid KT
            clear N hf
            go_wp2_with (first | (go_at_call 39; with_reducible refine K.out.mono ?_; rintro e w1 ⟨rfl, rfl⟩) | (go_at_call 40; with_reducible refine KT.out.mono ?_; rintro e w1 ⟨rfl, rfl⟩))
            go_roundg (s.size - j)
            case measure => omega
            case rel => exact ⟨m + 1, d, by go_num, by go_num, rfl, hd, by omega, by omega, by omega, I2, rfl⟩
    · obtain rfl : j = s.size := by omega
      have E : Hid (R = .tuple #[.string ⟨#[]⟩, .int .i64 (k : Int), .int .i64 4]) := Lib.hid (by
        rcases I.out with ⟨h1, -⟩ | ⟨h1, h2, h3⟩
        · omega
        · rw [HR.out, h3.2 rfl]; rfl)
      have hjz : ¬ (s.size : Int) < (s.size : Int) := by omega
      clear I
      go_wp2
      refine wp_label ?_
      go_wp2
      rw [jump2_ret]
      go_ret3
      exact ⟨congrArg Ending.returned E.out.symm, rfl⟩
end Go.Proofs.YtmcjgdajnppbhaaGreatDoor
