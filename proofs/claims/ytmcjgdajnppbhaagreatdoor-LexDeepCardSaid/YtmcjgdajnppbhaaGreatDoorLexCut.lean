/-
  Proved here: the program's Lex, and Plain. Conditions: strings of at most 100,000 bytes.
-/
import Derived.Test.YtmcjgdajnppbhaaGreatDoorLexTok
import Derived.Test.YtmcjgdajnppbhaaGreatDoorUtfRunes
namespace Go.Proofs.YtmcjgdajnppbhaaGreatDoor
open Go.RowKit Utf
open Lex (Tok)
namespace Lex
/-- The tokens up to a place are known. -/
def Got (s : List UInt8) (ts : List Tok) (a : Nat) : Prop :=
  all s.length 0 s = if (all (s.drop a).length a (s.drop a)).1 = 0 then (0, 0, ts ++ (all (s.drop a).length a (s.drop a)).2.2) else all (s.drop a).length a (s.drop a)
theorem got_0 (s : List UInt8) : Got s [] 0 := by
  unfold Got
  rw [List.drop_zero]
  split
  · rename_i h
    have := (all_ok s.length 0 s (Nat.le_refl _) h).1
    rw [List.nil_append]
    exact Prod.ext h (Prod.ext this rfl)
  · rfl
theorem all_nil (a : Nat) : all 0 a [] = (0, 0, []) := rfl
theorem got_end {s : List UInt8} {ts : List Tok} {a : Nat} (h : Got s ts a) (ha : s.length ≤ a) : all s.length 0 s = (0, 0, ts) := by
  unfold Got at h
  rw [List.drop_of_length_le ha] at h
  rw [h, show ([] : List UInt8).length = 0 from rfl, all_nil, if_pos rfl, List.append_nil]
theorem all_cut {l : List UInt8} (hl : l ≠ []) (a : Nat) : all l.length a l = match one l with
    | (k, .fine x n) => if (all (l.length - 1) (a + n) (l.drop n)).1 = 0 then (0, 0, ⟨k, x, a⟩ :: (all (l.length - 1) (a + n) (l.drop n)).2.2) else all (l.length - 1) (a + n) (l.drop n)
    | (_, .bad i) => (4, a + i, [])
    | (_, .deep i) => (6, a + i, [])
    | (_, .gap) => (4, a, []) := by
  obtain ⟨m, hm⟩ : ∃ m, l.length = m + 1 := ⟨l.length - 1, by have := List.length_pos_iff.2 hl; omega⟩
  rw [hm, Nat.add_sub_cancel, all.eq_def]
  simp only [if_neg hl]
  obtain ⟨k, r⟩ := one l
  cases r <;> rfl
theorem got_next {s : List UInt8} {ts : List Tok} {a : Nat} (h : Got s ts a) (ha : a < s.length) {k : Int} {x : List UInt8} {n : Nat} (h1 : one (s.drop a) = (k, .fine x n)) : 0 < n ∧ a + n ≤ s.length ∧ Got s (ts ++ [⟨k, x, a⟩]) (a + n) := by
  have hl : s.drop a ≠ [] := fun e => by have := congrArg List.length e; rw [List.length_drop] at this; simp at this; omega
  have ho := one_fine h1
  have hn := ho.1
  have hn2 := ho.2.1
  rw [List.length_drop] at hn2
  refine ⟨hn, by omega, ?_⟩
  unfold Got at h ⊢
  rw [all_cut hl, h1] at h
  simp only at h
  rw [List.drop_drop, all_more _ (s.drop (a + n)).length (a + n) (s.drop (a + n)) (by simp only [List.length_drop]; omega) (Nat.le_refl _)] at h
  rw [h]
  by_cases hz : (all (s.drop (a + n)).length (a + n) (s.drop (a + n))).1 = 0
  · rw [if_pos hz, if_pos hz]
    simp only [if_true, List.append_assoc, List.cons_append, List.nil_append]
  · rw [if_neg hz, if_neg hz, if_neg hz]
theorem got_wrong {s : List UInt8} {ts : List Tok} {a : Nat} (h : Got s ts a) (ha : a < s.length) : (∀ k i, one (s.drop a) = (k, .bad i) → all s.length 0 s = (4, a + i, [])) ∧ (∀ k i, one (s.drop a) = (k, .deep i) → all s.length 0 s = (6, a + i, [])) ∧ (∀ k, one (s.drop a) = (k, .gap) → all s.length 0 s = (4, a, [])) := by
  have hl : s.drop a ≠ [] := fun e => by have := congrArg List.length e; rw [List.length_drop] at this; simp at this; omega
  unfold Got at h
  rw [all_cut hl] at h
  refine ⟨fun k i e => ?_, fun k i e => ?_, fun k e => ?_⟩ <;> (rw [e] at h; simpa using h)
/-- What a token tells at a place, by what it comes to. -/
theorem tokV_cases {s : List UInt8} {ts : List Tok} {a : Nat} (h : Got s ts a) (ha : a < s.length) :
    (∃ k x n, tokV a (one (s.drop a)) = .tuple #[.agg #[.int .i64 k, .string ⟨x.toArray⟩, .int .i64 (a : Int)], .int .i64 ((a + n : Nat) : Int), .int .i64 0] ∧ 0 < n ∧ a + n ≤ s.length ∧ Got s (ts ++ [⟨k, x, a⟩]) (a + n)) ∨
    (∃ p E, (E = 4 ∨ E = 6) ∧ tokV a (one (s.drop a)) = .tuple #[.agg #[.int .i64 0, .string ⟨#[]⟩, .int .i64 0], .int .i64 ((p : Nat) : Int), .int .i64 E] ∧ all s.length 0 s = (E, p, [])) := by
  obtain ⟨w1, w2, w3⟩ := got_wrong h ha
  cases ho : one (s.drop a) with
  | mk k r =>
    cases r with
    | fine x n => exact .inl ⟨k, x, n, rfl, got_next h ha ho⟩
    | bad i => exact .inr ⟨a + i, 4, .inl rfl, rfl, w1 k i ho⟩
    | deep i => exact .inr ⟨a + i, 6, .inr rfl, rfl, w2 k i ho⟩
    | gap => exact .inr ⟨a, 4, .inl rfl, rfl, w3 k ho⟩
end Lex
set_option maxHeartbeats 4000000 in
set_option maxRecDepth 100000 in
theorem lexP_any (s : ByteArray) (w : World) (hs : s.size ≤ 100000) :
    Calls Tryz.prog 11 #[.string s] w (LexPost (Lex.lexE s.data.toList).1 (Lex.lexE s.data.toList).2.1 (Lex.lexE s.data.toList).2.2 w) := by
  have hsl : s.data.toList.length = s.size := by simp
  obtain ⟨R, hR⟩ : ∃ R, R = Lex.lexE s.data.toList := ⟨_, rfl⟩
  rw [← hR]
  have hR0 := hR
  unfold Lex.lexE at hR
  rw [hsl] at hR
  by_cases h1 : 2000 < s.size
  · rw [if_pos h1] at hR
    subst hR
    have h1z : (2000 : Int) < (s.size : Int) := by omega
    clear hR0
    go_enter Tryz.func11, Tryz.ntmps11
    go_wp2
    go_ret3
    exact lexPost_of rfl (Toks.nil _) (Below.refl _ _)
  · rw [if_neg h1] at hR
    have h1z : ¬ (2000 : Int) < (s.size : Int) := by omega
    have KR := Lib.hid (runes_any s w hs)
    obtain ⟨z, hz⟩ : ∃ z, z = (rdOf s.data.toList).2 := ⟨_, rfl⟩
    unfold RunesPost at KR
    rw [← hz] at KR hR
    by_cases h2 : z = -1
    · rw [if_pos h2] at hR
      have hz2 : ¬ (0 : Int) ≤ z := by omega
      have HR := Lib.hid hR
      have hs2 : s.size ≤ 2000 := by omega
      clear hR hR0 hz h2 h1
      go_enter Tryz.func11, Tryz.ntmps11
      go_wp2_with fail
      refine KR.out.mono ?_
      rintro e w1 ⟨v, rfl, -, hb⟩
      have B0 := Lib.hid hb
      clear hb
      go_wp2
      go_loopg [7, 8] (s.size + 1) (fun gk s7 s8 wr => ∃ (a : Nat) (ts : List Tok), s8 = .int .i64 a ∧ a ≤ s.size ∧ s.size - a < gk ∧ Hid (Lex.Got s.data.toList ts a ∧ OwnT w.heap.size s7 ts wr ∧ ts.length ≤ a ∧ Below w.heap.size w wr))
      case atStart => exact ⟨0, [], rfl, Nat.zero_le _, by omega, Lib.hid ⟨Lex.got_0 _, OwnT.nil _ _, Nat.zero_le _, B0.out⟩⟩
      case round =>
        obtain ⟨a, ts, rfl, ha, hg, I⟩ := hrel
        by_cases hlt : a < s.size
        · have haz : (a : Int) < (s.size : Int) := by omega
          have KT := token_any s a hlt wr hs
          rcases Lex.tokV_cases I.out.1 (by rw [hsl]; exact hlt) with ⟨k, x, n, e1, h0, h2, hG⟩ | ⟨p, E, hE, e1, e2⟩
          · rw [e1] at KT
            have KT := Lib.hid KT
            rw [hsl] at h2
            obtain ⟨m, hm⟩ : ∃ m, m = a + n := ⟨_, rfl⟩
            rw [← hm] at KT hG h2
            have HG := Lib.hid hG
            have ham : a < m := by omega
            have hts : ts.length ≤ 1000000 := by have := I.out.2.2.1; omega
            clear e1 hG hm h0
            go_wp2_with fail
            with_reducible refine KT.out.mono ?_
            rintro e w1 ⟨rfl, hb1⟩
            have B1 := Lib.hid hb1
            clear hb1
            go_wp2_with (at_builtin; refine append_tok _ w.heap.size u7 ts ((I.out.2.1.keep B1.out).keep ((Below.refl _ w1).alloc (Nat.le_refl _) _)) (Nat.le_trans I.out.2.2.2.size (Nat.le_trans B1.out.size (by simp))) hts ⟨k, x, a⟩ _ (by simp) rfl _ _ rfl rfl rfl ?_; intro v2 w2 ho2 hb2; have HO := Lib.hid ho2; have HB2 := Lib.hid hb2; clear ho2 hb2)
            have I2 : Hid (Lex.Got s.data.toList (ts ++ [⟨k, x, a⟩]) m ∧ OwnT w.heap.size v2 (ts ++ [⟨k, x, a⟩]) w2 ∧ (ts ++ [(⟨k, x, a⟩ : Tok)]).length ≤ m ∧ Below w.heap.size w w2) :=
              Lib.hid ⟨HG.out, HO.out, by rw [List.length_append]; have := I.out.2.2.1; simp; omega, ((I.out.2.2.2.trans (B1.out.mono I.out.2.2.2.size)).alloc (Nat.le_trans I.out.2.2.2.size B1.out.size) _).trans HB2.out⟩
            go_roundg (s.size - a)
            case measure => omega
            case rel => exact ⟨m, ts ++ [⟨k, x, a⟩], rfl, h2, by omega, I2⟩
          · rw [e1] at KT
            have KT := Lib.hid KT
            have E2 := Lib.hid (HR.out.trans e2)
            have hEz : (E == 0) = false := by rcases hE with rfl | rfl <;> rfl
            clear e1 e2 hE
            go_wp2_with fail
            with_reducible refine KT.out.mono ?_
            rintro e w1 ⟨rfl, hb1⟩
            have B1 := Lib.hid hb1
            clear hb1
            go_wp2
            go_ret3
            have := E2.out
            subst this
            exact lexPost_of rfl (Toks.nil _) ((((I.out.2.2.2.trans (B1.out.mono I.out.2.2.2.size)).alloc (Nat.le_trans I.out.2.2.2.size B1.out.size) _)))
        · obtain rfl : a = s.size := by omega
          have E2 := Lib.hid (HR.out.trans (Lex.got_end I.out.1 (by rw [hsl]; exact Nat.le_refl _)))
          have haz : ¬ (s.size : Int) < (s.size : Int) := by omega
          go_wp2
          go_ret3
          have := E2.out
          subst this
          exact lexPost_of rfl I.out.2.1.toks I.out.2.2.2
    · rw [if_neg h2] at hR
      have hz0 : 0 ≤ z := by
        obtain ⟨-, -, h3⟩ := rd_cases (s := s.data.toList) (m := (rdOf s.data.toList).1) (z := (rdOf s.data.toList).2) rfl
        rcases h3 with ⟨h3, -⟩ | ⟨k, h3, -⟩
        · exact absurd (hz.trans h3) h2
        · rw [hz, h3]; omega
      subst hR
      clear hR0 hz h2 h1
      go_enter Tryz.func11, Tryz.ntmps11
      go_wp2_with fail
      refine KR.out.mono ?_
      rintro e w1 ⟨v, rfl, -, hb⟩
      have B0 := Lib.hid hb
      clear hb
      go_wp2
      go_ret3
      refine lexPost_of (v := .slice none 0 0) ?_ (Toks.nil _) B0.out
      show Ending.returned (.tuple #[_, .int .i64 z, _]) = .returned (.tuple #[_, .int .i64 ((z.toNat : Nat) : Int), _])
      rw [Int.toNat_of_nonneg hz0]
      rfl
set_option maxHeartbeats 2000000 in
set_option maxRecDepth 100000 in
theorem plainP_any (s : ByteArray) (w : World) (hs : s.size ≤ 100000) : Calls Tryz.prog 12 #[.string s] w fun e w' => e = .returned (.bool (Lex.plainT s.data.toList)) ∧ Below w.heap.size w w' := by
  by_cases h0 : s.size = 0
  · obtain rfl : s = ByteArray.empty := ByteArray.size_eq_zero_iff.1 h0
    go_enter Tryz.func12, Tryz.ntmps12
    go_wp2
    go_ret
    exact ⟨rfl, Below.refl _ _⟩
  · have hpos : 0 < s.size := by omega
    have hne := Lex.ne_nil hpos
    have hsl : s.data.toList.length = s.size := by simp
    have K := runEnd_any 20 Lex.atom1 Lex.atom1_le (fun _ _ => by kernel_rfl) (fun t W h => atomSize_any t W h) s 0 (Nat.zero_le _) w hs
    rw [List.drop_zero, Lex.run_atom, Nat.zero_add, show ((0 : Nat) : Int) = 0 from rfl] at K
    have hx : (((s.data.toList.takeWhile Lex.atomB).length : Int) == (s.size : Int)) = Lex.plainT s.data.toList := by
      unfold Lex.plainT
      have he : s.data.toList.isEmpty = false := by
        rw [List.isEmpty_eq_false_iff]
        exact fun e => h0 (by rw [← hsl, e]; rfl)
      rw [he, Bool.not_false, Bool.true_and, ← hsl]
      generalize s.data.toList = l
      rw [Bool.eq_iff_iff, beq_iff_eq, List.all_eq_true]
      have hW := Lex.while_all Lex.atomB l
      constructor
      · intro h
        have h2 : (l.takeWhile Lex.atomB).length = l.length := by omega
        have h3 := hW.2.1
        rw [h2, List.take_length] at h3
        rw [← h3]
        exact hW.2.2.1
      · intro h
        have h2 := Lex.while_app Lex.atomB l [] h (fun c t e => by cases e)
        rw [List.append_nil] at h2
        rw [h2]
    rw [← hx]
    generalize (s.data.toList.takeWhile Lex.atomB).length = n at K ⊢
    have K := Lib.hid K
    clear hx hsl h0
    go_enter Tryz.func12, Tryz.ntmps12
    go_wp2_with fail
    with_reducible refine K.out.mono ?_
    rintro e w1 ⟨rfl, rfl⟩
    go_wp2
    go_ret
    exact ⟨rfl, Below.refl _ _⟩
end Go.Proofs.YtmcjgdajnppbhaaGreatDoor
