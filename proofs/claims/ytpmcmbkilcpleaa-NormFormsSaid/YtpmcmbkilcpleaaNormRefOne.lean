/-
  Proved here: the document's own 'syllable', 'one' and 'Split' of layer 3: what a character is split into, and all of a slice. Conditions: the slice can be read, and holds at most 1,000 numbers.
-/
import Derived.Test.YtpmcmbkilcpleaaRefB
import Derived.Test.YtpmcmbkilcpleaaUtfRefStr
import Derived.Test.YtpmcmbkilcpleaaUtfMore
import Derived.Test.YtpmcmbkilcpleaaNormPlain
namespace Go.Proofs.Ytpmcmbkilcpleaa
open Go.RowKit Utf
def PiecesPost (l : List Int) (w : World) (e : Ending) (w' : World) : Prop := ∃ v, e = .returned v ∧ OwnR w.heap.size v l w' ∧ Below w.heap.size w w'
set_option maxHeartbeats 400000 in
theorem syllable_any (r : Int) (w : World) : Calls Try.prog 56 #[.int .i32 r] w fun e w' => e = .returned (.bool (Norm.syl r)) ∧ w = w' := by
  rcases (show r < 44032 ∨ (44032 ≤ r ∧ r ≤ 55203) ∨ 55203 < r by omega) with h | ⟨h1, h2⟩ | h
  · rw [show Norm.syl r = false by unfold Norm.syl; rw [decide_eq_false (by omega)]; rfl]
    go_enter Try.func56, Try.ntmps56
    go_wp2
    go_ret
    exact ⟨rfl, rfl⟩
  · rw [(Norm.syl_iff r).2 ⟨h1, h2⟩]
    go_enter Try.func56, Try.ntmps56
    go_wp2
    go_ret
    exact ⟨rfl, rfl⟩
  · have h1 : 44032 ≤ r := by omega
    rw [show Norm.syl r = false by unfold Norm.syl; rw [decide_eq_true h1, decide_eq_false (by omega)]; rfl]
    have e1 : decide (r ≤ 55203) = false := by simp; omega
    go_enter Try.func56, Try.ntmps56
    go_wp2
    go_ret
    exact ⟨rfl, rfl⟩
set_option maxHeartbeats 2000000 in
set_option maxRecDepth 100000 in
theorem one_syl (soft : Bool) (r : Int) (w : World) (h : Norm.syl r = true) : Calls Try.prog 38 #[.int .i32 r, .bool soft] w (PiecesPost (Norm.pieces soft r) w) := by
  have hS := fun W => syllable_any r W
  rw [h] at hS
  have HS := Lib.hid hS
  have e : Norm.pieces soft r = Norm.sylParts r := by rw [Norm.pieces_eq, h]; rfl
  obtain ⟨h1, h2⟩ := (Norm.syl_iff r).1 h
  rw [e]
  clear hS e h
  have H := Lib.hid (show Norm.sylParts r = [4352 + (r - 44032) / 588, 4449 + (r - 44032) % 588 / 28] ++ (if (r - 44032) % 28 = 0 then [] else [4519 + (r - 44032) % 28]) from rfl)
  by_cases h0 : (r - 44032) % 28 = 0
  · have h0' : ((r - 44032) % 28 != 0) = false := by simpa using h0
    have H0 := Lib.hid h0
    clear h0
    go_enter Try.func38, Try.ntmps38
    go_wp2_with fail
    refine (HS.out _).mono ?_
    rintro e w1 ⟨rfl, rfl⟩
    go_wp2
    go_ret
    refine ⟨_, rfl, ?_, below_one _ _⟩
    rw [H.out, if_pos H0.out]
    exact ownR_lit w _ (Nat.le_refl _) [4352 + (r - 44032) / 588, 4449 + (r - 44032) % 588 / 28] (by simp)
  · have h0' : ((r - 44032) % 28 != 0) = true := by simpa using h0
    have H0 := Lib.hid h0
    have OW := Lib.hid (ownR_lit w w.heap.size (Nat.le_refl _) [4352 + (r - 44032) / 588, 4449 + (r - 44032) % 588 / 28] (by simp))
    clear h0
    go_enter Try.func38, Try.ntmps38
    go_wp2_with fail
    refine (HS.out _).mono ?_
    rintro e w1 ⟨rfl, rfl⟩
    go_wp2_with (at_builtin; refine append_cells_at (w.alloc _) 22 21 (.int .i32 0) 4 Try.underlying22 info_i32 rfl (by omega) w.heap.size _ _ _ OW.out (by simp) (by simp) 1 (by omega) _ rfl rfl _ (by simp) rfl _ _ rfl rfl rfl ?_; intro v2 w2 ho2 hb2; have HO := Lib.hid ho2; have HB := Lib.hid hb2; clear ho2 hb2)
    go_ret
    refine ⟨_, rfl, ?_, (below_one w _).trans HB.out⟩
    rw [H.out, if_neg H0.out]
    exact OwnR.more HO.out rfl rfl
/-- A character that is split no further: it stays. -/
theorem pieces_stay {soft : Bool} {r : Int} (h : Norm.syl r = false) (hs : ∀ y, splitOf r = some y → y.soft = true ∧ soft = false) : Norm.pieces soft r = [r] := by
  rw [Norm.pieces_eq, h]
  cases e : splitOf r with
  | none => rfl
  | some y =>
    obtain ⟨h1, h2⟩ := hs y e
    simp only [h1, h2]
    rfl
theorem pieces_go {soft : Bool} {r : Int} {y : Sp} (h : Norm.syl r = false) (hs : splitOf r = some y) (hn : (y.soft && !soft) = false) : Norm.pieces soft r = Norm.pieces soft y.one ++ (if y.two = 0 then [] else Norm.pieces soft y.two) := by
  rw [Norm.pieces_eq, h, hs]
  simp only [hn]
  rfl
set_option maxHeartbeats 2000000 in
set_option maxRecDepth 100000 in
theorem one_stay (soft : Bool) (r : Int) (w : World) (h : Norm.syl r = false) (hs : ∀ y, splitOf r = some y → y.soft = true ∧ soft = false) : Calls Try.prog 38 #[.int .i32 r, .bool soft] w (PiecesPost (Norm.pieces soft r) w) := by
  have hS := fun W => syllable_any r W
  rw [h] at hS
  have HS := Lib.hid hS
  rw [pieces_stay h hs]
  have hR := fun W => refSplit_any r W
  cases ho : splitOf r with
  | none =>
    rw [ho] at hR
    have HR := Lib.hid hR
    clear hS h hs hR ho
    go_enter Try.func38, Try.ntmps38
    go_wp2_with fail
    refine (HS.out _).mono ?_
    rintro e w1 ⟨rfl, rfl⟩
    go_wp2_with fail
    refine (HR.out _).mono ?_
    rintro e w2 ⟨rfl, hb2⟩
    have B2 := Lib.hid hb2
    clear hb2
    simp only [Option.getD_none, Option.isSome_none, encSp]
    go_wp2
    go_ret
    exact ⟨_, rfl, ownR_lit_at _ _ _ (by simp) (by simp; have := B2.out.size; omega) [r] (by simp), below_new (below_new B2.out (Nat.le_refl _) _) (Nat.le_refl _) _⟩
  | some y =>
    obtain ⟨h1, rfl⟩ := hs y ho
    rw [ho] at hR
    obtain ⟨v0, v1, v2, v3, v4⟩ := y
    simp only at h1
    subst h1
    have HR := Lib.hid hR
    clear hS h hs hR ho
    go_enter Try.func38, Try.ntmps38
    go_wp2_with fail
    refine (HS.out _).mono ?_
    rintro e w1 ⟨rfl, rfl⟩
    go_wp2_with fail
    refine (HR.out _).mono ?_
    rintro e w2 ⟨rfl, hb2⟩
    have B2 := Lib.hid hb2
    clear hb2
    simp only [Option.getD_some, Option.isSome_some, encSp]
    go_wp2
    go_ret
    exact ⟨_, rfl, ownR_lit_at _ _ _ (by simp) (by simp; have := B2.out.size; omega) [r] (by simp), below_new (below_new B2.out (Nat.le_refl _) _) (Nat.le_refl _) _⟩
theorem split_row (w : World) (v0 v1 v2 : Int) (v3 v4 : Bool) {w1 : World} (hb : Below (w.alloc (.cells #[.int .i32 v0, .int .i32 v1, .int .i32 v2, .bool v3, .bool v4] 77)).heap.size (w.alloc (.cells #[.int .i32 v0, .int .i32 v1, .int .i32 v2, .bool v3, .bool v4] 77)) w1) :
    w1.cell? ⟨w.heap.size, 2, none⟩ = some (.int .i32 v2) := (hb.cell (p := ⟨w.heap.size, 2, none⟩) (show w.heap.size < _ by simp)).trans (by simp)
set_option maxHeartbeats 4000000 in
set_option maxRecDepth 100000 in
theorem one_go (soft : Bool) (r : Int) (y : Sp) (w : World) (h : Norm.syl r = false) (hs : splitOf r = some y) (hn : (y.soft && !soft) = false) (hp : (Norm.pieces soft y.one).length ≤ 100 ∧ (Norm.pieces soft y.two).length ≤ 100)
    (H1 : ∀ W, Calls Try.prog 38 #[.int .i32 y.one, .bool soft] W (PiecesPost (Norm.pieces soft y.one) W))
    (H2 : ∀ W, Calls Try.prog 38 #[.int .i32 y.two, .bool soft] W (PiecesPost (Norm.pieces soft y.two) W)) :
    Calls Try.prog 38 #[.int .i32 r, .bool soft] w (PiecesPost (Norm.pieces soft r) w) := by
  have hS := fun W => syllable_any r W
  rw [h] at hS
  have HS := Lib.hid hS
  rw [pieces_go h hs hn]
  have hR := fun W => refSplit_any r W
  rw [hs] at hR
  obtain ⟨v0, v1, v2, v3, v4⟩ := y
  simp only at H1 H2 hn hp ⊢
  generalize Norm.pieces soft v1 = a at H1 hp ⊢
  generalize Norm.pieces soft v2 = b at H2 hp ⊢
  have HR := Lib.hid hR
  have K1 := Lib.hid H1
  have K2 := Lib.hid H2
  have HP := Lib.hid hp
  clear hS h hs hR H1 H2 hp
  by_cases h0 : v2 = 0
  · rw [if_pos h0]
    subst h0
    cases v3 <;> cases soft <;> simp only [Bool.not_true, Bool.not_false, Bool.and_true, Bool.and_false, reduceCtorEq] at hn
    all_goals
      clear hn K2
      go_enter Try.func38, Try.ntmps38
      go_wp2_with fail
      refine (HS.out _).mono ?_
      rintro e w1 ⟨rfl, rfl⟩
      go_wp2_with fail
      refine (HR.out _).mono ?_
      rintro e w2 ⟨rfl, hb2⟩
      have B2 := Lib.hid hb2
      clear hb2
      simp only [Option.getD_some, Option.isSome_some, encSp]
      go_wp2_with fail
      refine (K1.out _).mono ?_
      rintro e w3 ⟨v5, rfl, ho3, hb3⟩
      have c2 := split_row _ _ _ _ _ _ hb3
      have O3 := Lib.hid (ho3.lower (base' := w.heap.size) (by simp; have := B2.out.size; omega))
      have B3 := Lib.hid (below_then (below_new B2.out (Nat.le_refl _) _) hb3)
      clear ho3 hb3
      go_wp2
      go_ret
      exact ⟨_, rfl, by rw [List.append_nil]; exact O3.out, B3.out⟩
  · rw [if_neg h0]
    have hne : (v2 != 0) = true := by simpa using h0
    clear h0
    cases v3 <;> cases soft <;> simp only [Bool.not_true, Bool.not_false, Bool.and_true, Bool.and_false, reduceCtorEq] at hn
    all_goals
      clear hn
      go_enter Try.func38, Try.ntmps38
      go_wp2_with fail
      refine (HS.out _).mono ?_
      rintro e w1 ⟨rfl, rfl⟩
      go_wp2_with fail
      refine (HR.out _).mono ?_
      rintro e w2 ⟨rfl, hb2⟩
      have B2 := Lib.hid hb2
      clear hb2
      simp only [Option.getD_some, Option.isSome_some, encSp]
      go_wp2_with fail
      refine (K1.out _).mono ?_
      rintro e w3 ⟨v5, rfl, ho3, hb3⟩
      have c2 := split_row _ _ _ _ _ _ hb3
      have O3 := Lib.hid (ho3.lower (base' := w.heap.size) (by simp; have := B2.out.size; omega))
      have B3 := Lib.hid (below_then (below_new B2.out (Nat.le_refl _) _) hb3)
      clear ho3 hb3
      go_wp2_with fail
      refine (K2.out _).mono ?_
      rintro e w4 ⟨v6, rfl, ho4, hb4⟩
      have O4 := Lib.hid (O3.out.keep hb4)
      have R4 := Lib.hid ho4.runes
      have B4 := Lib.hid (below_then B3.out hb4)
      clear ho4 hb4 c2
      go_wp2_with (at_builtin; refine append_row w4 22 21 (.int .i32 0) 4 Try.underlying22 info_i32 rfl (by omega) w.heap.size v5 _ _ O4.out B4.out.size (by have := HP.out; omega) v6 _ R4.out (one_runes _) (by rw [List.length_map]; have := HP.out; omega) rfl _ _ rfl rfl rfl ?_; intro v7 w7 ho7 hb7; have O7 := Lib.hid ho7; have B7 := Lib.hid hb7; clear ho7 hb7)
      go_ret
      exact ⟨_, rfl, OwnR.more O7.out rfl (by rw [List.length_map]), B4.out.trans B7.out⟩
theorem pieces_le : ∀ (n : Nat) (soft : Bool) (r : Int), (Norm.one n soft r).length ≤ 3 * 2 ^ n
  | 0, _, _ => by simp [Norm.one]
  | n + 1, soft, r => by
    unfold Norm.one
    have h1 : 1 ≤ 2 ^ n := Nat.one_le_two_pow
    have h2 : 2 ^ (n + 1) = 2 ^ n * 2 := Nat.pow_succ ..
    split
    · unfold Norm.sylParts
      split <;> simp <;> omega
    · split
      · simp; omega
      · rename_i x _
        split
        · simp; omega
        · have h3 := pieces_le n soft x.one
          have h4 := pieces_le n soft x.two
          rw [List.length_append]
          split
          · simp; omega
          · omega
theorem pieces_len (soft : Bool) (r : Int) : (Norm.pieces soft r).length ≤ 48 := pieces_le 4 soft r
def flat (x : Int) : Bool := (splitOf x).isNone
def flat1 (x : Int) : Bool := match splitOf x with | none => true | some y => flat y.one && flat y.two
theorem rows_flat : ∀ y ∈ splits, (flat1 y.one && flat1 y.two) = true := by decide +kernel
theorem wide_flat : ∀ i ∈ List.range 94, (flat1 (65281 + i - 65248) && flat1 0) = true := by decide +kernel
theorem split_flat {x : Int} {y : Sp} (h : splitOf x = some y) : flat1 y.one = true ∧ flat1 y.two = true := by
  rw [← Bool.and_eq_true]
  rcases split_cases h with ⟨hy, rfl⟩ | ⟨hw, rfl⟩
  · exact rows_flat y hy
  · simp only [wideOf, Bool.and_eq_true, decide_eq_true_eq] at hw
    have := wide_flat (x - 65281).toNat (by rw [List.mem_range]; omega)
    rwa [show (65281 : Int) + ((x - 65281).toNat : Int) = x by omega] at this
/-- The contract of 'one' at r, out of those of what it is split into. -/
theorem one_by (soft : Bool) (r : Int) (w : World) (H : ∀ y, splitOf r = some y → (∀ W, Calls Try.prog 38 #[.int .i32 y.one, .bool soft] W (PiecesPost (Norm.pieces soft y.one) W)) ∧
      (∀ W, Calls Try.prog 38 #[.int .i32 y.two, .bool soft] W (PiecesPost (Norm.pieces soft y.two) W))) :
    Calls Try.prog 38 #[.int .i32 r, .bool soft] w (PiecesPost (Norm.pieces soft r) w) := by
  cases hS : Norm.syl r with
  | true => exact one_syl soft r w hS
  | false =>
    cases hs : splitOf r with
    | none => exact one_stay soft r w hS fun y hy => by rw [hs] at hy; cases hy
    | some y =>
      cases hn : (y.soft && !soft) with
      | true =>
        refine one_stay soft r w hS fun z hz => ?_
        rw [hs] at hz
        obtain rfl := Option.some.inj hz
        simpa using hn
      | false =>
        obtain ⟨h1, h2⟩ := H y hs
        exact one_go soft r y w hS hs hn ⟨Nat.le_trans (pieces_len _ _) (by omega), Nat.le_trans (pieces_len _ _) (by omega)⟩ h1 h2
theorem one_flat (soft : Bool) (r : Int) (h : flat r = true) (w : World) : Calls Try.prog 38 #[.int .i32 r, .bool soft] w (PiecesPost (Norm.pieces soft r) w) :=
  one_by soft r w fun y hy => by unfold flat at h; rw [hy] at h; cases h
theorem one_flat1 (soft : Bool) (r : Int) (h : flat1 r = true) (w : World) : Calls Try.prog 38 #[.int .i32 r, .bool soft] w (PiecesPost (Norm.pieces soft r) w) :=
  one_by soft r w fun y hy => by
    unfold flat1 at h
    rw [hy] at h
    simp only [Bool.and_eq_true] at h
    exact ⟨one_flat soft _ h.1, one_flat soft _ h.2⟩
theorem one3_any (soft : Bool) (r : Int) (w : World) : Calls Try.prog 38 #[.int .i32 r, .bool soft] w (PiecesPost (Norm.pieces soft r) w) :=
  one_by soft r w fun _ hy => ⟨one_flat1 soft _ (split_flat hy).1, one_flat1 soft _ (split_flat hy).2⟩
theorem split_snoc (soft : Bool) (l : List Int) (r : Int) : Norm.split soft (l ++ [r]) = Norm.split soft l ++ Norm.pieces soft r := by simp [Norm.split]
theorem split_len (soft : Bool) (l : List Int) : (Norm.split soft l).length ≤ 48 * l.length := by
  induction l with
  | nil => simp [Norm.split]
  | cons r l ih =>
    have := pieces_len soft r
    simp only [Norm.split, List.flatMap_cons, List.length_append, List.length_cons] at ih ⊢
    omega
set_option maxHeartbeats 2000000 in
set_option maxRecDepth 100000 in
theorem split3_any (v : Value) (l : List Int) (soft : Bool) (w : World) (hl : Runes v l w) (hn : l.length ≤ 10000) : Calls Try.prog 15 #[v, .bool soft] w (PiecesPost (Norm.split soft l) w) := by
  obtain ⟨A, c, rfl, hc, hcell⟩ := hl.form
  have HC := Lib.hid hcell
  clear hl hcell
  go_enter Try.func15, Try.ntmps15
  go_wp2
  go_loopg [5, 6] (l.length + 1) (fun gk v i wr => ∃ k : Nat, k ≤ l.length ∧ i = .int .i64 k ∧ l.length - k < gk ∧ Hid (OwnR w.heap.size v (Norm.split soft (l.take k)) wr ∧ Below w.heap.size w wr))
  case atStart => exact ⟨0, Nat.zero_le _, rfl, by omega, ⟨OwnR.nil _ _, Below.refl _ _⟩⟩
  case round =>
    obtain ⟨k, hk, rfl, hg, I⟩ := hrel
    by_cases hlt : k < l.length
    · obtain ⟨ad, rfl, hb, hx⟩ := HC.out k hlt
      have hx' := (I.out.2.cell (by rw [add_block]; exact hb)).trans hx
      obtain ⟨x, hxe⟩ : ∃ x, x = l[k]! := ⟨_, rfl⟩
      rw [← hxe] at hx'
      have HX := Lib.hid hxe
      have hB := one3_any soft x wr
      have hle : (Norm.split soft (l.take k)).length ≤ 1000000 := by have := split_len soft (l.take k); rw [List.length_take] at this; omega
      have hpl := pieces_len soft x
      clear hx hb hxe
      go_wp2_with (first
        | (go_at_call 38; ((with_reducible refine hB.mono ?_); rintro e w2 ⟨v2, rfl, hs2, hb2⟩; have HS := Lib.hid hs2.runes; have HB := Lib.hid hb2; clear hs2 hb2))
        | (at_builtin; refine append_row w2 22 21 (.int .i32 0) 4 Try.underlying22 info_i32 rfl (by omega) w.heap.size u5 _ _ (I.out.1.keep HB.out) (Nat.le_trans I.out.2.size HB.out.size) hle v2 _ HS.out (one_runes _) (by rw [List.length_map]; omega) rfl _ _ rfl rfl rfl ?_; intro v3 w3 ho3 hb3; have HO := Lib.hid ho3; have HB3 := Lib.hid hb3; clear ho3 hb3))
      have I2 : Hid (OwnR w.heap.size v3 (Norm.split soft (l.take (k + 1))) w3 ∧ Below w.heap.size w w3) := by
        refine ⟨?_, (I.out.2.trans (HB.out.mono I.out.2.size)).trans HB3.out⟩
        rw [take_next l k hlt, split_snoc, ← HX.out]
        exact OwnR.more HO.out rfl (by rw [List.length_map])
      go_roundg (l.length - k)
      case measure => omega
      case rel => exact ⟨k + 1, by omega, by go_num, by omega, I2⟩
    · obtain rfl : k = l.length := by omega
      go_wp2
      go_ret
      have h := I.out.1
      rw [List.take_length] at h
      exact ⟨_, rfl, h, I.out.2⟩
end Go.Proofs.Ytpmcmbkilcpleaa
