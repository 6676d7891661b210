/-
  Proved here: the document's own 'syllable', 'one' and 'Split' of layer 3: what a character is split into, and all of a slice. Conditions: the slice can be read, and holds at most 1,000 numbers.
  Proved here: the document's own 'Order' of layer 3: neighbours are turned till all marks stand in their order. Conditions: the slice can be read, and holds at most 10,000 numbers.
  Proved here: the document's own 'make2' and 'Join' of layer 3: what two make, and what is joined. Conditions: the slice can be read, and holds at most 10,000 numbers.
  Proved here: the document's own 'Form' of layer 3: a string's normal forms, by characters; all that a form has are characters. Conditions: the string has at most 100,000 bytes, and 200 characters.
-/
import Derived.Test.YtmbammhkkcnoaaaGreatUcdAll
import Derived.Test.YtmbammhkkcnoaaaGreatUtfA
import Derived.Test.YtmbammhkkcnoaaaGreatUtfRow
import Derived.Test.YtmbammhkkcnoaaaGreatPlainA
import Derived.Deep.RegionWith
import Derived.Test.YtmbammhkkcnoaaaGreatUtfB
namespace Go.Proofs.YtmbammhkkcnoaaaGreat
open Go.RowKit Utf
def PiecesPost (l : List Int) (w : World) (e : Ending) (w' : World) : Prop := ∃ v, e = .returned v ∧ OwnR w.heap.size v l w' ∧ Below w.heap.size w w'
set_option maxHeartbeats 400000 in
theorem syllable_any (r : Int) (w : World) : Calls Tryz.prog 157 #[.int .i32 r] w fun e w' => e = .returned (.bool (Norm.syl r)) ∧ w = w' := by
  rcases (show r < 44032 ∨ (44032 ≤ r ∧ r ≤ 55203) ∨ 55203 < r by omega) with h | ⟨h1, h2⟩ | h
  · rw [show Norm.syl r = false by unfold Norm.syl; rw [decide_eq_false (by omega)]; rfl]
    go_enter Tryz.func157, Tryz.ntmps157
    go_wp2
    go_ret
    exact ⟨rfl, rfl⟩
  · rw [(Norm.syl_iff r).2 ⟨h1, h2⟩]
    go_enter Tryz.func157, Tryz.ntmps157
    go_wp2
    go_ret
    exact ⟨rfl, rfl⟩
  · have h1 : 44032 ≤ r := by omega
    rw [show Norm.syl r = false by unfold Norm.syl; rw [decide_eq_true h1, decide_eq_false (by omega)]; rfl]
    have e1 : decide (r ≤ 55203) = false := by simp; omega
    go_enter Tryz.func157, Tryz.ntmps157
    go_wp2
    go_ret
    exact ⟨rfl, rfl⟩
set_option maxHeartbeats 2000000 in
set_option maxRecDepth 100000 in
theorem one_syl (soft : Bool) (r : Int) (w : World) (h : Norm.syl r = true) : Calls Tryz.prog 136 #[.int .i32 r, .bool soft] w (PiecesPost (Norm.pieces soft r) w) := by
  have hS := fun W => syllable_any r W
  rw [h] at hS
  have HS := Lib.hid hS
  have e : Norm.pieces soft r = Norm.sylParts r := by rw [Norm.pieces_eq, h]; rfl
  obtain ⟨h1, h2⟩ := (Norm.syl_iff r).1 h
  rw [e]
  clear hS e h
  have H := Lib.hid (show Norm.sylParts r = [4352 + (r - 44032) / 588, 4449 + (r - 44032) % 588 / 28] ++ (if (r - 44032) % 28 = 0 then [] else [4519 + (r - 44032) % 28]) from rfl)
  by_cases h0 : (r - 44032) % 28 = 0
  · have h0' : ((r - 44032) % 28 != 0) = false := by simpa using h0
    have H0 := Lib.hid h0
    clear h0
    go_enter Tryz.func136, Tryz.ntmps136
    go_wp2_with fail
    refine (HS.out _).mono ?_
    rintro e w1 ⟨rfl, rfl⟩
    go_wp2
    go_ret
    refine ⟨_, rfl, ?_, below_one _ _⟩
    rw [H.out, if_pos H0.out]
    exact ownR_lit w _ (Nat.le_refl _) [4352 + (r - 44032) / 588, 4449 + (r - 44032) % 588 / 28] (by simp)
  · have h0' : ((r - 44032) % 28 != 0) = true := by simpa using h0
    have H0 := Lib.hid h0
    have OW := Lib.hid (ownR_lit w w.heap.size (Nat.le_refl _) [4352 + (r - 44032) / 588, 4449 + (r - 44032) % 588 / 28] (by simp))
    clear h0
    go_enter Tryz.func136, Tryz.ntmps136
    go_wp2_with fail
    refine (HS.out _).mono ?_
    rintro e w1 ⟨rfl, rfl⟩
    go_wp2_with (at_builtin; refine append_cells_at (w.alloc _) 51 21 (.int .i32 0) 4 Tryz.underlying51 info_i32 rfl (by omega) w.heap.size _ _ _ OW.out (by simp) (by simp) 1 (by omega) _ rfl rfl _ (by simp) rfl _ _ rfl rfl rfl ?_; intro v2 w2 ho2 hb2; have HO := Lib.hid ho2; have HB := Lib.hid hb2; clear ho2 hb2)
    go_ret
    refine ⟨_, rfl, ?_, (below_one w _).trans HB.out⟩
    rw [H.out, if_neg H0.out]
    exact OwnR.more HO.out rfl rfl
/-- A character that is split no further: it stays. -/
theorem pieces_stay {soft : Bool} {r : Int} (h : Norm.syl r = false) (hs : ∀ y, splitOf r = some y → y.soft = true ∧ soft = false) : Norm.pieces soft r = [r] := by
  rw [Norm.pieces_eq, h]
  cases e : splitOf r with
  | none => rfl
  | some y =>
    obtain ⟨h1, h2⟩ := hs y e
    simp only [h1, h2]
    rfl
theorem pieces_go {soft : Bool} {r : Int} {y : Sp} (h : Norm.syl r = false) (hs : splitOf r = some y) (hn : (y.soft && !soft) = false) : Norm.pieces soft r = Norm.pieces soft y.one ++ (if y.two = 0 then [] else Norm.pieces soft y.two) := by
  rw [Norm.pieces_eq, h, hs]
  simp only [hn]
  rfl
set_option maxHeartbeats 2000000 in
set_option maxRecDepth 100000 in
theorem one_stay (soft : Bool) (r : Int) (w : World) (h : Norm.syl r = false) (hs : ∀ y, splitOf r = some y → y.soft = true ∧ soft = false) : Calls Tryz.prog 136 #[.int .i32 r, .bool soft] w (PiecesPost (Norm.pieces soft r) w) := by
  have hS := fun W => syllable_any r W
  rw [h] at hS
  have HS := Lib.hid hS
  rw [pieces_stay h hs]
  have hR := fun W => refSplit_any r W
  cases ho : splitOf r with
  | none =>
    rw [ho] at hR
    have HR := Lib.hid hR
    clear hS h hs hR ho
    go_enter Tryz.func136, Tryz.ntmps136
    go_wp2_with fail
    refine (HS.out _).mono ?_
    rintro e w1 ⟨rfl, rfl⟩
    go_wp2_with fail
    refine (HR.out _).mono ?_
    rintro e w2 ⟨rfl, hb2⟩
    have B2 := Lib.hid hb2
    clear hb2
    simp only [Option.getD_none, Option.isSome_none, encSp]
    go_wp2
    go_ret
    exact ⟨_, rfl, ownR_lit_at _ _ _ (by simp) (by simp; have := B2.out.size; omega) [r] (by simp), below_new (below_new B2.out (Nat.le_refl _) _) (Nat.le_refl _) _⟩
  | some y =>
    obtain ⟨h1, rfl⟩ := hs y ho
    rw [ho] at hR
    obtain ⟨v0, v1, v2, v3, v4⟩ := y
    simp only at h1
    subst h1
    have HR := Lib.hid hR
    clear hS h hs hR ho
    go_enter Tryz.func136, Tryz.ntmps136
    go_wp2_with fail
    refine (HS.out _).mono ?_
    rintro e w1 ⟨rfl, rfl⟩
    go_wp2_with fail
    refine (HR.out _).mono ?_
    rintro e w2 ⟨rfl, hb2⟩
    have B2 := Lib.hid hb2
    clear hb2
    simp only [Option.getD_some, Option.isSome_some, encSp]
    go_wp2
    go_ret
    exact ⟨_, rfl, ownR_lit_at _ _ _ (by simp) (by simp; have := B2.out.size; omega) [r] (by simp), below_new (below_new B2.out (Nat.le_refl _) _) (Nat.le_refl _) _⟩
theorem split_row (w : World) (v0 v1 v2 : Int) (v3 v4 : Bool) {w1 : World} (hb : Below (w.alloc (.cells #[.int .i32 v0, .int .i32 v1, .int .i32 v2, .bool v3, .bool v4] 60)).heap.size (w.alloc (.cells #[.int .i32 v0, .int .i32 v1, .int .i32 v2, .bool v3, .bool v4] 60)) w1) :
    w1.cell? ⟨w.heap.size, 2, none⟩ = some (.int .i32 v2) := (hb.cell (p := ⟨w.heap.size, 2, none⟩) (show w.heap.size < _ by simp)).trans (by simp)
set_option maxHeartbeats 4000000 in
set_option maxRecDepth 100000 in
theorem one_go (soft : Bool) (r : Int) (y : Sp) (w : World) (h : Norm.syl r = false) (hs : splitOf r = some y) (hn : (y.soft && !soft) = false) (hp : (Norm.pieces soft y.one).length ≤ 100 ∧ (Norm.pieces soft y.two).length ≤ 100)
    (H1 : ∀ W, Calls Tryz.prog 136 #[.int .i32 y.one, .bool soft] W (PiecesPost (Norm.pieces soft y.one) W))
    (H2 : ∀ W, Calls Tryz.prog 136 #[.int .i32 y.two, .bool soft] W (PiecesPost (Norm.pieces soft y.two) W)) :
    Calls Tryz.prog 136 #[.int .i32 r, .bool soft] w (PiecesPost (Norm.pieces soft r) w) := by
  have hS := fun W => syllable_any r W
  rw [h] at hS
  have HS := Lib.hid hS
  rw [pieces_go h hs hn]
  have hR := fun W => refSplit_any r W
  rw [hs] at hR
  obtain ⟨v0, v1, v2, v3, v4⟩ := y
  simp only at H1 H2 hn hp ⊢
  generalize Norm.pieces soft v1 = a at H1 hp ⊢
  generalize Norm.pieces soft v2 = b at H2 hp ⊢
  have HR := Lib.hid hR
  have K1 := Lib.hid H1
  have K2 := Lib.hid H2
  have HP := Lib.hid hp
  clear hS h hs hR H1 H2 hp
  by_cases h0 : v2 = 0
  · rw [if_pos h0]
    subst h0
    cases v3 <;> cases soft <;> simp only [Bool.not_true, Bool.not_false, Bool.and_true, Bool.and_false, reduceCtorEq] at hn
    all_goals
      clear hn K2
      go_enter Tryz.func136, Tryz.ntmps136
      go_wp2_with fail
      refine (HS.out _).mono ?_
      rintro e w1 ⟨rfl, rfl⟩
      go_wp2_with fail
      refine (HR.out _).mono ?_
      rintro e w2 ⟨rfl, hb2⟩
      have B2 := Lib.hid hb2
      clear hb2
      simp only [Option.getD_some, Option.isSome_some, encSp]
      go_wp2_with fail
      refine (K1.out _).mono ?_
      rintro e w3 ⟨v5, rfl, ho3, hb3⟩
      have c2 := split_row _ _ _ _ _ _ hb3
      have O3 := Lib.hid (ho3.lower (base' := w.heap.size) (by simp; have := B2.out.size; omega))
      have B3 := Lib.hid (below_then (below_new B2.out (Nat.le_refl _) _) hb3)
      clear ho3 hb3
      go_wp2
      go_ret
      exact ⟨_, rfl, by rw [List.append_nil]; exact O3.out, B3.out⟩
  · rw [if_neg h0]
    have hne : (v2 != 0) = true := by simpa using h0
    clear h0
    cases v3 <;> cases soft <;> simp only [Bool.not_true, Bool.not_false, Bool.and_true, Bool.and_false, reduceCtorEq] at hn
    all_goals
      clear hn
      go_enter Tryz.func136, Tryz.ntmps136
      go_wp2_with fail
      refine (HS.out _).mono ?_
      rintro e w1 ⟨rfl, rfl⟩
      go_wp2_with fail
      refine (HR.out _).mono ?_
      rintro e w2 ⟨rfl, hb2⟩
      have B2 := Lib.hid hb2
      clear hb2
      simp only [Option.getD_some, Option.isSome_some, encSp]
      go_wp2_with fail
      refine (K1.out _).mono ?_
      rintro e w3 ⟨v5, rfl, ho3, hb3⟩
      have c2 := split_row _ _ _ _ _ _ hb3
      have O3 := Lib.hid (ho3.lower (base' := w.heap.size) (by simp; have := B2.out.size; omega))
      have B3 := Lib.hid (below_then (below_new B2.out (Nat.le_refl _) _) hb3)
      clear ho3 hb3
      go_wp2_with fail
      refine (K2.out _).mono ?_
      rintro e w4 ⟨v6, rfl, ho4, hb4⟩
      have O4 := Lib.hid (O3.out.keep hb4)
      have R4 := Lib.hid ho4.runes
      have B4 := Lib.hid (below_then B3.out hb4)
      clear ho4 hb4 c2
      go_wp2_with (at_builtin; refine append_row w4 51 21 (.int .i32 0) 4 Tryz.underlying51 info_i32 rfl (by omega) w.heap.size v5 _ _ O4.out B4.out.size (by have := HP.out; omega) v6 _ R4.out (one_runes _) (by rw [List.length_map]; have := HP.out; omega) rfl _ _ rfl rfl rfl ?_; intro v7 w7 ho7 hb7; have O7 := Lib.hid ho7; have B7 := Lib.hid hb7; clear ho7 hb7)
      go_ret
      exact ⟨_, rfl, OwnR.more O7.out rfl (by rw [List.length_map]), B4.out.trans B7.out⟩
theorem pieces_le : ∀ (n : Nat) (soft : Bool) (r : Int), (Norm.one n soft r).length ≤ 3 * 2 ^ n
  | 0, _, _ => by simp [Norm.one]
  | n + 1, soft, r => by
    unfold Norm.one
    have h1 : 1 ≤ 2 ^ n := Nat.one_le_two_pow
    have h2 : 2 ^ (n + 1) = 2 ^ n * 2 := Nat.pow_succ ..
    split
    · unfold Norm.sylParts
      split <;> simp <;> omega
    · split
      · simp; omega
      · rename_i x _
        split
        · simp; omega
        · have h3 := pieces_le n soft x.one
          have h4 := pieces_le n soft x.two
          rw [List.length_append]
          split
          · simp; omega
          · omega
theorem pieces_len (soft : Bool) (r : Int) : (Norm.pieces soft r).length ≤ 48 := pieces_le 4 soft r
def flat (x : Int) : Bool := (splitOf x).isNone
def flat1 (x : Int) : Bool := match splitOf x with | none => true | some y => flat y.one && flat y.two
theorem rows_flat : ∀ y ∈ splits, (flat1 y.one && flat1 y.two) = true := by decide +kernel
theorem wide_flat : ∀ i ∈ List.range 94, (flat1 (65281 + i - 65248) && flat1 0) = true := by decide +kernel
theorem split_flat {x : Int} {y : Sp} (h : splitOf x = some y) : flat1 y.one = true ∧ flat1 y.two = true := by
  rw [← Bool.and_eq_true]
  rcases split_cases h with ⟨hy, rfl⟩ | ⟨hw, rfl⟩
  · exact rows_flat y hy
  · simp only [wideOf, Bool.and_eq_true, decide_eq_true_eq] at hw
    have := wide_flat (x - 65281).toNat (by rw [List.mem_range]; omega)
    rwa [show (65281 : Int) + ((x - 65281).toNat : Int) = x by omega] at this
/-- The contract of 'one' at r, out of those of what it is split into. -/
theorem one_by (soft : Bool) (r : Int) (w : World) (H : ∀ y, splitOf r = some y → (∀ W, Calls Tryz.prog 136 #[.int .i32 y.one, .bool soft] W (PiecesPost (Norm.pieces soft y.one) W)) ∧
      (∀ W, Calls Tryz.prog 136 #[.int .i32 y.two, .bool soft] W (PiecesPost (Norm.pieces soft y.two) W))) :
    Calls Tryz.prog 136 #[.int .i32 r, .bool soft] w (PiecesPost (Norm.pieces soft r) w) := by
  cases hS : Norm.syl r with
  | true => exact one_syl soft r w hS
  | false =>
    cases hs : splitOf r with
    | none => exact one_stay soft r w hS fun y hy => by rw [hs] at hy; cases hy
    | some y =>
      cases hn : (y.soft && !soft) with
      | true =>
        refine one_stay soft r w hS fun z hz => ?_
        rw [hs] at hz
        obtain rfl := Option.some.inj hz
        simpa using hn
      | false =>
        obtain ⟨h1, h2⟩ := H y hs
        exact one_go soft r y w hS hs hn ⟨Nat.le_trans (pieces_len _ _) (by omega), Nat.le_trans (pieces_len _ _) (by omega)⟩ h1 h2
theorem one_flat (soft : Bool) (r : Int) (h : flat r = true) (w : World) : Calls Tryz.prog 136 #[.int .i32 r, .bool soft] w (PiecesPost (Norm.pieces soft r) w) :=
  one_by soft r w fun y hy => by unfold flat at h; rw [hy] at h; cases h
theorem one_flat1 (soft : Bool) (r : Int) (h : flat1 r = true) (w : World) : Calls Tryz.prog 136 #[.int .i32 r, .bool soft] w (PiecesPost (Norm.pieces soft r) w) :=
  one_by soft r w fun y hy => by
    unfold flat1 at h
    rw [hy] at h
    simp only [Bool.and_eq_true] at h
    exact ⟨one_flat soft _ h.1, one_flat soft _ h.2⟩
theorem one3_any (soft : Bool) (r : Int) (w : World) : Calls Tryz.prog 136 #[.int .i32 r, .bool soft] w (PiecesPost (Norm.pieces soft r) w) :=
  one_by soft r w fun _ hy => ⟨one_flat1 soft _ (split_flat hy).1, one_flat1 soft _ (split_flat hy).2⟩
theorem split_snoc (soft : Bool) (l : List Int) (r : Int) : Norm.split soft (l ++ [r]) = Norm.split soft l ++ Norm.pieces soft r := by simp [Norm.split]
theorem rows_max : ∀ y ∈ splits, (Norm.pieces true y.rune).length ≤ 20 ∧ (Norm.pieces false y.rune).length ≤ 20 := by decide +kernel
theorem wide_max : ∀ i ∈ List.range 94, (Norm.pieces true (65281 + i)).length ≤ 20 ∧ (Norm.pieces false (65281 + i)).length ≤ 20 := by decide +kernel
theorem pieces_max (soft : Bool) (x : Int) : (Norm.pieces soft x).length ≤ 20 := by
  cases ho : splitOf x with
  | some y =>
    rcases split_cases ho with ⟨h1, rfl⟩ | ⟨h1, -⟩
    · cases soft
      · exact (rows_max y h1).2
      · exact (rows_max y h1).1
    · unfold wideOf at h1
      rw [Bool.and_eq_true, decide_eq_true_eq, decide_eq_true_eq] at h1
      have h := wide_max (x - 65281).toNat (List.mem_range.2 (by omega))
      rw [show (65281 : Int) + ((x - 65281).toNat : Nat) = x by omega] at h
      cases soft
      · exact h.2
      · exact h.1
  | none =>
    rw [Norm.pieces_eq, ho]
    split
    · unfold Norm.sylParts
      split <;> simp
    · simp
theorem split_len (soft : Bool) (l : List Int) : (Norm.split soft l).length ≤ 20 * l.length := by
  induction l with
  | nil => simp [Norm.split]
  | cons r l ih =>
    have := pieces_max soft r
    simp only [Norm.split, List.flatMap_cons, List.length_append, List.length_cons] at ih ⊢
    omega
set_option maxHeartbeats 2000000 in
set_option maxRecDepth 100000 in
theorem split3_any (v : Value) (l : List Int) (soft : Bool) (w : World) (hl : Runes v l w) (hn : l.length ≤ 10000) : Calls Tryz.prog 100 #[v, .bool soft] w (PiecesPost (Norm.split soft l) w) := by
  obtain ⟨A, c, rfl, hc, hcell⟩ := hl.form
  have HC := Lib.hid hcell
  clear hl hcell
  go_enter Tryz.func100, Tryz.ntmps100
  go_wp2
  go_loopg [5, 6] (l.length + 1) (fun gk v i wr => ∃ k : Nat, k ≤ l.length ∧ i = .int .i64 k ∧ l.length - k < gk ∧ Hid (OwnR w.heap.size v (Norm.split soft (l.take k)) wr ∧ Below w.heap.size w wr))
  case atStart => exact ⟨0, Nat.zero_le _, rfl, by omega, ⟨OwnR.nil _ _, Below.refl _ _⟩⟩
  case round =>
    obtain ⟨k, hk, rfl, hg, I⟩ := hrel
    by_cases hlt : k < l.length
    · obtain ⟨ad, rfl, hb, hx⟩ := HC.out k hlt
      have hx' := (I.out.2.cell (by rw [add_block]; exact hb)).trans hx
      obtain ⟨x, hxe⟩ : ∃ x, x = l[k]! := ⟨_, rfl⟩
      rw [← hxe] at hx'
      have HX := Lib.hid hxe
      have hB := one3_any soft x wr
      have hle : (Norm.split soft (l.take k)).length ≤ 1000000 := by have := split_len soft (l.take k); rw [List.length_take] at this; omega
      have hpl := pieces_len soft x
      clear hx hb hxe
      go_wp2_with (first
        | (go_at_call 136; ((with_reducible refine hB.mono ?_); rintro e w2 ⟨v2, rfl, hs2, hb2⟩; have HS := Lib.hid hs2.runes; have HB := Lib.hid hb2; clear hs2 hb2))
        | (at_builtin; refine append_row w2 51 21 (.int .i32 0) 4 Tryz.underlying51 info_i32 rfl (by omega) w.heap.size u5 _ _ (I.out.1.keep HB.out) (Nat.le_trans I.out.2.size HB.out.size) hle v2 _ HS.out (one_runes _) (by rw [List.length_map]; omega) rfl _ _ rfl rfl rfl ?_; intro v3 w3 ho3 hb3; have HO := Lib.hid ho3; have HB3 := Lib.hid hb3; clear ho3 hb3))
      have I2 : Hid (OwnR w.heap.size v3 (Norm.split soft (l.take (k + 1))) w3 ∧ Below w.heap.size w w3) := by
        refine ⟨?_, (I.out.2.trans (HB.out.mono I.out.2.size)).trans HB3.out⟩
        rw [take_next l k hlt, split_snoc, ← HX.out]
        exact OwnR.more HO.out rfl (by rw [List.length_map])
      go_roundg (l.length - k)
      case measure => omega
      case rel => exact ⟨k + 1, by omega, by go_num, by omega, I2⟩
    · obtain rfl : k = l.length := by omega
      go_wp2
      go_ret
      have h := I.out.1
      rw [List.take_length] at h
      exact ⟨_, rfl, h, I.out.2⟩
end Go.Proofs.YtmbammhkkcnoaaaGreat
namespace Go.Proofs.YtmbammhkkcnoaaaGreat
open Go.RowKit Utf
namespace Norm
theorem passes_next : ∀ (n : Nat) (l : List Int), passes (n + 1) l = pass (passes n l)
  | 0, _ => rfl
  | n + 1, l => by
    show passes (n + 1) (pass l) = _
    rw [passes_next n (pass l)]
    rfl
theorem bub_turn {x y : Int} {t : List Int} (h : 0 < clsOf y ∧ clsOf y < clsOf x) : bub x (y :: t) = y :: bub x t := by
  rw [bub, if_pos h]
theorem bub_go {x y : Int} {t : List Int} (h : ¬ (0 < clsOf y ∧ clsOf y < clsOf x)) : bub x (y :: t) = x :: bub y t := by
  rw [bub, if_neg h]
theorem at_done (d : List Int) (x : Int) (t : List Int) : (d ++ x :: t)[d.length]! = x := by simp
theorem at_next (d : List Int) (x y : Int) (t : List Int) : (d ++ x :: y :: t)[d.length + 1]! = y := by
  have : (d ++ x :: y :: t) = (d ++ [x]) ++ y :: t := by simp
  rw [this, show d.length + 1 = (d ++ [x]).length by simp]
  exact at_done _ _ _
theorem set_two (d : List Int) (x y : Int) (t : List Int) : ((d ++ x :: y :: t).set d.length y).set (d.length + 1) x = d ++ y :: x :: t := by
  rw [List.set_append_right _ _ (Nat.le_refl _), List.set_append_right _ _ (by omega), Nat.sub_self, show d.length + 1 - d.length = 1 by omega]
  rfl
end Norm
/-- The state of one pass: what is done, what is carried, what is left. -/
def Going (L d : List Int) (x : Int) (t : List Int) : Prop := Norm.pass L = d ++ Norm.bub x t ∧ L.length = d.length + 1 + t.length
set_option maxHeartbeats 4000000 in
set_option maxRecDepth 100000 in
theorem order3_any (v : Value) (l : List Int) (w : World) (hl : Runes v l w) (hn : l.length ≤ 10000) : Calls Tryz.prog 99 #[v] w (PiecesPost (Norm.order l) w) := by
  have HL := Lib.hid hl
  clear hl
  go_enter Tryz.func99, Tryz.ntmps99
  go_wp2_with (at_builtin; refine append_row (w.alloc (.cells #[] 21)) 51 21 (.int .i32 0) 4 Tryz.underlying51 info_i32 rfl (by omega) w.heap.size _ _ _ (own_empty w _ (Nat.le_refl _)) (by simp) (by omega) _ _ (HL.out.keep (below_one _ _)) (one_runes _) (by rw [List.length_map]; omega) rfl _ _ rfl rfl rfl ?_; intro v2 w2 ho2 hb2; have hO2 : OwnR w.heap.size v2 l w2 := (OwnR.more (l := []) ho2 rfl (by rw [List.length_map])); obtain ⟨A, c, rfl, hA⟩ := hO2.shape; have O2 := Lib.hid hO2; have HA := Lib.hid hA; have B2 := Lib.hid ((below_one w _).trans hb2); clear ho2 hb2 hO2 hA)
  go_loopg [4] (l.length + 1) (fun gk i wr => ∃ n : Nat, n ≤ l.length ∧ i = .int .i64 n ∧ l.length - n < gk ∧ Hid (OwnR w.heap.size (.slice A l.length c) (Norm.passes n l) wr ∧ Below w.heap.size w wr))
  case atStart => exact ⟨0, Nat.zero_le _, rfl, by omega, ⟨O2.out, B2.out⟩⟩
  case round =>
    obtain ⟨n, hnl, rfl, hg, I⟩ := hrel
    by_cases hlt : n < l.length
    · obtain ⟨g, rfl, hgb, -⟩ := HA.out (by omega)
      have HG := Lib.hid hgb
      clear hgb
      obtain ⟨L, hL⟩ : ∃ L, L = Norm.passes n l := ⟨_, rfl⟩
      have hLl : L.length = l.length := by rw [hL, Norm.passes_len]
      rw [← hL] at I
      have H := Lib.hid hL
      have HLl := Lib.hid hLl
      have hstart : ∃ x t, L = x :: t := by
        cases L with
        | nil => simp at hLl; omega
        | cons x t => exact ⟨x, t, rfl⟩
      have HST := Lib.hid hstart
      clear hL hLl hstart
      go_wp2
      go_loopg [5] (l.length + 1) (fun gk i wr => ∃ (d : List Int) (x : Int) (t : List Int), i = .int .i64 ((d.length : Int) + 1) ∧ t.length < gk ∧ d.length + 1 + t.length = l.length ∧ Hid (Going L d x t ∧ OwnR w.heap.size (.slice (some ⟨g, 0, none⟩) l.length c) (d ++ x :: t) wr ∧ Below w.heap.size w wr))
      case atStart =>
        obtain ⟨x, t, e⟩ := HST.out
        have hh := HLl.out
        rw [e] at hh
        simp only [List.length_cons] at hh
        refine ⟨[], x, t, rfl, by omega, by simp; omega, ⟨⟨by rw [e]; rfl, by rw [e]; simp; omega⟩, ?_, I.out.2⟩⟩
        have := I.out.1
        rw [e] at this
        exact this
      case round =>
        obtain ⟨d, x, t, rfl, hgt, hlen, J⟩ := hrel
        cases t with
        | nil =>
          have hz : ¬ ((d.length : Int) + 1 < (l.length : Int)) := by simp at hlen; omega
          have hd1 : (d ++ [x]).length = l.length := by simp at hlen ⊢; omega
          have I2 : Hid (OwnR w.heap.size (.slice (some ⟨g, 0, none⟩) l.length c) (Norm.passes (n + 1) l) wr ∧ Below w.heap.size w wr) := by
            refine ⟨?_, J.out.2.2⟩
            rw [Norm.passes_next, ← H.out, J.out.1.1]
            exact J.out.2.1
          clear J hd1
          go_wp2
          go_roundg (l.length - n)
          case measure => omega
          case rel => exact ⟨n + 1, by omega, by go_num, by omega, I2⟩
        | cons y t =>
          have hz : (d.length : Int) + 1 < (l.length : Int) := by simp at hlen; omega
          have c1 := J.out.2.1.cell d.length (by simp)
          have c2 := J.out.2.1.cell (d.length + 1) (by simp)
          rw [Norm.at_done] at c1
          rw [Norm.at_next] at c2
          have hbl := J.out.2.2.size
          have k1 := refClass_any x wr
          obtain ⟨a, ha⟩ : ∃ a, a = clsOf x := ⟨_, rfl⟩
          obtain ⟨b, hb⟩ : ∃ b, b = clsOf y := ⟨_, rfl⟩
          rw [← ha] at k1
          have k2 := fun W => refClass_any y W
          rw [← hb] at k2
          have K2 := Lib.hid k2
          have HAa := Lib.hid ha
          have HBb := Lib.hid hb
          clear ha hb k2
          have hlen' : d.length + 1 + (t.length + 1) = l.length := by simpa using hlen
          go_wp2_with fail
          refine k1.mono ?_
          rintro e w3 ⟨rfl, hb3⟩
          have O3 := Lib.hid (J.out.2.1.keep hb3)
          have B3 := Lib.hid (J.out.2.2.trans (hb3.mono J.out.2.2.size))
          have c3 := O3.out.cell (d.length + 1) (by simp)
          rw [Norm.at_next] at c3
          clear hb3 c1 c2 k1
          go_wp2_with fail
          refine (K2.out _).mono ?_
          rintro e w4 ⟨rfl, hb4⟩
          have O4 := Lib.hid (O3.out.keep hb4)
          have B4 := Lib.hid (B3.out.trans (hb4.mono B3.out.size))
          clear hb4 c3 O3 B3
          by_cases hsw : 0 < b ∧ b < a
          · obtain ⟨hb0, hba⟩ := hsw
            have d1 := O4.out.cell d.length (by simp)
            have d2 := O4.out.cell (d.length + 1) (by simp)
            rw [Norm.at_done] at d1
            rw [Norm.at_next] at d2
            have f1 := O4.out.free d.length
            have f2 := O4.out.free (d.length + 1)
            have hG : Going L (d ++ [y]) x t := ⟨by rw [J.out.1.1, Norm.bub_turn (by rw [← HAa.out, ← HBb.out]; exact ⟨hb0, hba⟩), List.append_assoc]; rfl, by have := J.out.1.2; simp at this ⊢; omega⟩
            have J2 : Hid (Going L (d ++ [y]) x t ∧ OwnR w.heap.size (.slice (some ⟨g, 0, none⟩) l.length c) ((d ++ [y]) ++ x :: t) (((w4.setCell ⟨g, d.length, none⟩ (.int .i32 y)).setCell ⟨g, d.length + 1, none⟩ (.int .i32 x)).drew) ∧ Below w.heap.size w (((w4.setCell ⟨g, d.length, none⟩ (.int .i32 y)).setCell ⟨g, d.length + 1, none⟩ (.int .i32 x)).drew)) := by
              refine ⟨hG, ?_, ((B4.out.setCell (p := ⟨g, d.length, none⟩) HG.out _).setCell (p := ⟨g, d.length + 1, none⟩) HG.out _).drew⟩
              have h := (O4.out.put d.length y).put (d.length + 1) x
              rw [Norm.set_two] at h
              rw [List.append_assoc]
              exact h
            clear hG J
            go_wp2
            go_region
            go_wp2
            go_roundg (t.length + 1)
            case measure => simp at hgt; omega
            case rel => exact ⟨d ++ [y], x, t, by simp, by omega, by simp; omega, J2⟩
          · have hG : Going L (d ++ [x]) y t := ⟨by rw [J.out.1.1, Norm.bub_go (by rw [← HAa.out, ← HBb.out]; exact hsw), List.append_assoc]; rfl, by have := J.out.1.2; simp at this ⊢; omega⟩
            have J2 : Hid (Going L (d ++ [x]) y t ∧ OwnR w.heap.size (.slice (some ⟨g, 0, none⟩) l.length c) ((d ++ [x]) ++ y :: t) w4 ∧ Below w.heap.size w w4) := ⟨hG, by simpa using O4.out, B4.out⟩
            have hsw' : ¬ (0 < b) ∨ a ≤ b := by omega
            clear hG hsw J
            by_cases hb0 : 0 < b
            · have hba : a ≤ b := by omega
              clear hsw'
              go_wp2
              go_roundg (t.length + 1)
              case measure => simp at hgt; omega
              case rel => exact ⟨d ++ [x], y, t, by simp, by omega, by simp; omega, J2⟩
            · have hb1 : b ≤ 0 := by omega
              clear hsw' hb0
              go_wp2
              go_roundg (t.length + 1)
              case measure => simp at hgt; omega
              case rel => exact ⟨d ++ [x], y, t, by simp, by omega, by simp; omega, J2⟩
    · obtain rfl : n = l.length := by omega
      go_wp2
      go_ret
      have h := I.out.1
      rw [Norm.passes_order] at h
      exact ⟨_, rfl, h, I.out.2⟩
end Go.Proofs.YtmbammhkkcnoaaaGreat
namespace Go.Proofs.YtmbammhkkcnoaaaGreat
open Go.RowKit Utf
theorem mk_lv {a b : Int} (h : 4352 ≤ a ∧ a ≤ 4370 ∧ 4449 ≤ b ∧ b ≤ 4469) : Norm.make2 a b = some (44032 + (a - 4352) * 588 + (b - 4449) * 28) := by
  unfold Norm.make2; rw [if_pos h]
theorem mk_lvt {a b : Int} (h : 44032 ≤ a ∧ a ≤ 55203 ∧ (a - 44032) % 28 = 0 ∧ 4520 ≤ b ∧ b ≤ 4546) : Norm.make2 a b = some (a + b - 4519) := by
  unfold Norm.make2; rw [if_neg (by omega), if_pos ⟨(Norm.syl_iff a).2 ⟨h.1, h.2.1⟩, h.2.2⟩]
theorem mk_pair {a b : Int} (h1 : ¬ (4352 ≤ a ∧ a ≤ 4370 ∧ 4449 ≤ b ∧ b ≤ 4469)) (h2 : ¬ (44032 ≤ a ∧ a ≤ 55203 ∧ (a - 44032) % 28 = 0 ∧ 4520 ≤ b ∧ b ≤ 4546)) : Norm.make2 a b = pairOf a b := by
  unfold Norm.make2; rw [if_neg h1, if_neg fun h => h2 ⟨((Norm.syl_iff a).1 h.1).1, ((Norm.syl_iff a).1 h.1).2, h.2⟩]
set_option maxHeartbeats 4000000 in
set_option maxRecDepth 100000 in
theorem make2_any (a b : Int) (w : World) : Calls Tryz.prog 137 #[.int .i32 a, .int .i32 b] w (TellsRune (Norm.make2 a b) w) := by
  have hS := fun W => syllable_any a W
  have hP := fun W => refPair_any a b W
  have HP := Lib.hid hP
  clear hP
  cases hsy : Norm.syl a with
  | true =>
    obtain ⟨h1, h2⟩ := (Norm.syl_iff a).1 hsy
    rw [hsy] at hS
    have HS := Lib.hid hS
    clear hS hsy
    go_enter Tryz.func137, Tryz.ntmps137
    go_wp2_with (first
      | (go_at_call 157; refine (HS.out _).mono ?_; rintro e w1 ⟨rfl, rfl⟩)
      | (go_at_call 158; refine (HP.out _).mono ?_; rintro e w1 ⟨rfl, hb1⟩))
    all_goals go_ret2
    all_goals first
      | exact ⟨by rw [mk_lvt (by omega)]; rfl, Below.refl _ _⟩
      | exact ⟨by rw [mk_pair (by omega) (by omega)]; rfl, by assumption⟩
  | false =>
    have hno : ¬ (44032 ≤ a ∧ a ≤ 55203) := fun h => by rw [(Norm.syl_iff a).2 h] at hsy; cases hsy
    have HNO := Lib.hid hno
    rw [hsy] at hS
    have HS := Lib.hid hS
    clear hS hsy hno
    go_enter Tryz.func137, Tryz.ntmps137
    go_wp2_with (first
      | (go_at_call 157; refine (HS.out _).mono ?_; rintro e w1 ⟨rfl, rfl⟩)
      | (go_at_call 158; refine (HP.out _).mono ?_; rintro e w1 ⟨rfl, hb1⟩))
    all_goals go_ret2
    all_goals first
      | exact ⟨by rw [mk_lv (by omega)]; rfl, Below.refl _ _⟩
      | exact ⟨by rw [mk_pair (by omega) (by have := HNO.out; omega)]; rfl, by assumption⟩
namespace Norm
theorem while_all {p : Int → Bool} : ∀ {M : List Int} (B : List Int), (∀ y ∈ M, p y = true) → (∀ s t, B = s :: t → p s = false) → (M ++ B).takeWhile p = M ∧ (M ++ B).dropWhile p = B
  | [], B, _, hB => by
    cases B with
    | nil => exact ⟨rfl, rfl⟩
    | cons s t =>
      have := hB s t rfl
      simp [this]
  | y :: M, B, hM, hB => by
    obtain ⟨h1, h2⟩ := while_all B (M := M) (fun z hz => hM z (by simp [hz])) hB
    have hy := hM y (by simp)
    simp only [List.cons_append, List.takeWhile_cons, List.dropWhile_cons, hy, if_true, h1, h2]
    exact ⟨trivial, trivial⟩
/-- What is joined so far, with one more. -/
def next (o : List Int) (x : Int) : List Int := (step o.reverse x).reverse
theorem join_take (l : List Int) (k : Nat) (h : k < l.length) : join (l.take (k + 1)) = next (join (l.take k)) l[k]! := by
  unfold join joinR next
  rw [List.take_succ_eq_append_getElem h, List.foldl_append, getElem!_pos l k h, List.reverse_reverse]
  rfl
theorem next_none {M : List Int} (x : Int) (hM : ∀ y ∈ M, 0 < clsOf y) : next M x = M ++ [x] := by
  obtain ⟨h1, h2⟩ := while_all (p := fun y => decide (0 < clsOf y)) (M := M.reverse) [] (fun y hy => by simpa using hM y (by simpa using hy)) (fun s t h => by cases h)
  rw [List.append_nil] at h1 h2
  unfold next step
  rw [h2]
  simp
theorem next_at {Q M : List Int} (s x : Int) (hM : ∀ y ∈ M, 0 < clsOf y) (hs : ¬ 0 < clsOf s) :
    next (Q ++ s :: M) x = if M.all (fun y => decide (clsOf y < clsOf x)) = true then (match make2 s x with | some z => Q ++ z :: M | none => Q ++ s :: M ++ [x]) else Q ++ s :: M ++ [x] := by
  have e : (Q ++ s :: M).reverse = M.reverse ++ s :: Q.reverse := by simp
  obtain ⟨h1, h2⟩ := while_all (p := fun y => decide (0 < clsOf y)) (M := M.reverse) (s :: Q.reverse) (fun y hy => by simpa using hM y (by simpa using hy)) (fun s' t h => by cases h; simpa using hs)
  unfold next step
  rw [e, h1, h2, List.all_reverse]
  simp only
  split
  · cases make2 s x with
    | some z => simp
    | none => simp
  · simp
theorem at_end (Q : List Int) (s : Int) (M : List Int) : (Q ++ s :: M)[Q.length]! = s := by simp
theorem set_end (Q : List Int) (s z : Int) (M : List Int) : (Q ++ s :: M).set Q.length z = Q ++ z :: M := by
  rw [List.set_append_right _ _ (Nat.le_refl _), Nat.sub_self]
  rfl
theorem next_len (o : List Int) (x : Int) : (next o x).length ≤ o.length + 1 := by
  unfold next step
  split
  · simp
  · rename_i s A hA
    split
    · split
      · have := congrArg List.length (List.takeWhile_append_dropWhile (p := fun y => decide (0 < clsOf y)) (l := o.reverse))
        rw [hA] at this
        simp only [List.length_append, List.length_cons, List.length_reverse] at this ⊢
        omega
      · simp
    · simp
theorem join_len : ∀ (l : List Int) (k : Nat), k ≤ l.length → (join (l.take k)).length ≤ k
  | _, 0, _ => by simp [join, joinR]
  | l, k + 1, h => by
    rw [join_take l k (by omega)]
    have := join_len l k (by omega)
    have := next_len (join (l.take k)) l[k]!
    omega
end Norm
set_option maxHeartbeats 4000000 in
set_option maxRecDepth 100000 in
theorem join3_any (v : Value) (l : List Int) (w : World) (hl : Runes v l w) (hn : l.length ≤ 10000) : Calls Tryz.prog 101 #[v] w (PiecesPost (Norm.join l) w) := by
  obtain ⟨A, c, rfl, -, hcell⟩ := hl.form
  have HC := Lib.hid hcell
  clear hl hcell
  go_enter Tryz.func101, Tryz.ntmps101
  go_wp2
  go_loopg [3, 4] (l.length + 1) (fun gk v i wr => ∃ k : Nat, k ≤ l.length ∧ i = .int .i64 k ∧ l.length - k < gk ∧ Hid (OwnR w.heap.size v (Norm.join (l.take k)) wr ∧ Below w.heap.size w wr))
  case atStart => exact ⟨0, Nat.zero_le _, rfl, by omega, ⟨OwnR.nil _ _, Below.refl _ _⟩⟩
  case round =>
    obtain ⟨k, hk, rfl, hg, I⟩ := hrel
    by_cases hlt : k < l.length
    · obtain ⟨ad, rfl, hb, hx⟩ := HC.out k hlt
      have hx' := (I.out.2.cell (by rw [add_block]; exact hb)).trans hx
      obtain ⟨x, hxe⟩ : ∃ x, x = l[k]! := ⟨_, rfl⟩
      rw [← hxe] at hx'
      have hol := Norm.join_len l k hk
      have hjt := Norm.join_take l k hlt
      rw [← hxe] at hjt
      generalize Norm.join (l.take k) = o at I hol hjt
      obtain ⟨A2, c2, rfl, hA2⟩ := I.out.1.shape
      have HA2 := Lib.hid hA2
      have HJ := Lib.hid hjt
      have hK := refClass_any x wr
      obtain ⟨cx, hcx⟩ : ∃ cx, cx = clsOf x := ⟨_, rfl⟩
      rw [← hcx] at hK
      have HCX := Lib.hid hcx
      have HXA := Lib.hid hb
      have HXC := Lib.hid (show w.cell? (ad.add k) = some (.int .i32 x) by rw [hxe]; exact hx)
      clear hx hxe hA2 hjt hcx hb
      go_wp2_with fail
      refine hK.mono ?_
      rintro e w3 ⟨rfl, hb3⟩
      have O3 := Lib.hid (I.out.1.keep hb3)
      have B3 := Lib.hid (I.out.2.trans (hb3.mono I.out.2.size))
      clear hb3 hK I hx'
      go_wp2
      go_loopg [6, 7] (o.length + 1) (fun gk s6 s7 wr => ∃ (Q M : List Int) (fr : Bool), s6 = .int .i64 ((Q.length : Int) - 1) ∧ s7 = .bool fr ∧ Q.length < gk ∧ Q.length ≤ o.length ∧ Hid (o = Q ++ M ∧ fr = M.all (fun y => decide (clsOf y < cx)) ∧ (∀ y ∈ M, 0 < clsOf y) ∧ OwnR w.heap.size (.slice A2 o.length c2) o wr ∧ Below w.heap.size w wr))
      case atStart => exact ⟨o, [], true, rfl, rfl, by omega, Nat.le_refl _, ⟨by simp, rfl, fun y hy => (by cases hy), O3.out, B3.out⟩⟩
      case round =>
        obtain ⟨Q, M, fr, rfl, rfl, hgq, hqo, J⟩ := hrel
        rcases List.eq_nil_or_concat Q with rfl | ⟨Q', s, rfl⟩
        · have NX := Lib.hid (show Norm.next o x = o ++ [x] by rw [J.out.1]; exact Norm.next_none x J.out.2.2.1)
          have O9 := Lib.hid J.out.2.2.2.1
          have B9 := Lib.hid J.out.2.2.2.2
          clear J
          have hx9 := (B9.out.cell (by rw [add_block]; exact HXA.out)).trans HXC.out
          have hol9 : o.length ≤ 1000000 := by omega
          go_wp2_with (at_builtin; refine append_cells wr 51 21 (.int .i32 0) 4 Tryz.underlying51 info_i32 rfl (by omega) w.heap.size _ _ _ O9.out B9.out.size hol9 1 (by omega) _ rfl rfl rfl _ _ rfl rfl rfl ?_; intro v8 w8 ho8 hb8; have O8 := Lib.hid ho8; have B8 := Lib.hid hb8; clear ho8 hb8)
          have I2 : Hid (OwnR w.heap.size v8 (Norm.join (l.take (k + 1))) w8 ∧ Below w.heap.size w w8) := by
            refine ⟨?_, B9.out.trans B8.out⟩
            rw [HJ.out, NX.out]
            exact OwnR.more O8.out rfl rfl
          go_roundg (l.length - k)
          case measure => omega
          case rel => exact ⟨k + 1, by omega, by go_num, by omega, I2⟩
        · rw [List.concat_eq_append] at J hgq hqo ⊢
          have hol1 : 0 < o.length := by have := congrArg List.length J.out.1; simp at this; omega
          obtain ⟨g, rfl, hgb, -⟩ := HA2.out hol1
          have HG := Lib.hid hgb
          clear hgb
          have hql : Q'.length < o.length := by have := congrArg List.length J.out.1; simp at this; omega
          have hoe : o = Q' ++ s :: M := by rw [J.out.1]; simp
          have hle : ((Q' ++ [s]).length : Int) - 1 = (Q'.length : Int) := by simp
          rw [hle]
          have cs := J.out.2.2.2.1.cell Q'.length hql
          rw [show o[Q'.length]! = s by rw [hoe, Norm.at_end]] at cs
          have HOE := Lib.hid hoe
          have hqz : (Q'.length : Int) < (o.length : Int) := by omega
          obtain ⟨cl, hcl⟩ : ∃ cl, cl = clsOf s := ⟨_, rfl⟩
          have kS := fun W => refClass_any s W
          rw [← hcl] at kS
          have KS := Lib.hid kS
          have HCL := Lib.hid hcl
          clear hoe hle kS hcl
          by_cases hpos : 0 < cl
          · cases fr with
            | true =>
              go_wp2_with fail
              refine (KS.out _).mono ?_
              rintro e w5 ⟨rfl, hb5⟩
              have O5 := Lib.hid (J.out.2.2.2.1.keep hb5)
              have B5 := Lib.hid (J.out.2.2.2.2.trans (hb5.mono J.out.2.2.2.2.size))
              have cs5 := O5.out.cell Q'.length hql
              rw [show o[Q'.length]! = s by rw [HOE.out, Norm.at_end]] at cs5
              clear hb5 cs
              go_wp2_with fail
              refine (KS.out _).mono ?_
              rintro e w6 ⟨rfl, hb6⟩
              have O6 := Lib.hid (O5.out.keep hb6)
              have B6 := Lib.hid (B5.out.trans (hb6.mono B5.out.size))
              clear hb6 cs5
              have J2 : Hid (o = Q' ++ (s :: M) ∧ decide (cl < cx) = (s :: M).all (fun y => decide (clsOf y < cx)) ∧ (∀ y ∈ s :: M, 0 < clsOf y) ∧ OwnR w.heap.size (.slice (some ⟨g, 0, none⟩) o.length c2) o w6 ∧ Below w.heap.size w w6) := by
                refine ⟨HOE.out, ?_, fun y hy => ?_, O6.out, B6.out⟩
                · rw [List.all_cons, ← J.out.2.1, Bool.and_true, HCL.out]
                · rcases List.mem_cons.1 hy with rfl | hy
                  · rw [← HCL.out]; exact hpos
                  · exact J.out.2.2.1 y hy
              clear J
              go_wp2
              all_goals
                go_roundg (Q'.length + 1)
                case measure => simp at hgq; omega
                case rel => exact ⟨Q', s :: M, decide (cl < cx), by simp, by simp [*], by omega, by omega, J2⟩
            | false =>
              go_wp2_with fail
              refine (KS.out _).mono ?_
              rintro e w5 ⟨rfl, hb5⟩
              have J2 : Hid (o = Q' ++ (s :: M) ∧ false = (s :: M).all (fun y => decide (clsOf y < cx)) ∧ (∀ y ∈ s :: M, 0 < clsOf y) ∧ OwnR w.heap.size (.slice (some ⟨g, 0, none⟩) o.length c2) o w5 ∧ Below w.heap.size w w5) := by
                refine ⟨HOE.out, ?_, fun y hy => ?_, J.out.2.2.2.1.keep hb5, J.out.2.2.2.2.trans (hb5.mono J.out.2.2.2.2.size)⟩
                · rw [List.all_cons, ← J.out.2.1, Bool.and_false]
                · rcases List.mem_cons.1 hy with rfl | hy
                  · rw [← HCL.out]; exact hpos
                  · exact J.out.2.2.1 y hy
              clear J hb5 cs
              go_wp2
              go_roundg (Q'.length + 1)
              case measure => simp at hgq; omega
              case rel => exact ⟨Q', s :: M, false, by simp, rfl, by omega, by omega, J2⟩
          · have hneg : cl ≤ 0 := by omega
            have NA := Lib.hid (Norm.next_at (Q := Q') s x J.out.2.2.1 (by rw [← HCL.out]; exact hpos))
            clear hpos
            cases fr with
            | false =>
              go_wp2_with fail
              refine (KS.out _).mono ?_
              rintro e w5 ⟨rfl, hb5⟩
              have O9 := Lib.hid (J.out.2.2.2.1.keep hb5)
              have B9 := Lib.hid (J.out.2.2.2.2.trans (hb5.mono J.out.2.2.2.2.size))
              have NX := Lib.hid (show Norm.next o x = o ++ [x] by rw [HOE.out, NA.out, if_neg (by rw [← HCX.out, ← J.out.2.1]; decide)])
              clear hb5 cs J
              have hx9 := (B9.out.cell (by rw [add_block]; exact HXA.out)).trans HXC.out
              have hol9 : o.length ≤ 1000000 := by omega
              go_wp2_with (at_builtin; refine append_cells w5 51 21 (.int .i32 0) 4 Tryz.underlying51 info_i32 rfl (by omega) w.heap.size _ _ _ O9.out B9.out.size hol9 1 (by omega) _ rfl rfl rfl _ _ rfl rfl rfl ?_; intro v8 w8 ho8 hb8; have O8 := Lib.hid ho8; have B8 := Lib.hid hb8; clear ho8 hb8)
              have I2 : Hid (OwnR w.heap.size v8 (Norm.join (l.take (k + 1))) w8 ∧ Below w.heap.size w w8) := by
                refine ⟨?_, B9.out.trans B8.out⟩
                rw [HJ.out, NX.out]
                exact OwnR.more O8.out rfl rfl
              go_roundg (l.length - k)
              case measure => omega
              case rel => exact ⟨k + 1, by omega, by go_num, by omega, I2⟩
            | true =>
              have NF := Lib.hid (show M.all (fun y => decide (clsOf y < clsOf x)) = true by rw [← HCX.out]; exact J.out.2.1.symm)
              go_wp2_with fail
              refine (KS.out _).mono ?_
              rintro e w5 ⟨rfl, hb5⟩
              have O5 := Lib.hid (J.out.2.2.2.1.keep hb5)
              have B5 := Lib.hid (J.out.2.2.2.2.trans (hb5.mono J.out.2.2.2.2.size))
              have cs5 := O5.out.cell Q'.length hql
              rw [show o[Q'.length]! = s by rw [HOE.out, Norm.at_end]] at cs5
              have hx5 := (B5.out.cell (by rw [add_block]; exact HXA.out)).trans HXC.out
              have hkz : (k : Int) < (l.length : Int) := by omega
              have MK := Lib.hid (fun W => make2_any s x W)
              clear hb5 cs J
              go_wp2_with fail
              cases hmk : Norm.make2 s x with
              | none =>
                have NX := Lib.hid (show Norm.next o x = o ++ [x] by rw [HOE.out, NA.out, if_pos NF.out, hmk])
                have hM := MK.out
                simp only [hmk] at hM
                have HM := Lib.hid hM
                clear hM hmk MK
                go_region_with ((go_at_call 137; refine (HM.out _).mono ?_; rintro e w6 ⟨rfl, hb6⟩; have HB6 := Lib.hid (below_of_drew hb6); have O9 := Lib.hid (O5.out.keep HB6.out); have B9 := Lib.hid (B5.out.trans (HB6.out.mono B5.out.size)); have hx9 := (B9.out.cell (by rw [add_block]; exact HXA.out)).trans HXC.out; have cs9 := O9.out.cell Q'.length hql; have fr9 := O9.out.free Q'.length; clear hb6 cs5 hx5))
                all_goals
                  have hol9 : o.length ≤ 1000000 := by omega
                  go_wp2_with (at_builtin; refine append_cells w6 51 21 (.int .i32 0) 4 Tryz.underlying51 info_i32 rfl (by omega) w.heap.size _ _ _ O9.out B9.out.size hol9 1 (by omega) _ rfl rfl rfl _ _ rfl rfl rfl ?_; intro v8 w8 ho8 hb8; have O8 := Lib.hid ho8; have B8 := Lib.hid hb8; clear ho8 hb8)
                  have I2 : Hid (OwnR w.heap.size v8 (Norm.join (l.take (k + 1))) w8 ∧ Below w.heap.size w w8) := by
                    refine ⟨?_, B9.out.trans B8.out⟩
                    rw [HJ.out, NX.out]
                    exact OwnR.more O8.out rfl rfl
                  go_roundg (l.length - k)
                  case measure => omega
                  case rel => exact ⟨k + 1, by omega, by go_num, by omega, I2⟩
              | some z =>
                have NX := Lib.hid (show Norm.next o x = Q' ++ z :: M by rw [HOE.out, NA.out, if_pos NF.out, hmk])
                have hM := MK.out
                simp only [hmk] at hM
                have HM := Lib.hid hM
                clear hM hmk MK
                go_region_with ((go_at_call 137; refine (HM.out _).mono ?_; rintro e w6 ⟨rfl, hb6⟩; have HB6 := Lib.hid (below_of_drew hb6); have O9 := Lib.hid (O5.out.keep HB6.out); have B9 := Lib.hid (B5.out.trans (HB6.out.mono B5.out.size)); have hx9 := (B9.out.cell (by rw [add_block]; exact HXA.out)).trans HXC.out; have cs9 := O9.out.cell Q'.length hql; have fr9 := O9.out.free Q'.length; clear hb6 cs5 hx5))
                all_goals
                  have I2 : Hid (OwnR w.heap.size (.slice (some ⟨g, 0, none⟩) o.length c2) (Norm.join (l.take (k + 1))) (w6.setCell ⟨g, Q'.length, none⟩ (.int .i32 z)) ∧ Below w.heap.size w (w6.setCell ⟨g, Q'.length, none⟩ (.int .i32 z))) := by
                    refine ⟨?_, B9.out.setCell (p := ⟨g, Q'.length, none⟩) HG.out _⟩
                    rw [HJ.out, NX.out]
                    have h := O9.out.put Q'.length z
                    rw [show o.set Q'.length z = Q' ++ z :: M by rw [HOE.out, Norm.set_end]] at h
                    exact h
                  go_wp2
                  go_roundg (l.length - k)
                  case measure => omega
                  case rel => exact ⟨k + 1, by omega, by go_num, by omega, I2⟩
    · obtain rfl : k = l.length := by omega
      go_wp2
      go_ret
      have h := I.out.1
      rw [List.take_length] at h
      exact ⟨_, rfl, h, I.out.2⟩
end Go.Proofs.YtmbammhkkcnoaaaGreat
namespace Go.Proofs.YtmbammhkkcnoaaaGreat
open Go.RowKit Utf
theorem rows_right : ∀ y ∈ splits, (rightZ y.rune && (Norm.pieces false y.rune).all rightZ && (Norm.pieces true y.rune).all rightZ) = true := by decide +kernel
theorem wide_right : ∀ i ∈ List.range 94, (rightZ (65281 + i) && (Norm.pieces false (65281 + i)).all rightZ && (Norm.pieces true (65281 + i)).all rightZ) = true := by decide +kernel
theorem split_right (soft : Bool) {x : Int} {y : Sp} (h : splitOf x = some y) : rightZ x = true ∧ ∀ c ∈ Norm.pieces soft x, rightZ c = true := by
  have key : (rightZ x && (Norm.pieces false x).all rightZ && (Norm.pieces true x).all rightZ) = true := by
    rcases split_cases h with ⟨hy, rfl⟩ | ⟨hw, rfl⟩
    · exact rows_right y hy
    · simp only [wideOf, Bool.and_eq_true, decide_eq_true_eq] at hw
      have := wide_right (x - 65281).toNat (by rw [List.mem_range]; omega)
      rwa [show (65281 : Int) + ((x - 65281).toNat : Int) = x by omega] at this
  simp only [Bool.and_eq_true] at key
  refine ⟨key.1.1, ?_⟩
  cases soft
  · exact List.all_eq_true.1 key.1.2
  · exact List.all_eq_true.1 key.2
theorem pieces_right (soft : Bool) {r : Int} (h : rightZ r = true) : ∀ c ∈ Norm.pieces soft r, rightZ c = true := by
  cases hs : Norm.syl r with
  | true =>
    rw [Norm.pieces_eq, hs]
    intro c hc
    have := (Norm.jamo_iff c).1 (Norm.syl_jamo hs c hc)
    exact (rightZ_iff c).2 (by omega)
  | false =>
    cases hp : splitOf r with
    | none =>
      intro c hc
      rw [Norm.pieces_eq, hs, hp] at hc
      simp only [Bool.false_eq_true, if_false, List.mem_singleton] at hc
      rw [hc]; exact h
    | some y => exact (split_right soft hp).2
theorem down_right (soft : Bool) {l : List Int} (h : rightsZ l = true) : rightsZ (Norm.down soft l) = true := by
  unfold rightsZ at h ⊢
  rw [List.all_eq_true] at h ⊢
  intro c hc
  obtain ⟨r, hr, hcr⟩ := Norm.down_mem soft l c hc
  exact pieces_right soft (h r hr) c hcr
theorem make2_right {a b x : Int} (h : Norm.make2 a b = some x) : rightZ x = true := by
  unfold Norm.make2 at h
  split at h
  · obtain rfl := Option.some.inj h
    exact (rightZ_iff _).2 (by omega)
  · split at h
    · rename_i h2
      obtain rfl := Option.some.inj h
      have := (Norm.syl_iff a).1 h2.1
      exact (rightZ_iff _).2 (by omega)
    · obtain ⟨y, hy, -⟩ := pair_split h
      exact (split_right false hy).1
theorem step_right {R : List Int} {c : Int} (hR : ∀ y ∈ R, rightZ y = true) (hc : rightZ c = true) : ∀ y ∈ Norm.step R c, rightZ y = true := by
  have plain : ∀ y ∈ c :: R, rightZ y = true := fun y hy => by
    rcases List.mem_cons.1 hy with rfl | hy
    · exact hc
    · exact hR y hy
  unfold Norm.step
  split
  · exact plain
  · rename_i s A hA
    split
    · split
      · rename_i x hx
        intro y hy
        rw [List.mem_append, List.mem_cons] at hy
        rcases hy with hy | rfl | hy
        · exact hR y ((List.takeWhile_sublist _).subset hy)
        · exact make2_right hx
        · exact hR y ((List.dropWhile_sublist (fun y => decide (0 < clsOf y))).subset (by rw [hA]; simp [hy]))
      · exact plain
    · exact plain
theorem join_right {l : List Int} (h : rightsZ l = true) : rightsZ (Norm.join l) = true := by
  have key : ∀ (l R : List Int), (∀ y ∈ l, rightZ y = true) → (∀ y ∈ R, rightZ y = true) → ∀ y ∈ l.foldl Norm.step R, rightZ y = true := by
    intro l
    induction l with
    | nil => exact fun R _ hR => hR
    | cons c l ih => exact fun R hl hR => ih (Norm.step R c) (fun y hy => hl y (by simp [hy])) (step_right hR (hl c (by simp)))
  unfold rightsZ at h ⊢
  rw [List.all_eq_true] at h ⊢
  intro c hc
  unfold Norm.join at hc
  rw [List.mem_reverse] at hc
  exact key l [] h (fun y hy => by cases hy) c hc
/-- The characters of a form. -/
def formOf (soft join : Bool) (l : List Int) : List Int := if join then Norm.join (Norm.down soft l) else Norm.down soft l
theorem form_right (soft join : Bool) {l : List Int} (h : rightsZ l = true) : rightsZ (formOf soft join l) = true := by
  unfold formOf
  split
  · exact join_right (down_right soft h)
  · exact down_right soft h
theorem sim_len {x y : List Int} (h : Norm.Sim x y) : x.length = y.length := by
  induction h with
  | refl l => rfl
  | swap p a b q _ _ _ => simp
  | trans _ _ ih1 ih2 => exact ih1.trans ih2
theorem down_len (soft : Bool) (l : List Int) : (Norm.down soft l).length ≤ 20 * l.length := by
  have := sim_len (Norm.sim_order (Norm.split soft l))
  have := split_len soft l
  show (Norm.order (Norm.split soft l)).length ≤ _
  omega
theorem join_len' (l : List Int) : (Norm.join l).length ≤ l.length := by
  have := Norm.join_len l l.length (Nat.le_refl _)
  rwa [List.take_length] at this
theorem strB_right {l : List Int} (h : rightsZ l = true) : strB l = encZ l := by unfold strB; rw [h, if_pos rfl]
set_option maxHeartbeats 2000000 in
set_option maxRecDepth 100000 in
theorem form3_yes (s : ByteArray) (soft join : Bool) (w : World) (hs : s.size ≤ 100000) {m : List Nat} (hm : m.length ≤ 420) (hrd : rdOf s.data.toList = (m, -1)) :
    Calls Tryz.prog 61 #[.string s, .bool soft, .bool join] w (StrAt (encZ (formOf soft join (ints m))) true w) := by
  obtain ⟨hm1, -, -⟩ := rd_cases hrd
  obtain ⟨hm3, -⟩ := ints_right m hm1
  have hml : (ints m).length ≤ 420 := by simp only [ints, List.length_map]; omega
  have h1 := fun W => refRunes_at s W (by omega) hrd
  have h2 := fun v W (h : Runes v (ints m) W) => split3_any v (ints m) soft W h (by omega)
  have hsl := split_len soft (ints m)
  have h3 := fun v W (h : Runes v (Norm.split soft (ints m)) W) => order3_any v _ W h (by omega)
  have hdl := down_len soft (ints m)
  have h4 := fun v W (h : Runes v (Norm.down soft (ints m)) W) => join3_any v _ W h (by omega)
  have hfr := form_right soft join hm3
  have hfl : (formOf soft join (ints m)).length ≤ 9600 := by
    unfold formOf
    split
    · have := join_len' (Norm.down soft (ints m)); omega
    · omega
  have h5 := fun v W (h : Runes v (formOf soft join (ints m)) W) => refString_at v _ W h (by omega) hfr (strB_right hfr)
  have H1 := Lib.hid h1
  have H2 := Lib.hid h2
  have H3 := Lib.hid h3
  have H4 := Lib.hid h4
  have H5 := Lib.hid h5
  clear h1 h2 h3 h4 h5 hm1 hm3 hml hsl hdl hfr hfl hrd hm
  cases join
  all_goals
    go_enter Tryz.func61, Tryz.ntmps61
    go_wp2_with fail
    refine (H1.out _).mono ?_
    rintro e w1 ⟨A1, c1, rfl, hr1, hb1⟩
    have R1 := Lib.hid hr1
    have B1 := Lib.hid hb1
    clear hr1 hb1
    go_wp2_with fail
    refine (H2.out _ _ R1.out).mono ?_
    rintro e w2 ⟨v2, rfl, ho2, hb2⟩
    have R2 := Lib.hid ho2.runes
    have B2 := Lib.hid (below_then B1.out hb2)
    clear ho2 hb2 R1 B1
    go_wp2_with fail
    refine (H3.out _ _ R2.out).mono ?_
    rintro e w3 ⟨v3, rfl, ho3, hb3⟩
    have R3 := Lib.hid ho3.runes
    have B3 := Lib.hid (below_then B2.out hb3)
    clear ho3 hb3 R2 B2
    go_wp2_with fail
  · refine (H5.out _ _ R3.out).mono ?_
    rintro e w4 ⟨rfl, hb4⟩
    have B4 := Lib.hid (below_then B3.out hb4)
    clear hb4 B3
    go_wp2
    go_ret2
    exact ⟨rfl, B4.out⟩
  · refine (H4.out _ _ R3.out).mono ?_
    rintro e w4 ⟨v4, rfl, ho4, hb4⟩
    have R4 := Lib.hid ho4.runes
    have B4 := Lib.hid (below_then B3.out hb4)
    clear ho4 hb4 R3 B3
    go_wp2_with fail
    refine (H5.out _ _ R4.out).mono ?_
    rintro e w5 ⟨rfl, hb5⟩
    have B5 := Lib.hid (below_then B4.out hb5)
    clear hb5 B4
    go_wp2
    go_ret2
    exact ⟨rfl, B5.out⟩
set_option maxHeartbeats 2000000 in
set_option maxRecDepth 100000 in
theorem form3_no (s : ByteArray) (soft join : Bool) (w : World) (hs : s.size ≤ 100000) {m : List Nat} {k : Nat} (hrd : rdOf s.data.toList = (m, (k : Int))) :
    Calls Tryz.prog 61 #[.string s, .bool soft, .bool join] w (StrAt [] false w) := by
  have h1 := fun W => refRunes_at s W (by omega) hrd
  have H1 := Lib.hid h1
  have hk0 : (0 : Int) ≤ (k : Int) := by omega
  clear h1 hrd
  go_enter Tryz.func61, Tryz.ntmps61
  go_wp2_with fail
  refine (H1.out _).mono ?_
  rintro e w1 ⟨A1, c1, rfl, -, hb1⟩
  have B1 := Lib.hid hb1
  clear hb1
  go_wp2
  go_ret2
  exact ⟨rfl, B1.out⟩
end Go.Proofs.YtmbammhkkcnoaaaGreat
