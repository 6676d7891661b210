/-
  Proved here: the program's Has, Side, End and Rule of layer 6. Conditions: the slice can be read, and holds at most 1000 numbers.
-/
import Derived.Test.YtcngaekdjnompaaBidi
import Derived.Test.YtcngaekdjnompaaBidiSmall
import Derived.Deep.RegionWith
import Derived.StillTailTactics
import Derived.Deep.DeepCutAuto
namespace Go.Proofs.Ytcngaekdjnompaa
open Go.RowKit
/-- A boxed table stands there still behind a call. -/
theorem boxT {w w1 : World} {b0 b1 b2 b3 : Nat} {T : TypeId} (hb1 : Below (w.alloc (.cells #[.slice (some ⟨b0, 0, none⟩) 74 74, .slice (some ⟨b1, 0, none⟩) 10 10, .slice (some ⟨b2, 0, none⟩) 11 11, .slice (some ⟨b3, 0, none⟩) 42 42] T)).heap.size (w.alloc (.cells #[.slice (some ⟨b0, 0, none⟩) 74 74, .slice (some ⟨b1, 0, none⟩) 10 10, .slice (some ⟨b2, 0, none⟩) 11 11, .slice (some ⟨b3, 0, none⟩) 42 42] T)) w1) :
    Below w.heap.size w w1 ∧ Held w.heap.size b0 b1 b2 b3 w1 :=
  ⟨((Below.refl _ w).alloc (Nat.le_refl _) _).trans (hb1.mono (by simp)), (held_new w b0 b1 b2 b3 T).below hb1⟩
set_option maxHeartbeats 4000000 in
set_option maxRecDepth 100000 in
theorem bidiHas_any (t v : Value) (l : List Int) (w : World) (hT : Table w t) (hl : Runes v l w) (hn : l.length ≤ 1000) :
    Calls Try.prog 10 #[t, v] w fun e w' => e = .returned (.bool (Bidi.has l)) ∧ Below w.heap.size w w' := by
  have K := Lib.hid (fun W (h : Below w.heap.size w W) => kindsOf_any t v l W (hT.below h) (hl.keep h) (by omega))
  obtain ⟨b0, b1, b2, b3, rfl, -, -, -, -⟩ := hT
  obtain ⟨A, c, rfl, -, -⟩ := hl.form
  rw [Bidi.has_any]
  clear hl
  go_enter Try.func10, Try.ntmps10
  go_wp2_with fail
  refine (K.out _ ((Below.refl _ w).alloc (Nat.le_refl _) _)).mono ?_
  rintro e w1 ⟨rfl, hb1⟩
  have B1 := Lib.hid (boxT hb1).1
  clear hb1 K
  go_wp2_with fail
  refine (turned_any _ _ _ _ _ _ _ _ w1).mono ?_
  rintro e w2 ⟨rfl, hb2⟩
  have B2 := Lib.hid (below_then B1.out hb2)
  clear hb2
  go_wp2
  go_ret
  exact ⟨rfl, B2.out⟩
set_option maxHeartbeats 4000000 in
set_option maxRecDepth 100000 in
theorem bidiSide_any (t v : Value) (l : List Int) (w : World) (hT : Table w t) (hl : Runes v l w) (hn : l.length ≤ 1000) :
    Calls Try.prog 12 #[t, v] w fun e w' => e = .returned (.int .i64 (Bidi.side l)) ∧ Below w.heap.size w w' := by
  have HT := Lib.hid hT
  obtain ⟨b0, b1, b2, b3, rfl, -, -, -, -⟩ := hT
  obtain ⟨A, c, rfl, -, hcell⟩ := hl.form
  have HC := Lib.hid hcell
  clear hl hcell
  cases l with
  | nil =>
    go_enter Try.func12, Try.ntmps12
    go_wp2
    go_ret
    exact ⟨rfl, (Below.refl _ w).alloc (Nat.le_refl _) _⟩
  | cons x tl =>
    obtain ⟨ad, rfl, hb, hx⟩ := HC.out 0 (by simp)
    rw [show ad.add 0 = ad by unfold Addr.add; rw [if_pos rfl]] at hx
    simp only [List.getElem!_cons_zero] at hx
    obtain ⟨n, hn0⟩ : ∃ n, n = (x :: tl).length := ⟨_, rfl⟩
    have hnz : ((n : Int) == 0) = false := by rw [beq_eq_false_iff_ne]; simp at hn0; omega
    have hn1 : (0 : Int) < (n : Int) := by simp at hn0; omega
    have hn2 : 0 < n := by omega
    show Calls Try.prog 12 #[_, .slice (some ad) (x :: tl).length c] w fun e w' => e = .returned (.int .i64 (Bidi.sideB (bidiOf x))) ∧ Below w.heap.size w w'
    rw [← hn0]
    clear hn0 hn
    have h0 := (Below.refl w.heap.size w).alloc (Nat.le_refl _) (.cells #[.slice (some ⟨b0, 0, none⟩) 74 74, .slice (some ⟨b1, 0, none⟩) 10 10, .slice (some ⟨b2, 0, none⟩) 11 11, .slice (some ⟨b3, 0, none⟩) 42 42] 29)
    have hx' := (h0.cell hb).trans hx
    have hbz : ad.block < (w.alloc (.cells #[.slice (some ⟨b0, 0, none⟩) 74 74, .slice (some ⟨b1, 0, none⟩) 10 10, .slice (some ⟨b2, 0, none⟩) 11 11, .slice (some ⟨b3, 0, none⟩) 42 42] 29)).heap.size := Nat.lt_of_lt_of_le hb h0.size
    have K := Lib.hid (fun W (h : Below w.heap.size w W) => bidi_any _ x W (HT.out.below h))
    have H0 := Lib.hid h0
    generalize bidiOf x = b at K ⊢
    clear h0 hx hb HC
    have cs : b = 3 ∨ b = 1 ∨ b = 2 ∨ (b ≠ 3 ∧ b ≠ 1 ∧ b ≠ 2) := by omega
    rcases cs with rfl | rfl | rfl | ⟨h1, h2, h3⟩
    case inr.inr.inr =>
      have e1 : (b == 3) = false := by simpa using h1
      have e2 : (b == 1) = false := by simpa using h2
      have e3 : (b == 2) = false := by simpa using h3
      have R : Bidi.sideB b = 0 := by unfold Bidi.sideB; rw [if_neg h1, if_neg (by omega)]
      rw [R]
      clear R h1 h2 h3
      go_enter Try.func12, Try.ntmps12
      go_wp2
      go_region_held3 (fun w' => w'.cell? ad = some (.int .i32 x) ∧ w'.cell? ⟨w.heap.size, 0, none⟩ = some (.slice (some ⟨b0, 0, none⟩) 74 74) ∧ w'.cell? ⟨w.heap.size, 1, none⟩ = some (.slice (some ⟨b1, 0, none⟩) 10 10) ∧ w'.cell? ⟨w.heap.size, 2, none⟩ = some (.slice (some ⟨b2, 0, none⟩) 11 11) ∧ w'.cell? ⟨w.heap.size, 3, none⟩ = some (.slice (some ⟨b3, 0, none⟩) 42 42)) (go_keep) ((go_at_call 18; (with_reducible refine (K.out _ H0.out.drew).mono ?_); rintro e w5 ⟨rfl, hb5⟩; have hB5 := below_of_drew hb5; have hx5 := (hB5.cell hbz).trans hx'; have BX := Lib.hid (boxT hB5); obtain ⟨hS5, d0, d1, d2, d3⟩ := BX.out.2; clear hb5 hB5))
      go_wp2
      go_ret
      exact ⟨rfl, BX.out.1⟩
    all_goals
      go_enter Try.func12, Try.ntmps12
      go_wp2
      go_region_held3 (fun w' => w'.cell? ad = some (.int .i32 x) ∧ w'.cell? ⟨w.heap.size, 0, none⟩ = some (.slice (some ⟨b0, 0, none⟩) 74 74) ∧ w'.cell? ⟨w.heap.size, 1, none⟩ = some (.slice (some ⟨b1, 0, none⟩) 10 10) ∧ w'.cell? ⟨w.heap.size, 2, none⟩ = some (.slice (some ⟨b2, 0, none⟩) 11 11) ∧ w'.cell? ⟨w.heap.size, 3, none⟩ = some (.slice (some ⟨b3, 0, none⟩) 42 42)) (go_keep) ((go_at_call 18; (with_reducible refine (K.out _ H0.out.drew).mono ?_); rintro e w5 ⟨rfl, hb5⟩; have hB5 := below_of_drew hb5; have hx5 := (hB5.cell hbz).trans hx'; have BX := Lib.hid (boxT hB5); obtain ⟨hS5, d0, d1, d2, d3⟩ := BX.out.2; clear hb5 hB5))
      go_wp2
      go_ret
      exact ⟨rfl, BX.out.1⟩
set_option maxHeartbeats 4000000 in
set_option maxRecDepth 100000 in
theorem bidiEnd_any (t v : Value) (l : List Int) (w : World) (hT : Table w t) (hl : Runes v l w) (hn : l.length ≤ 1000) :
    Calls Try.prog 14 #[t, v] w fun e w' => e = .returned (.int .i64 (Bidi.stop l)) ∧ Below w.heap.size w w' := by
  have HT := Lib.hid hT
  obtain ⟨b0, b1, b2, b3, rfl, -, -, -, -⟩ := hT
  obtain ⟨A, c, rfl, -, hcell⟩ := hl.form
  have HC := Lib.hid hcell
  clear hl hcell
  have h0 := (Below.refl w.heap.size w).alloc (Nat.le_refl _) (.cells #[.slice (some ⟨b0, 0, none⟩) 74 74, .slice (some ⟨b1, 0, none⟩) 10 10, .slice (some ⟨b2, 0, none⟩) 11 11, .slice (some ⟨b3, 0, none⟩) 42 42] 29)
  have hh0 := held_new w b0 b1 b2 b3 29
  have H0 := Lib.hid h0
  have HH0 := Lib.hid hh0
  clear h0 hh0
  go_enter Try.func14, Try.ntmps14
  go_wp2
  go_loopg [5, 6] (l.length + 1) (fun gk i _ wr => ∃ k : Nat, k ≤ l.length ∧ i = .int .i64 ((k : Int) - 1) ∧ k < gk ∧ Hid (Bidi.stop l = Bidi.stop (l.take k) ∧ Below w.heap.size w wr ∧ Held w.heap.size b0 b1 b2 b3 wr))
  case atStart => exact ⟨l.length, Nat.le_refl _, rfl, by omega, ⟨by rw [List.take_length], H0.out, HH0.out⟩⟩
  case round =>
    obtain ⟨k, hk, rfl, hg, I⟩ := hrel
    cases k with
    | zero =>
      have R := Lib.hid (show Bidi.stop l = 0 by rw [I.out.1]; rfl)
      go_wp2
      go_ret
      exact ⟨by rw [R.out]; rfl, I.out.2.1⟩
    | succ k =>
      rw [show ((k + 1 : Nat) : Int) - 1 = (k : Int) by omega]
      have hlt : k < l.length := by omega
      obtain ⟨ad, rfl, hb, hx⟩ := HC.out k hlt
      have hx' := (I.out.2.1.cell (by rw [add_block]; exact hb)).trans hx
      have hbz : ad.block < wr.heap.size := Nat.lt_of_lt_of_le hb I.out.2.1.size
      obtain ⟨x, hxe⟩ : ∃ x, x = l[k]! := ⟨_, rfl⟩
      rw [← hxe] at hx'
      have hh : Bidi.stop l = if bidiOf x = 6 then Bidi.stop (l.take k) else bidiOf x := by rw [I.out.1, Bidi.take_at l k hlt, ← hxe, Bidi.stop_snoc]
      obtain ⟨b, hbe⟩ : ∃ b, b = bidiOf x := ⟨_, rfl⟩
      have K := Lib.hid (bidi_any _ x wr.drew (HT.out.below I.out.2.1.drew))
      rw [← hbe] at K hh
      have HH := Lib.hid hh
      obtain ⟨hS, c0, c1, c2, c3⟩ := I.out.2.2
      clear hx hb hxe hh hbe
      have hkz : (k : Int) < (l.length : Int) := by omega
      have hk0 : (0 : Int) ≤ (k : Int) := by omega
      by_cases h6 : b = 6
      · have R := Lib.hid (show Bidi.stop l = Bidi.stop (l.take k) by rw [HH.out, if_pos h6])
        subst h6
        go_wp2
        go_region_held3 (fun w' => w'.cell? (ad.add k) = some (.int .i32 x) ∧ w'.cell? ⟨w.heap.size, 0, none⟩ = some (.slice (some ⟨b0, 0, none⟩) 74 74) ∧ w'.cell? ⟨w.heap.size, 1, none⟩ = some (.slice (some ⟨b1, 0, none⟩) 10 10) ∧ w'.cell? ⟨w.heap.size, 2, none⟩ = some (.slice (some ⟨b2, 0, none⟩) 11 11) ∧ w'.cell? ⟨w.heap.size, 3, none⟩ = some (.slice (some ⟨b3, 0, none⟩) 42 42)) (go_keep) ((go_at_call 18; (with_reducible refine K.out.mono ?_); rintro e w5 ⟨rfl, hb5⟩; have hB5 := below_of_drew hb5; have hx5 := (hB5.cell (by rw [add_block]; exact hbz)).trans hx'; have B5 := Lib.hid (I.out.2.1.trans (hB5.mono I.out.2.1.size)); have I5 := Lib.hid (I.out.2.2.below hB5); obtain ⟨hS5, d0, d1, d2, d3⟩ := I5.out; clear hb5 hB5))
        go_wp2
        go_roundg (k + 1)
        case measure => omega
        case rel => exact ⟨k, by omega, rfl, by omega, ⟨R.out, B5.out, I5.out⟩⟩
      · have R := Lib.hid (show Bidi.stop l = b by rw [HH.out, if_neg h6])
        have e1 : (b == 6) = false := by simpa using h6
        go_wp2
        go_region_held3 (fun w' => w'.cell? (ad.add k) = some (.int .i32 x) ∧ w'.cell? ⟨w.heap.size, 0, none⟩ = some (.slice (some ⟨b0, 0, none⟩) 74 74) ∧ w'.cell? ⟨w.heap.size, 1, none⟩ = some (.slice (some ⟨b1, 0, none⟩) 10 10) ∧ w'.cell? ⟨w.heap.size, 2, none⟩ = some (.slice (some ⟨b2, 0, none⟩) 11 11) ∧ w'.cell? ⟨w.heap.size, 3, none⟩ = some (.slice (some ⟨b3, 0, none⟩) 42 42)) (go_keep) ((go_at_call 18; (with_reducible refine K.out.mono ?_); rintro e w5 ⟨rfl, hb5⟩; have hB5 := below_of_drew hb5; have hx5 := (hB5.cell (by rw [add_block]; exact hbz)).trans hx'; have B5 := Lib.hid (I.out.2.1.trans (hB5.mono I.out.2.1.size)); have I5 := Lib.hid (I.out.2.2.below hB5); obtain ⟨hS5, d0, d1, d2, d3⟩ := I5.out; clear hb5 hB5))
        go_wp2
        go_ret
        exact ⟨by rw [R.out]; rfl, B5.out⟩
/-- What stands behind the region in which Rule gathers the directions, and the end. -/
def RuleCut (w0 : World) (b0 b1 b2 b3 : Nat) (a0 a1 a2 a3 a4 a5 a6 a7 : Bool) (en : Int) (s5 s6 : Value) (wx : World) : Prop :=
  ∃ g : Nat, s5 = .pointer (some ⟨g, 0, none⟩) ∧ s6 = .int .i64 en ∧ Hid (Below w0.heap.size w0 wx) ∧ Hid (Held w0.heap.size b0 b1 b2 b3 wx) ∧ Hid (KAt g a0 a1 a2 a3 a4 a5 a6 a7 wx)
theorem kat_last (w : World) (a0 a1 a2 a3 a4 a5 a6 a7 : Bool) : KAt w.heap.size a0 a1 a2 a3 a4 a5 a6 a7 (w.alloc (.cells #[.bool a0, .bool a1, .bool a2, .bool a3, .bool a4, .bool a5, .bool a6, .bool a7] 44)) := heap_alloc_new w _
theorem rule_last {w0 W w2 : World} {b0 b1 b2 b3 : Nat} {a0 a1 a2 a3 a4 a5 a6 a7 : Bool} {en : Int} (h0 : Below w0.heap.size w0 W) (hH : Held w0.heap.size b0 b1 b2 b3 W) (hb : Below W.heap.size W w2) :
    RuleCut w0 b0 b1 b2 b3 a0 a1 a2 a3 a4 a5 a6 a7 en (.pointer (some ⟨w2.heap.size, 0, none⟩)) (.int .i64 en) (w2.alloc (.cells #[.bool a0, .bool a1, .bool a2, .bool a3, .bool a4, .bool a5, .bool a6, .bool a7] 44)) :=
  have h2 := h0.trans (hb.mono h0.size)
  ⟨_, rfl, rfl, h2.alloc h2.size _, hH.below (hb.alloc hb.size _), kat_last _ a0 a1 a2 a3 a4 a5 a6 a7⟩
theorem kat_fill {S : Nat} {w : World} (h : KAt S false false false false false false false false w) (a0 a1 a2 a3 a4 a5 a6 a7 : Bool) : KAt S a0 a1 a2 a3 a4 a5 a6 a7 ((((((((w.setCell ⟨S, 0, none⟩ (.bool a0)).setCell ⟨S, 1, none⟩ (.bool a1)).setCell ⟨S, 2, none⟩ (.bool a2)).setCell ⟨S, 3, none⟩ (.bool a3)).setCell ⟨S, 4, none⟩ (.bool a4)).setCell ⟨S, 5, none⟩ (.bool a5)).setCell ⟨S, 6, none⟩ (.bool a6)).setCell ⟨S, 7, none⟩ (.bool a7)) := by
  unfold KAt at h ⊢
  simp [World.setCell, Array.getElem?_modify, h]
theorem rule_set {w0 W w2 : World} {S b0 b1 b2 b3 : Nat} {a0 a1 a2 a3 a4 a5 a6 a7 : Bool} {en : Int} (h0 : Below w0.heap.size w0 W) (hH : Held w0.heap.size b0 b1 b2 b3 W) (hb : Below W.heap.size W w2) (hS : W.heap.size ≤ S) (hK : KAt S false false false false false false false false w2) :
    RuleCut w0 b0 b1 b2 b3 a0 a1 a2 a3 a4 a5 a6 a7 en (.pointer (some ⟨S, 0, none⟩)) (.int .i64 en) ((((((((w2.setCell ⟨S, 0, none⟩ (.bool a0)).setCell ⟨S, 1, none⟩ (.bool a1)).setCell ⟨S, 2, none⟩ (.bool a2)).setCell ⟨S, 3, none⟩ (.bool a3)).setCell ⟨S, 4, none⟩ (.bool a4)).setCell ⟨S, 5, none⟩ (.bool a5)).setCell ⟨S, 6, none⟩ (.bool a6)).setCell ⟨S, 7, none⟩ (.bool a7)) :=
  have h2 := ((((((((hb.setCell (p := ⟨S, 0, none⟩) hS _).setCell (p := ⟨S, 1, none⟩) hS _).setCell (p := ⟨S, 2, none⟩) hS _).setCell (p := ⟨S, 3, none⟩) hS _).setCell (p := ⟨S, 4, none⟩) hS _).setCell (p := ⟨S, 5, none⟩) hS _).setCell (p := ⟨S, 6, none⟩) hS _).setCell (p := ⟨S, 7, none⟩) hS _)
  ⟨_, rfl, rfl, h0.trans (h2.mono h0.size), hH.below h2, kat_fill hK a0 a1 a2 a3 a4 a5 a6 a7⟩
theorem below_alloc {w w' : World} {o : Obj} (h : Below (w.alloc o).heap.size (w.alloc o) w') : Below w.heap.size w w' := (below_one w o).trans (h.mono (by simp))
theorem below_alloc_drew {w w' : World} {o : Obj} (h : Below (w.alloc o).drew.heap.size (w.alloc o).drew w') : Below w.heap.size w w' := below_alloc (below_of_drew h)
theorem bcell {W w1 : World} (hb : Below W.heap.size W w1) : (∀ b o, b < W.heap.size → w1.cell? ⟨b, o, none⟩ = W.cell? ⟨b, o, none⟩) ∧ (∀ b o, b < W.heap.size → w1.frozen? ⟨b, o, none⟩ = W.frozen? ⟨b, o, none⟩) :=
  ⟨fun b o h => hb.cell (p := ⟨b, o, none⟩) h, fun b o h => hb.frozen (p := ⟨b, o, none⟩) h⟩
theorem kat_second (w : World) (a : Obj) {w' : World} (h : Below ((w.alloc a).alloc (.cells #[.bool false, .bool false, .bool false, .bool false, .bool false, .bool false, .bool false, .bool false] 44)).heap.size ((w.alloc a).alloc (.cells #[.bool false, .bool false, .bool false, .bool false, .bool false, .bool false, .bool false, .bool false] 44)) w') : KAt (w.heap.size + 1) false false false false false false false false w' :=
  (kat_new (w.alloc a) _ (by simp)).keep h
set_option maxHeartbeats 8000000 in
set_option maxRecDepth 100000 in
theorem bidiRule_any (t v : Value) (l : List Int) (w : World) (hT : Table w t) (hl : Runes v l w) (hn : l.length ≤ 1000) :
    Calls Try.prog 16 #[t, v] w fun e w' => e = .returned (.bool (Bidi.rule l)) ∧ Below w.heap.size w w' := by
  have KK := Lib.hid (fun W (h : Below w.heap.size w W) => kindsOf_any t v l W (hT.below h) (hl.keep h) (by omega))
  have KE := Lib.hid (fun W (h : Below w.heap.size w W) => bidiEnd_any t v l W (hT.below h) (hl.keep h) hn)
  have KS := Lib.hid (fun W (h : Below w.heap.size w W) => bidiSide_any t v l W (hT.below h) (hl.keep h) hn)
  obtain ⟨b0, b1, b2, b3, rfl, -, -, -, -⟩ := hT
  obtain ⟨A, c, rfl, -, -⟩ := hl.form
  clear hl
  have h0 := (Below.refl w.heap.size w).alloc (Nat.le_refl _) (.cells #[.slice (some ⟨b0, 0, none⟩) 74 74, .slice (some ⟨b1, 0, none⟩) 10 10, .slice (some ⟨b2, 0, none⟩) 11 11, .slice (some ⟨b3, 0, none⟩) 42 42] 29)
  have H0 := Lib.hid h0
  clear h0
  by_cases hne : l = []
  · subst hne
    go_enter Try.func16, Try.ntmps16
    go_wp2
    go_ret
    exact ⟨rfl, H0.out⟩
  have hnl : 0 < l.length := by rcases Nat.eq_zero_or_pos l.length with h | h; exact absurd (List.eq_nil_of_length_eq_zero h) hne; exact h
  have hnz : ((l.length : Int) == 0) = false := by rw [beq_eq_false_iff_ne]; omega
  rw [Bidi.rule_ne hne]
  unfold Bidi.ruleOf
  rw [Bidi.has_any]
  have cs := Bidi.side_cases l
  obtain ⟨a0, ha0⟩ : ∃ a, Bidi.any 0 l = a := ⟨_, rfl⟩
  obtain ⟨a1, ha1⟩ : ∃ a, Bidi.any 1 l = a := ⟨_, rfl⟩
  obtain ⟨a2, ha2⟩ : ∃ a, Bidi.any 2 l = a := ⟨_, rfl⟩
  obtain ⟨a3, ha3⟩ : ∃ a, Bidi.any 3 l = a := ⟨_, rfl⟩
  obtain ⟨a4, ha4⟩ : ∃ a, Bidi.any 4 l = a := ⟨_, rfl⟩
  obtain ⟨a5, ha5⟩ : ∃ a, Bidi.any 5 l = a := ⟨_, rfl⟩
  obtain ⟨a6, ha6⟩ : ∃ a, Bidi.any 6 l = a := ⟨_, rfl⟩
  obtain ⟨a7, ha7⟩ : ∃ a, Bidi.any 7 l = a := ⟨_, rfl⟩
  obtain ⟨en, hen⟩ : ∃ en, Bidi.stop l = en := ⟨_, rfl⟩
  obtain ⟨sd, hsd⟩ : ∃ sd, Bidi.side l = sd := ⟨_, rfl⟩
  rw [ha0, ha1, ha2, ha3, ha4, ha5, ha6, ha7] at KK
  rw [hen] at KE
  rw [hsd] at KS cs
  rw [ha1, ha2, ha3, ha4, ha5, hen, hsd]
  have KR := Lib.hid (fun W => endsRight_any en W)
  have KL := Lib.hid (fun W => endsLeft_any en W)
  obtain ⟨gr, hgr⟩ : ∃ g, Bidi.goodR en = g := ⟨_, rfl⟩
  obtain ⟨gl, hgl⟩ : ∃ g, Bidi.goodL en = g := ⟨_, rfl⟩
  rw [hgr] at KR ⊢
  rw [hgl] at KL ⊢
  obtain ⟨r, hr⟩ : ∃ r, r = (if sd = 2 then !a1 && gr && !(a4 && a5) else if sd = 1 then !(a2 || a3 || a5) && gl else false) := ⟨_, rfl⟩
  rw [← hr]
  have HR := Lib.hid hr
  have CS := Lib.hid cs
  clear hr cs hgr hgl ha0 ha1 ha2 ha3 ha4 ha5 ha6 ha7 hen hsd
  have HH0 := Lib.hid (held_new w b0 b1 b2 b3 29)
  obtain ⟨hS, c0, c1, c2, c3⟩ := HH0.out
  go_enter Try.func16, Try.ntmps16
  go_upto_region 3 with (fail)
  go_cut [5, 6] (fun s5 s6 wx => RuleCut w b0 b1 b2 b3 a0 a1 a2 a3 a4 a5 a6 a7 en s5 s6 wx)
  case first =>
    (go_region_with
      (first
        | (go_at_call 23; refine (KK.out _ (by first | exact H0.out.drew | exact (H0.out.alloc (by simp) _).drew | exact H0.out.drew.alloc (by simp) _)).mono ?_; rintro e w' ⟨rfl, L⟩; obtain ⟨bc, bf⟩ := bcell L; have hz := L.size; have hz0 : w.heap.size < w'.heap.size := (by first | omega | (simp at hz; omega)); (try have hz1 : w.heap.size + 1 < w'.heap.size := (by first | omega | (simp at hz; omega))); clear hz; have B1 := Lib.hid (show Below (w.alloc (.cells #[.slice (some ⟨b0, 0, none⟩) 74 74, .slice (some ⟨b1, 0, none⟩) 10 10, .slice (some ⟨b2, 0, none⟩) 11 11, .slice (some ⟨b3, 0, none⟩) 42 42] 29)).heap.size (w.alloc (.cells #[.slice (some ⟨b0, 0, none⟩) 74 74, .slice (some ⟨b1, 0, none⟩) 10 10, .slice (some ⟨b2, 0, none⟩) 11 11, .slice (some ⟨b3, 0, none⟩) 42 42] 29)) w' from (by first | exact below_of_drew L | exact below_alloc_drew L)); obtain ⟨hS1, x0, x1, x2, x3⟩ := HH0.out.below B1.out)
        | (go_at_call 14; refine (KE.out _ (by have h := H0.out.trans (B1.out.mono H0.out.size); first | exact h | exact h.alloc h.size _)).mono ?_; rintro e w'' ⟨rfl, L'⟩; obtain ⟨bc', bf'⟩ := bcell L'; have hz := L'.size; have hz2 : w.heap.size < w''.heap.size := (by first | omega | (simp at hz; omega)); (try have hz3 : w.heap.size + 1 < w''.heap.size := (by first | omega | (simp at hz; omega))); (try have hz4 : w'.heap.size < w''.heap.size := (by first | omega | (simp at hz; omega))); clear hz; have B2 := Lib.hid (show Below w'.heap.size w' w'' from (by first | exact L' | exact below_alloc L')))))
    all_goals go_wp2_with fail
    all_goals go_meet
    all_goals
      have base := B1.out.trans (B2.out.mono B1.out.size)
      first
        | (with_reducible exact rule_last (W := (w.alloc (.cells #[.slice (some ⟨b0, 0, none⟩) 74 74, .slice (some ⟨b1, 0, none⟩) 10 10, .slice (some ⟨b2, 0, none⟩) 11 11, .slice (some ⟨b3, 0, none⟩) 42 42] 29))) H0.out HH0.out base)
        | ((with_reducible refine rule_set (S := w'.heap.size) (W := (w.alloc (.cells #[.slice (some ⟨b0, 0, none⟩) 74 74, .slice (some ⟨b1, 0, none⟩) 10 10, .slice (some ⟨b2, 0, none⟩) 11 11, .slice (some ⟨b3, 0, none⟩) 42 42] 29))) H0.out HH0.out base ?_ ?_)
           · exact B1.out.size
           · exact (kat_new w' _ rfl).keep L')
        | ((with_reducible refine rule_set (S := w.heap.size + 1) (W := (w.alloc (.cells #[.slice (some ⟨b0, 0, none⟩) 74 74, .slice (some ⟨b1, 0, none⟩) 10 10, .slice (some ⟨b2, 0, none⟩) 11 11, .slice (some ⟨b3, 0, none⟩) 42 42] 29))) H0.out HH0.out base ?_ ?_)
           · simp
           · exact (kat_second w _ (below_of_drew L)).keep B2.out)
  case rest =>
    obtain ⟨g, rfl, rfl, BX, HX, KX⟩ := hcut
    obtain ⟨hSx, d0, d1, d2, d3⟩ := HX.out
    clear H0 HH0 hS c0 c1 c2 c3 KK KE
    go_wp2_with fail
    refine (KS.out _ BX.out).mono ?_
    rintro e w3 ⟨rfl, hb3⟩
    have B3 := Lib.hid (below_then BX.out hb3)
    have K3 := Lib.hid (KX.out.keep hb3)
    obtain ⟨y0, y1, y2, y3, y4, y5, y6, y7⟩ := K3.out.cells
    clear hb3 KX HX BX
    have cs := CS.out
    clear CS
    rcases cs with rfl | rfl | rfl
    · go_wp2
      go_ret
      exact ⟨by rw [HR.out]; simp, B3.out⟩
    · go_wp2_with fail
      refine (turned_any a0 a1 a2 a3 a4 a5 a6 a7 w3).mono ?_
      rintro e w4 ⟨rfl, hb4⟩
      have B4 := Lib.hid (below_then B3.out hb4)
      clear hb4
      obtain ⟨tu, htu⟩ : ∃ tu, (a2 || a3 || a5) = tu := ⟨_, rfl⟩
      rw [htu]
      have HTU := Lib.hid htu
      clear htu
      cases tu
      · go_wp2_with fail
        refine (KL.out w4).mono ?_
        rintro e w5 ⟨rfl, hb5⟩
        have B5 := Lib.hid (below_then B4.out hb5)
        clear hb5
        go_wp2
        go_ret
        exact ⟨by rw [HR.out, HTU.out]; simp, B5.out⟩
      · go_wp2
        go_ret
        exact ⟨by rw [HR.out, HTU.out]; simp, B4.out⟩
    · cases a1
      · go_wp2_with fail
        refine (KR.out w3).mono ?_
        rintro e w4 ⟨rfl, hb4⟩
        have B4 := Lib.hid (below_then B3.out hb4)
        have K4 := Lib.hid (K3.out.keep hb4)
        obtain ⟨z0, z1, z2, z3, z4, z5, z6, z7⟩ := K4.out.cells
        clear hb4
        cases gr
        · go_wp2
          go_ret
          exact ⟨by rw [HR.out]; simp, B4.out⟩
        · go_wp2_with fail
          refine (mixed_any a0 false a2 a3 a4 a5 a6 a7 w4).mono ?_
          rintro e w5 ⟨rfl, hb5⟩
          have B5 := Lib.hid (below_then B4.out hb5)
          clear hb5
          go_wp2
          go_ret
          exact ⟨by rw [HR.out]; simp, B5.out⟩
      · go_wp2
        go_ret
        exact ⟨by rw [HR.out]; simp, B3.out⟩
theorem bidiOk : BidiOk := ⟨bidiHas_any, bidiSide_any, bidiEnd_any, bidiRule_any⟩
end Go.Proofs.Ytcngaekdjnompaa
