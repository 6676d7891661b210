/-
  Proved here: slices.SortStableFunc's insertionSort, by classes: a part of a row comes into its order, by turning neighbours of unlike classes alone. Conditions: the row is one that the caller owns; the closure's table is one that New made.
-/
import Derived.Test.YtpmcmbkilcpleaaSortCmp
import Derived.Deep.QuietTactic
import Derived.BigQuiet
import Derived.Deep.RegionHeld3
namespace Go.Proofs.Ytpmcmbkilcpleaa
open Go.RowKit Utf
/-- The closure is bound to a table that New made, and all below has stayed as it was since. -/
def Bound (p : Place) (bt : Nat) : Prop := p.base = p.w0.heap.size ∧ Boxed bt p.w0
theorem Bound.cmp {p : Place} {bt : Nat} (h : Bound p bt) (x y : Int) (W : World) (hb : Below p.base p.w0 W) :
    Calls Try.prog 33 #[.int .i32 x, .int .i32 y, .pointer (some ⟨bt, 0, none⟩)] W fun e w' => e = .returned (.int .i64 (cmp3 (clsOf x) (clsOf y))) ∧ Below W.heap.size W w' :=
  byClass_any bt x y W (h.2.keep (by have := h.1; rw [← this]; exact hb))
theorem Seg.drewN {p : Place} {d : List Int} {w : World} (h : Seg p d w) (n : Nat) : Seg p d (w.drewN n) := ⟨h.1.drewN n, below_drewN h.2.1 n, h.2.2⟩
theorem Seg.next {p : Place} {bt : Nat} {d : List Int} {w w' : World} (h : Seg p d w) (hp : Bound p bt) (hb : Below w.heap.size w w') : Seg p d w' :=
  h.keep hb (by have := h.2.1.size; have := hp.1; omega)
namespace Norm
/-- In its order from a up to i, but for the one at j, which is not greater than what stands behind it. -/
def Gap (M : List Int) (a i j : Nat) : Prop := ∀ x y, a ≤ x → x < y → y ≤ i → y ≠ j → clsOf M[x]! ≤ clsOf M[y]!
theorem Gap.start {M : List Int} {a i : Nat} (h : Up M a i) : Gap M a i i := fun x y h1 h2 h3 h4 => h x y h1 h2 (by omega)
theorem Gap.turn {M : List Int} {a i j : Nat} (h : Gap M a i (j + 1)) (ha : a ≤ j) (hj : j + 1 ≤ i) (hl : i < M.length) (hc : clsOf M[j + 1]! < clsOf M[j]!) : Gap (turn M j) a i j := by
  intro x y h1 h2 h3 h4
  rw [turn_bang _ _ _ (by omega), turn_bang _ _ _ (by omega)]
  by_cases y1 : y = j + 1
  · rw [if_pos y1, if_neg (by omega)]
    by_cases x1 : x = j
    · rw [if_pos x1]; omega
    · rw [if_neg x1]; exact h x j h1 (by omega) (by omega) (by omega)
  · rw [if_neg y1, if_neg h4]
    by_cases x1 : x = j + 1
    · rw [if_pos x1]; exact h j y ha (by omega) h3 y1
    · rw [if_neg x1]
      by_cases x2 : x = j
      · rw [if_pos x2]; exact h (j + 1) y (by omega) (by omega) h3 y1
      · rw [if_neg x2]; exact h x y h1 h2 h3 y1
theorem Gap.done {M : List Int} {a i j : Nat} (h : Gap M a i j) (hc : j = a ∨ (a < j ∧ clsOf M[j - 1]! ≤ clsOf M[j]!)) : Up M a (i + 1) := by
  intro x y h1 h2 h3
  by_cases y1 : y = j
  · subst y1
    rcases hc with rfl | ⟨h4, h5⟩
    · omega
    · by_cases x1 : x = y - 1
      · rw [x1]; exact h5
      · exact Int.le_trans (h x (y - 1) h1 (by omega) (by omega) (by omega)) h5
  · exact h x y h1 h2 (by omega) y1
end Norm
set_option maxHeartbeats 4000000 in
set_option maxRecDepth 100000 in
theorem insertion_any (p : Place) (bt : Nat) (hp : Bound p bt) (d : List Int) (w : World) (hs : Seg p d w) (cc a b : Nat) (hab : a ≤ b) (hb : b ≤ d.length) (hl : d.length ≤ 1000000) :
    Calls Try.prog 69 #[.slice (some ⟨p.g, p.o, none⟩) d.length cc, .int .i64 a, .int .i64 b, .func (.func 33) #[] #[.pointer (some ⟨bt, 0, none⟩)]] w (Sorts p (fun M => Norm.Moved a b d M ∧ Norm.Up M a b)) := by
  have HS := Lib.hid hs
  have HP := Lib.hid hp
  clear hs hp
  go_enter Try.func69, Try.ntmps69
  go_wp2
  go_loopg [8, 9] (b + 2) (fun gk si _ wr => ∃ (i : Nat) (M : List Int), si = .int .i64 i ∧ a + 1 ≤ i ∧ i ≤ b + 1 ∧ b + 1 - i < gk ∧ Hid (Norm.Moved a b d M ∧ Norm.Up M a i ∧ Seg p M wr))
  case atStart => exact ⟨a + 1, d, by go_num, Nat.le_refl _, by omega, by omega, ⟨Norm.Moved.refl _ _ _, Norm.Up.small (Nat.le_refl _), HS.out⟩⟩
  case round =>
    obtain ⟨i, M, rfl, hai, hib, hg, I⟩ := hrel
    by_cases hlt : i < b
    · have IM := I.out.1.len
      go_wp2
      go_loopg [9] (i + 1) (fun gk sj wr => ∃ (j : Nat) (M : List Int), sj = .int .i64 j ∧ a ≤ j ∧ j ≤ i ∧ j < gk ∧ Hid (Norm.Moved a b d M ∧ Norm.Gap M a i j ∧ Seg p M wr))
      case atStart => exact ⟨i, M, rfl, by omega, Nat.le_refl _, by omega, ⟨I.out.1, Norm.Gap.start I.out.2.1, I.out.2.2⟩⟩
      case round =>
        clear I IM
        obtain ⟨j, M, rfl, haj, hji, hgj, J⟩ := hrel
        have hML := J.out.1.len
        by_cases hja : a < j
        · obtain ⟨k, rfl⟩ : ∃ k, j = k + 1 := ⟨j - 1, by omega⟩
          rw [show ((k + 1 : Nat) : Int) = (k : Int) + 1 by omega]
          have hjz : (a : Int) < (k : Int) + 1 := by omega
          obtain ⟨x, hx⟩ : ∃ x, x = M[k + 1]! := ⟨_, rfl⟩
          obtain ⟨y, hy⟩ : ∃ y, y = M[k]! := ⟨_, rfl⟩
          have c1 := J.out.2.2.cell (k + 1) (by omega)
          have c2 := J.out.2.2.cell k (by omega)
          rw [← hx] at c1
          rw [← hy] at c2
          have K := Lib.hid (HP.out.cmp x y wr.drew J.out.2.2.drew.2.1)
          have HX := Lib.hid hx
          have HY := Lib.hid hy
          clear hx hy
          have g1 : (0 : Int) ≤ (k : Int) := by omega
          have g4 : IntKind.i64.wrap (k : Int) = (k : Int) := by rw [IntWalk.i64_in _ (by omega)]
          have g0 : (0 : Int) ≤ (k : Int) + 1 := by omega
          have g2 : (k : Int) + 1 < (d.length : Int) := by omega
          have g3 : (k : Int) < (d.length : Int) := by omega
          by_cases hc : clsOf x < clsOf y
          · rw [cmp3_lt hc] at K
            have HCC := Lib.hid hc
            clear hc
            go_wp2
            go_region_held3 (fun w' => w'.cell? ⟨p.g, p.o + (k + 1), none⟩ = some (.int .i32 x) ∧ w'.cell? ⟨p.g, p.o + k, none⟩ = some (.int .i32 y)) (go_keep) ((go_at_call 33; (with_reducible refine K.out.mono ?_); rintro e w2 ⟨rfl, hb2⟩; have S2 := Lib.hid (J.out.2.2.next HP.out (below_of_drew hb2)); have d1 := S2.out.cell (k + 1) (by omega); have d2 := S2.out.cell k (by omega); rw [← HX.out] at d1; rw [← HY.out] at d2; have f1 := S2.out.free (k + 1); have f2 := S2.out.free k; clear hb2 c1 c2))
            all_goals
              have J2 : Hid (Norm.Moved a b d (Norm.turn M k) ∧ Norm.Gap (Norm.turn M k) a i k ∧ Seg p (Norm.turn M k) (((w2.setCell ⟨p.g, p.o + (k + 1), none⟩ (.int .i32 y)).setCell ⟨p.g, p.o + k, none⟩ (.int .i32 x)).drew)) := by
                have hcc : clsOf M[k + 1]! < clsOf M[k]! := by rw [← HX.out, ← HY.out]; exact HCC.out
                refine ⟨J.out.1.trans (Norm.Moved.turn M (by omega) (by omega) (by omega) hcc), J.out.2.1.turn (by omega) (by omega) (by omega) hcc, ?_⟩
                have := ((S2.out.put (k + 1) (by omega) y).put k (by rw [List.length_set]; omega) x).drew
                rwa [show (M.set (k + 1) y).set k x = Norm.turn M k by unfold Norm.turn; rw [List.set_comm _ _ (by omega), HX.out, HY.out]] at this
              clear J S2
              go_wp2
              go_region
              go_wp2
              go_roundg (k + 1)
              case measure => omega
              case rel => exact ⟨k, _, by go_num, by omega, by omega, by omega, J2⟩
          · have hv := cmp3_ge (a := clsOf x) (b := clsOf y) (by omega)
            have hv1 := (cmp3_le (clsOf x) (clsOf y)).2
            generalize cmp3 (clsOf x) (clsOf y) = v at K hv hv1
            have U := Lib.hid (J.out.2.1.done (.inr ⟨hja, by rw [Nat.add_sub_cancel, ← HX.out, ← HY.out]; omega⟩))
            have JM := Lib.hid J.out.1
            clear hc
            go_wp2
            go_region_held3 (fun w' => w'.cell? ⟨p.g, p.o + (k + 1), none⟩ = some (.int .i32 x) ∧ w'.cell? ⟨p.g, p.o + k, none⟩ = some (.int .i32 y)) (go_keep) ((go_at_call 33; (with_reducible refine K.out.mono ?_); rintro e w2 ⟨rfl, hb2⟩; have S2 := Lib.hid (J.out.2.2.next HP.out (below_of_drew hb2)); have d1 := S2.out.cell (k + 1) (by omega); have d2 := S2.out.cell k (by omega); rw [← HX.out] at d1; rw [← HY.out] at d2; clear hb2 c1 c2))
            all_goals
              clear J
              go_wp2
              go_roundg (b + 1 - i)
              case measure => omega
              case rel => exact ⟨i + 1, M, by go_num, by omega, by omega, by omega, ⟨JM.out, U.out, S2.out⟩⟩
        · obtain rfl : j = a := by omega
          have hjz : ¬ (j : Int) < (j : Int) := by omega
          have U := Lib.hid (J.out.2.1.done (.inl rfl))
          have JM := Lib.hid J.out.1
          have S2 := Lib.hid J.out.2.2
          clear J
          go_wp2
          go_quiet (fail)
          go_wp2
          go_roundg (b + 1 - i)
          case measure => omega
          case rel => exact ⟨i + 1, M, by go_num, by omega, by omega, by omega, ⟨JM.out, U.out, S2.out.drewN _⟩⟩
    · have U := Lib.hid (I.out.2.1.part (Nat.le_refl a) (show b ≤ i by omega))
      have hz : ¬ (i : Int) < (b : Int) := by omega
      go_wp2
      go_end0
      exact ⟨M, rfl, ⟨I.out.1, U.out⟩, I.out.2.2⟩
end Go.Proofs.Ytpmcmbkilcpleaa
