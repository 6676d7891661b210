/-
  Proved here: slices.SortStableFunc's swapRange and rotate: two parts of a row change their places. Conditions: the row is one that the caller owns.
-/
import Derived.Test.YtpmcmbkilcpleaaSortPlain
import Derived.Test.YtpmcmbkilcpleaaNormRefOne
import Derived.BigRegion
namespace Go.Proofs.Ytpmcmbkilcpleaa
open Go.RowKit Utf
/-- Where a part of a row lies: its block, its first place, what stands ahead and behind; since which world, and above which block, all else is as it was. -/
structure Place where
  base : Nat
  w0 : World
  g : Nat
  o : Nat
  pre : List Int
  post : List Int
  n : Nat
  c : Nat
def Seg (p : Place) (d : List Int) (wr : World) : Prop :=
  OwnR p.base (.slice (some ⟨p.g, 0, none⟩) p.n p.c) (p.pre ++ (d ++ p.post)) wr ∧ Below p.base p.w0 wr ∧ p.pre.length = p.o ∧ p.base ≤ p.g
theorem Seg.keep {p : Place} {d : List Int} {w w' : World} (h : Seg p d w) (hb : Below w.heap.size w w') (hs : p.base ≤ w.heap.size) : Seg p d w' :=
  ⟨h.1.keep hb, h.2.1.trans (hb.mono hs), h.2.2⟩
theorem Seg.drew {p : Place} {d : List Int} {w : World} (h : Seg p d w) : Seg p d w.drew := ⟨h.1.drew, h.2.1.drew, h.2.2⟩
theorem Seg.cell {p : Place} {d : List Int} {w : World} (h : Seg p d w) (k : Nat) (hk : k < d.length) : w.cell? ⟨p.g, p.o + k, none⟩ = some (.int .i32 d[k]!) := by
  have := h.1.cell (p.o + k) (by rw [List.length_append, List.length_append]; have := h.2.2.1; omega)
  rw [this, Norm.bang_right (by have := h.2.2.1; omega), h.2.2.1, Nat.add_sub_cancel_left, Norm.bang_left hk]
theorem Seg.free {p : Place} {d : List Int} {w : World} (h : Seg p d w) (k : Nat) : w.frozen? ⟨p.g, p.o + k, none⟩ = false := h.1.free (p.o + k)
theorem Seg.put {p : Place} {d : List Int} {w : World} (h : Seg p d w) (k : Nat) (hk : k < d.length) (x : Int) : Seg p (d.set k x) (w.setCell ⟨p.g, p.o + k, none⟩ (.int .i32 x)) := by
  refine ⟨?_, h.2.1.setCell (p := ⟨p.g, p.o + k, none⟩) h.2.2.2 _, h.2.2⟩
  have := h.1.put (p.o + k) x
  rwa [List.set_append_right _ _ (by have := h.2.2.1; omega), h.2.2.1, Nat.add_sub_cancel_left, List.set_append_left _ _ hk] at this
/-- What a call leaves of it. -/
def Sorts (p : Place) (R : List Int → Prop) (e : Ending) (w' : World) : Prop := ∃ d, e = .returned (.tuple #[]) ∧ R d ∧ Seg p d w'
namespace Norm
/-- Two parts of n each have been exchanged, as far as k. -/
structure Swapped (a b k : Nat) (L M : List Int) : Prop where
  len : M.length = L.length
  fst : ∀ i, i < k → M[a + i]! = L[b + i]!
  snd : ∀ i, i < k → M[b + i]! = L[a + i]!
  out : ∀ i, (i < a ∨ a + k ≤ i) → (i < b ∨ b + k ≤ i) → M[i]! = L[i]!
theorem Swapped.zero (a b : Nat) (L : List Int) : Swapped a b 0 L L := ⟨rfl, fun i h => by omega, fun i h => by omega, fun _ _ _ => rfl⟩
theorem Swapped.next {a b k n : Nat} {L M : List Int} (h : Swapped a b k L M) (hk : k < n) (hab : a + n ≤ b) (hb : b + n ≤ L.length) : Swapped a b (k + 1) L ((M.set (a + k) M[b + k]!).set (b + k) M[a + k]!) := by
  have e : ∀ i, ((M.set (a + k) M[b + k]!).set (b + k) M[a + k]!)[i]! = if i = b + k then M[a + k]! else if i = a + k then M[b + k]! else M[i]! := fun i => by
    rw [bang_set _ _ _ _ (by rw [List.length_set, h.len]; omega), bang_set _ _ _ _ (by rw [h.len]; omega)]
  refine ⟨by rw [List.length_set, List.length_set, h.len], fun i hi => ?_, fun i hi => ?_, fun i h1 h2 => ?_⟩
  · rw [e, if_neg (by omega)]
    by_cases hk : i = k
    · subst hk; rw [if_pos rfl]; exact h.out _ (by omega) (by omega)
    · rw [if_neg (by omega)]; exact h.fst i (by omega)
  · rw [e]
    by_cases hk : i = k
    · subst hk; rw [if_pos rfl]; exact h.out _ (by omega) (by omega)
    · rw [if_neg (by omega), if_neg (by omega)]; exact h.snd i (by omega)
  · rw [e, if_neg (by omega), if_neg (by omega)]; exact h.out i (by omega) (by omega)
end Norm
set_option maxHeartbeats 4000000 in
set_option maxRecDepth 100000 in
theorem swapRange_any (p : Place) (d : List Int) (w : World) (hs : Seg p d w) (cc : Nat) (f : Value) (a b n : Nat) (hab : a + n ≤ b) (hb : b + n ≤ d.length) (hl : d.length ≤ 1000000) :
    Calls Try.prog 79 #[.slice (some ⟨p.g, p.o, none⟩) d.length cc, .int .i64 a, .int .i64 b, .int .i64 n, f] w (Sorts p (Norm.Swapped a b n d)) := by
  have HS := Lib.hid hs
  clear hs
  go_enter Try.func79, Try.ntmps79
  go_wp2
  go_loopg [10] (n + 1) (fun gk i wr => ∃ (k : Nat) (M : List Int), k ≤ n ∧ i = .int .i64 k ∧ n - k < gk ∧ Hid (Norm.Swapped a b k d M ∧ Seg p M wr))
  case atStart => exact ⟨0, d, Nat.zero_le _, rfl, by omega, ⟨Norm.Swapped.zero _ _ _, HS.out⟩⟩
  case round =>
    obtain ⟨k, M, hk, rfl, hg, I⟩ := hrel
    by_cases hlt : k < n
    · obtain ⟨x, hx⟩ : ∃ x, x = M[a + k]! := ⟨_, rfl⟩
      obtain ⟨y, hy⟩ : ∃ y, y = M[b + k]! := ⟨_, rfl⟩
      have hML := I.out.1.len
      have c1 := I.out.2.cell (a + k) (by omega)
      have c2 := I.out.2.cell (b + k) (by omega)
      rw [← hx] at c1
      rw [← hy] at c2
      have f1 := I.out.2.free (a + k)
      have f2 := I.out.2.free (b + k)
      have J : Hid (Norm.Swapped a b (k + 1) d ((M.set (a + k) y).set (b + k) x) ∧ Seg p ((M.set (a + k) y).set (b + k) x) (((wr.setCell ⟨p.g, p.o + (a + k), none⟩ (.int .i32 y)).setCell ⟨p.g, p.o + (b + k), none⟩ (.int .i32 x)).drew)) := by
        refine ⟨?_, ((I.out.2.put (a + k) (by omega) y).put (b + k) (by rw [List.length_set]; omega) x).drew⟩
        have := I.out.1.next hlt hab hb
        rwa [← hx, ← hy] at this
      clear hx hy I
      go_wp2
      go_region
      go_wp2
      go_roundg (n - k)
      case measure => omega
      case rel => exact ⟨k + 1, _, by omega, by go_num, by omega, J⟩
    · obtain rfl : k = n := by omega
      go_wp2
      go_end0
      exact ⟨M, rfl, I.out.1, I.out.2⟩
namespace Norm
/-- What is left to do changes the places of the rest. -/
def Left (a m b i j : Nat) (L M : List Int) : Prop := M.length = L.length ∧ ∀ D, Rot (m - i) m (m + j) M D → Rot a m b L D
theorem Left.start {a m b : Nat} (L : List Int) (h1 : a ≤ m) (h2 : m ≤ b) : Left a m b (m - a) (b - m) L L := by
  refine ⟨rfl, fun D h => ?_⟩
  rw [show m - (m - a) = a by omega, show m + (b - m) = b by omega] at h
  exact h
theorem Left.fst {a m b i j : Nat} {L M M' : List Int} (h : Left a m b i j L M) (hi : i ≤ m) (hij : j < i) (hs : Swapped (m - i) m j M M') : Left a m b (i - j) j L M' := by
  refine ⟨hs.len.trans h.1, fun D hD => h.2 D ?_⟩
  refine ⟨hD.len.trans hs.len, fun k h1 h2 => ?_, fun k h1 h2 => ?_, fun k hk => ?_⟩
  · rw [hD.out k (by omega), show k = m - i + (k - (m - i)) by omega, hs.fst _ (by omega)]
    congr 1; omega
  · by_cases hk : k < m - (i - j) + j
    · rw [hD.fst k (by omega) (by omega), show k + (m - (m - (i - j))) = m + (k + i - j - m) by omega, hs.snd _ (by omega)]
      congr 1; omega
    · rw [hD.snd k (by omega) (by omega), hs.out _ (by omega) (by omega)]
  · rw [hD.out k (by omega), hs.out k (by omega) (by omega)]
theorem Left.snd {a m b i j : Nat} {L M M' : List Int} (h : Left a m b i j L M) (hi : i ≤ m) (hij : i < j) (hs : Swapped (m - i) (m + j - i) i M M') : Left a m b i (j - i) L M' := by
  refine ⟨hs.len.trans h.1, fun D hD => h.2 D ?_⟩
  refine ⟨hD.len.trans hs.len, fun k h1 h2 => ?_, fun k h1 h2 => ?_, fun k hk => ?_⟩
  · by_cases hk : k < m - i + (j - i)
    · rw [hD.fst k (by omega) (by omega), hs.out _ (by omega) (by omega)]
    · rw [hD.snd k (by omega) (by omega), show k - (m + (j - i) - m) = m - i + (k - (j - i) - (m - i)) by omega, hs.fst _ (by omega)]
      congr 1; omega
  · rw [hD.out k (by omega), show k = m + j - i + (k - (m + j - i)) by omega, hs.snd _ (by omega)]
    congr 1; omega
  · rw [hD.out k (by omega), hs.out k (by omega) (by omega)]
theorem Left.last {a m b i : Nat} {L M M' : List Int} (h : Left a m b i i L M) (hi : i ≤ m) (hs : Swapped (m - i) m i M M') : Rot a m b L M' := by
  refine h.2 M' ⟨hs.len, fun k h1 h2 => ?_, fun k h1 h2 => ?_, fun k hk => ?_⟩
  · rw [show k = m - i + (k - (m - i)) by omega, hs.fst _ (by omega)]
    congr 1; omega
  · rw [show k = m + (k - m) by omega, hs.snd _ (by omega)]
    congr 1; omega
  · exact hs.out k (by omega) (by omega)
end Norm
set_option maxHeartbeats 4000000 in
set_option maxRecDepth 100000 in
theorem rotate_any (p : Place) (d : List Int) (w : World) (hs : Seg p d w) (cc : Nat) (f : Value) (a m b : Nat) (ham : a < m) (hmb : m < b) (hb : b ≤ d.length) (hl : d.length ≤ 1000000) :
    Calls Try.prog 77 #[.slice (some ⟨p.g, p.o, none⟩) d.length cc, .int .i64 a, .int .i64 m, .int .i64 b, f] w (Sorts p (Norm.Rot a m b d)) := by
  have HS := Lib.hid hs
  clear hs
  go_enter Try.func77, Try.ntmps77
  go_wp2
  go_loopg [10, 11] (b - a + 1) (fun gk si sj wr => ∃ (i j : Nat) (M : List Int), si = .int .i64 i ∧ sj = .int .i64 j ∧ 0 < i ∧ 0 < j ∧ i + j < gk ∧ i ≤ m ∧ m + j ≤ d.length ∧ Hid (Norm.Left a m b i j d M ∧ Seg p M wr))
  case atStart =>
    exact ⟨m - a, b - m, d, by rw [show ((m - a : Nat) : Int) = (m : Int) - a by omega], by rw [show ((b - m : Nat) : Int) = (b : Int) - m by omega], by omega, by omega, by omega, by omega, by omega, ⟨Norm.Left.start d (by omega) (by omega), HS.out⟩⟩
  case round =>
    obtain ⟨i, j, M, rfl, rfl, hi, hj, hg, him, hjm, I⟩ := hrel
    have hML := I.out.1.1
    by_cases hij : i = j
    · subst hij
      have hc := swapRange_any p M wr I.out.2 cc f (m - i) m i (by omega) (by omega) (by omega)
      rw [hML, show ((m - i : Nat) : Int) = (m : Int) - i by omega] at hc
      go_wp2_with fail
      refine hc.mono ?_
      rintro e w2 ⟨M2, rfl, h2, s2⟩
      have R := Lib.hid (I.out.1.last him h2)
      have S2 := Lib.hid s2
      clear hc h2 s2
      go_wp2
      go_end0
      exact ⟨M2, rfl, R.out, S2.out⟩
    · have hne : ((i : Int) == (j : Int)) = false := by rw [beq_eq_false_iff_ne]; omega
      by_cases hlt : j < i
      · have hc := swapRange_any p M wr I.out.2 cc f (m - i) m j (by omega) (by omega) (by omega)
        rw [hML, show ((m - i : Nat) : Int) = (m : Int) - i by omega] at hc
        go_wp2_with fail
        refine hc.mono ?_
        rintro e w2 ⟨M2, rfl, h2, s2⟩
        have J : Hid (Norm.Left a m b (i - j) j d M2 ∧ Seg p M2 w2) := ⟨I.out.1.fst him hlt h2, s2⟩
        clear hc h2 s2
        go_wp2
        go_roundg (i + j)
        case measure => omega
        case rel => exact ⟨i - j, j, M2, by rw [show ((i - j : Nat) : Int) = (i : Int) - j by omega], rfl, by omega, by omega, by omega, by omega, by omega, J⟩
      · have hc := swapRange_any p M wr I.out.2 cc f (m - i) (m + j - i) i (by omega) (by omega) (by omega)
        rw [hML, show ((m - i : Nat) : Int) = (m : Int) - i by omega, show ((m + j - i : Nat) : Int) = (m : Int) + j - i by omega] at hc
        go_wp2_with fail
        refine hc.mono ?_
        rintro e w2 ⟨M2, rfl, h2, s2⟩
        have J : Hid (Norm.Left a m b i (j - i) d M2 ∧ Seg p M2 w2) := ⟨I.out.1.snd him (by omega) h2, s2⟩
        clear hc h2 s2
        go_wp2
        go_roundg (i + j)
        case measure => omega
        case rel => exact ⟨i, j - i, M2, rfl, by rw [show ((j - i : Nat) : Int) = (j : Int) - i by omega], by omega, by omega, by omega, by omega, by omega, J⟩
end Go.Proofs.Ytpmcmbkilcpleaa
