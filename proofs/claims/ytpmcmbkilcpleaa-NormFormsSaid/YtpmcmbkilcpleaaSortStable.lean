/-
  Proved here: slices.SortStableFunc, by classes: a part of a row comes into its order, by turning marks of unlike classes alone. Conditions: the row is one that the caller owns; the closure's table is one that New made.
-/
import Derived.Test.YtpmcmbkilcpleaaSortSymC
namespace Go.Proofs.Ytpmcmbkilcpleaa
open Go.RowKit Utf
namespace Norm
/-- Rows of k each, from the first on, stand in their order. -/
def Runs (L : List Int) (k n : Nat) : Prop := ∀ t, k ∣ t → Up L t (min (t + k) n)
/-- Rows of k each have been put in order up to a. -/
def Upto (L : List Int) (k a : Nat) : Prop := ∀ t, k ∣ t → t + k ≤ a → Up L t (t + k)
theorem mult_next {k t a : Nat} (ht : k ∣ t) (ha : k ∣ a) (h : t ≤ a) : t = a ∨ t + k ≤ a := by
  rcases Nat.lt_or_eq_of_le h with h1 | h1
  · right
    have := Nat.le_of_dvd (by omega) (Nat.dvd_sub ha ht)
    omega
  · exact .inl h1
theorem Upto.zero (L : List Int) {k : Nat} (h : 0 < k) : Upto L k 0 := fun t _ h2 => by omega
theorem Upto.next {L M : List Int} {k a b : Nat} (h : Upto L k a) (ha : k ∣ a) (hb : b = a + k) (hm : Moved a b L M) (u : Up M a b) : Upto M k b := by
  intro t h1 h2
  rcases mult_next h1 ha (by omega) with rfl | h3
  · rw [← hb]; exact u
  · exact (h t h1 h3).same fun i _ h5 => hm.out i (by omega)
theorem Upto.last {L M : List Int} {k a n : Nat} (h : Upto L k a) (ha : k ∣ a) (han : a ≤ n) (hn : n < a + k) (hm : Moved a n L M) (u : Up M a n) : Runs M k n := by
  intro t h1
  by_cases h2 : t ≤ a
  · rcases mult_next h1 ha h2 with rfl | h3
    · rw [show min (t + k) n = n by omega]; exact u
    · rw [show min (t + k) n = t + k by omega]
      exact (h t h1 h3).same fun i _ h5 => hm.out i (by omega)
  · have h3 := mult_next ha h1 (by omega)
    exact Up.small (by omega)
theorem Runs.end {L : List Int} {k n : Nat} (h : Runs L k n) (hk : n ≤ k) : Up L 0 n := by
  have := h 0 (Nat.dvd_zero k)
  rwa [show min (0 + k) n = n by omega] at this
/-- What is still to do of a pass: rows of k each from a on. -/
def From (L : List Int) (k n a : Nat) : Prop := ∀ t, k ∣ t → a ≤ t → Up L t (min (t + k) n)
theorem Runs.from {L : List Int} {k n : Nat} (h : Runs L k n) : From L k n 0 := fun t h1 _ => h t h1
theorem From.next {L M : List Int} {k n a b : Nat} (h : From L k n a) (hab : a ≤ b) (hm : Moved a b L M) : From M k n b := fun t h1 h2 => (h t h1 (by omega)).same fun i h3 _ => hm.out i (by omega)
theorem From.fst {L : List Int} {k n a : Nat} (h : From L k n a) (ha : k ∣ a) (hn : a + k ≤ n) : Up L a (a + k) := by
  have := h a ha (Nat.le_refl _)
  rwa [show min (a + k) n = a + k by omega] at this
theorem From.snd {L : List Int} {k n a e : Nat} (h : From L k n a) (ha : k ∣ a) (he : e = min (a + k + k) n) : Up L (a + k) e := by
  rw [he]
  exact h (a + k) (Nat.dvd_add ha (Nat.dvd_refl k)) (by omega)
theorem From.all {L : List Int} {k n a : Nat} (h : From L k n a) (ha : k ∣ a) (hn : n ≤ a + k) : Up L a n := by
  have := h a ha (Nat.le_refl _)
  rwa [show min (a + k) n = n by omega] at this
theorem half_mult {k D a : Nat} (hD : D = 2 * k) (h : D ∣ a) : k ∣ a := Nat.dvd_trans ⟨2, by omega⟩ h
end Norm
set_option maxHeartbeats 8000000 in
set_option maxRecDepth 100000 in
theorem stable_any {p : Place} {bt : Nat} (hp : Bound p bt) (d : List Int) (w : World) (hs : Seg p d w) (n cc : Nat) (hdn : d.length = n) (hn : n ≤ 1000000) :
    Calls Try.prog 53 #[.slice (some ⟨p.g, p.o, none⟩) n cc, .int .i64 n, .func (.func 33) #[] #[.pointer (some ⟨bt, 0, none⟩)]] w (Sorts p (fun M => Norm.Moved 0 n d M ∧ Norm.Up M 0 n)) := by
  have HS := Lib.hid hs
  have HP := Lib.hid hp
  have HD := Lib.hid hdn
  clear hs hp hdn
  go_enter Try.func53, Try.ntmps53
  go_wp2
  go_loopg [7, 8] (n + 40) (fun gk sa sb wr => ∃ (a b : Nat) (M : List Int), sa = .int .i64 a ∧ sb = .int .i64 b ∧ a ≤ n ∧ a + 20 ≤ b ∧ b ≤ a + 20 ∧ n + 20 - a < gk ∧ Hid (20 ∣ a ∧ Seg p M wr ∧ Norm.Moved 0 n d M ∧ Norm.Upto M 20 a))
  case atStart => exact ⟨0, 20, d, rfl, rfl, by omega, by omega, by omega, by omega, ⟨by omega, HS.out, Norm.Moved.refl _ _ _, Norm.Upto.zero _ (by omega)⟩⟩
  case round =>
    obtain ⟨a, b, M, rfl, rfl, han, hb1, hb2, hg, I⟩ := hrel
    have hML := I.out.2.2.1.len
    by_cases hlt : b ≤ n
    · have hc := insertion_any p bt HP.out M wr I.out.2.1 cc a b (by omega) (by have := HD.out; omega) (by have := HD.out; omega)
      rw [hML, HD.out] at hc
      go_wp2_with fail
      refine hc.mono ?_
      rintro e w2 ⟨M2, rfl, ⟨k2, v2⟩, s2⟩
      have J : Hid (20 ∣ b ∧ Seg p M2 w2 ∧ Norm.Moved 0 n d M2 ∧ Norm.Upto M2 20 b) :=
        ⟨by have := I.out.1; omega, s2, I.out.2.2.1.trans (k2.mono (by omega) hlt), I.out.2.2.2.next I.out.1 (by omega) k2 v2⟩
      clear hc k2 v2 s2 I hML
      go_wp2
      go_roundg (n + 20 - a)
      case measure => omega
      case rel => exact ⟨b, b + 20, M2, rfl, by go_num, by omega, by omega, by omega, by omega, J⟩
    · have hz : ¬ (b : Int) ≤ (n : Int) := by omega
      have hc := insertion_any p bt HP.out M wr I.out.2.1 cc a n han (by have := HD.out; omega) (by have := HD.out; omega)
      rw [hML, HD.out] at hc
      go_wp2_with fail
      refine hc.mono ?_
      rintro e w2 ⟨M2, rfl, ⟨k2, v2⟩, s2⟩
      have J : Hid (Seg p M2 w2 ∧ Norm.Moved 0 n d M2 ∧ Norm.Runs M2 20 n) :=
        ⟨s2, I.out.2.2.1.trans (k2.mono (by omega) (Nat.le_refl _)), I.out.2.2.2.last I.out.1 han (by omega) k2 v2⟩
      clear hc k2 v2 s2 I hML
      go_wp2
      go_loopg [6, 7, 8, 9] (n + 1) (fun gk sk _ _ _ wr => ∃ (k : Nat) (M : List Int), sk = .int .i64 k ∧ 1 ≤ k ∧ n - k < gk ∧ k ≤ 2000000 ∧ Hid (Seg p M wr ∧ Norm.Moved 0 n d M ∧ Norm.Runs M k n))
      case atStart => exact ⟨20, M2, rfl, by omega, by omega, by omega, J⟩
      case round =>
        clear J
        obtain ⟨k, M, rfl, hk1, hgk, hk2, J⟩ := hrel
        by_cases hkn : k < n
        · obtain ⟨D, hD⟩ : ∃ D, D = 2 * k := ⟨_, rfl⟩
          have hD1 : 2 * (k : Int) = (D : Int) := by omega
          have hD2 : (k : Int) * 2 = (D : Int) := by omega
          have hD3 : k + k ≤ D := by omega
          have hD4 : D ≤ k + k := by omega
          have HDD := Lib.hid hD
          clear hD
          go_wp2
          go_loopg [7, 8] (n + 1) (fun gk sa sb wr => ∃ (a b : Nat) (M : List Int), sa = .int .i64 a ∧ sb = .int .i64 b ∧ a ≤ n ∧ a + D ≤ b ∧ b ≤ a + D ∧ n - a < gk ∧ Hid (D ∣ a ∧ Seg p M wr ∧ Norm.Moved 0 n d M ∧ Norm.Upto M D a ∧ Norm.From M k n a))
          case atStart => exact ⟨0, D, M, rfl, rfl, by omega, by omega, by omega, by omega, ⟨Nat.dvd_zero _, J.out.1, J.out.2.1, Norm.Upto.zero _ (by omega), J.out.2.2.from⟩⟩
          case round =>
            clear J
            obtain ⟨a, b, M, rfl, rfl, han, hb1, hb2, hga, J⟩ := hrel
            have hML := J.out.2.2.1.len
            by_cases hbn : b ≤ n
            · have hc := sym_any HP.out n cc hn (b - a) a (a + k) b (Nat.le_refl _) (by omega) (by omega) hbn M wr J.out.2.1 (hML.trans HD.out) (J.out.2.2.2.2.fst (Norm.half_mult HDD.out J.out.1) (by omega)) (J.out.2.2.2.2.snd (Norm.half_mult HDD.out J.out.1) (by omega))
              rw [show ((a + k : Nat) : Int) = (a : Int) + (k : Int) by omega] at hc
              go_wp2_with fail
              refine hc.mono ?_
              rintro e w3 ⟨M3, rfl, ⟨k3, v3⟩, s3⟩
              have J2 : Hid (D ∣ b ∧ Seg p M3 w3 ∧ Norm.Moved 0 n d M3 ∧ Norm.Upto M3 D b ∧ Norm.From M3 k n b) :=
                ⟨by rw [show b = a + D by omega]; exact Nat.dvd_add J.out.1 (Nat.dvd_refl D), s3, J.out.2.2.1.trans (k3.mono (by omega) hbn), J.out.2.2.2.1.next J.out.1 (by omega) k3 v3, J.out.2.2.2.2.next (by omega) k3⟩
              clear hc k3 v3 s3 J hML
              go_wp2
              go_roundg (n - a)
              case measure => omega
              case rel => exact ⟨b, b + D, M3, rfl, by go_num, by omega, by omega, by omega, by omega, J2⟩
            · have hz2 : ¬ (b : Int) ≤ (n : Int) := by omega
              by_cases hm : a + k < n
              · have hmz : (a : Int) + (k : Int) < (n : Int) := by omega
                have hc := sym_any HP.out n cc hn (n - a) a (a + k) n (Nat.le_refl _) (by omega) hm (Nat.le_refl _) M wr J.out.2.1 (hML.trans HD.out) (J.out.2.2.2.2.fst (Norm.half_mult HDD.out J.out.1) (by omega)) (J.out.2.2.2.2.snd (Norm.half_mult HDD.out J.out.1) (by omega))
                rw [show ((a + k : Nat) : Int) = (a : Int) + (k : Int) by omega] at hc
                go_wp2_with fail
                refine hc.mono ?_
                rintro e w3 ⟨M3, rfl, ⟨k3, v3⟩, s3⟩
                have J2 : Hid (Seg p M3 w3 ∧ Norm.Moved 0 n d M3 ∧ Norm.Runs M3 D n) :=
                  ⟨s3, J.out.2.2.1.trans (k3.mono (by omega) (Nat.le_refl _)), J.out.2.2.2.1.last J.out.1 han (by omega) k3 v3⟩
                clear hc k3 v3 s3 J hML
                go_wp2
                go_roundg (n - k)
                case measure => omega
                case rel => exact ⟨D, M3, rfl, by omega, by omega, by omega, J2⟩
              · have hmz : ¬ (a : Int) + (k : Int) < (n : Int) := by omega
                have J2 : Hid (Seg p M wr ∧ Norm.Moved 0 n d M ∧ Norm.Runs M D n) :=
                  ⟨J.out.2.1, J.out.2.2.1, J.out.2.2.2.1.last J.out.1 han (by omega) (Norm.Moved.refl _ _ _) (J.out.2.2.2.2.all (Norm.half_mult HDD.out J.out.1) (by omega))⟩
                clear J hML
                go_wp2
                go_roundg (n - k)
                case measure => omega
                case rel => exact ⟨D, M, rfl, by omega, by omega, by omega, J2⟩
        · have hkz : ¬ (k : Int) < (n : Int) := by omega
          have U := Lib.hid (J.out.2.2.end (by omega))
          go_wp2
          go_end0
          exact ⟨M, rfl, ⟨J.out.2.1, U.out⟩, J.out.1⟩
set_option maxHeartbeats 400000 in
theorem sortStable_any {p : Place} {bt : Nat} (hp : Bound p bt) (d : List Int) (w : World) (hs : Seg p d w) (n cc : Nat) (hdn : d.length = n) (hn : n ≤ 1000000) :
    Calls Try.prog 36 #[.slice (some ⟨p.g, p.o, none⟩) n cc, .func (.func 33) #[] #[.pointer (some ⟨bt, 0, none⟩)]] w (Sorts p (fun M => Norm.Moved 0 n d M ∧ Norm.Up M 0 n)) := by
  have hc := stable_any hp d w hs n cc hdn hn
  clear hs hp hdn
  go_enter Try.func36, Try.ntmps36
  go_wp2_with fail
  refine hc.mono ?_
  rintro e w2 ⟨M2, rfl, k2, s2⟩
  have K := Lib.hid k2
  have S := Lib.hid s2
  clear hc k2 s2
  go_wp2
  go_end0
  exact ⟨M2, rfl, K.out, S.out⟩
end Go.Proofs.Ytpmcmbkilcpleaa
