/-
  Proved here: slices.SortStableFunc's symMerge where one of the two rows is of one: it goes to its place among the others, past those of unlike class alone. Conditions: the row is one that the caller owns; both parts stand in their order; the closure's table is one that New made.
-/
import Derived.Test.YtpmcmbkilcpleaaSortIns
namespace Go.Proofs.Ytpmcmbkilcpleaa
open Go.RowKit Utf
namespace Norm
/-- The one at a has gone to k, past those behind it. -/
structure Gone (a k : Nat) (L M : List Int) : Prop where
  len : M.length = L.length
  low : ∀ t, a ≤ t → t < k → M[t]! = L[t + 1]!
  one : M[k]! = L[a]!
  out : ∀ t, t < a ∨ k < t → M[t]! = L[t]!
theorem Gone.start (a : Nat) (L : List Int) : Gone a a L L := ⟨rfl, fun t h1 h2 => by omega, rfl, fun _ _ => rfl⟩
theorem Gone.next {a k : Nat} {L M : List Int} (h : Gone a k L M) (hk : k + 1 < L.length) (ha : a ≤ k) : Gone a (k + 1) L (turn M k) := by
  have hl := h.len
  have e := fun i => turn_bang M k i (by omega)
  refine ⟨(turn_len _ _).trans hl, fun t h1 h2 => ?_, ?_, fun t ht => ?_⟩
  · rw [e, if_neg (by omega)]
    by_cases hk : t = k
    · subst hk; rw [if_pos rfl]; exact h.out _ (by omega)
    · rw [if_neg hk]; exact h.low t h1 (by omega)
  · rw [e, if_pos rfl]; exact h.one
  · rw [e, if_neg (by omega), if_neg (by omega)]; exact h.out t (by omega)
theorem Gone.up {a k b : Nat} {L M : List Int} (h : Gone a k L M) (ha : a ≤ k) (hkb : k < b) (u : Up L (a + 1) b) (hlo : ∀ t, a < t → t ≤ k → clsOf L[t]! < clsOf L[a]!) (hhi : ∀ t, k < t → t < b → clsOf L[a]! ≤ clsOf L[t]!) : Up M a b := by
  intro x y h1 h2 h3
  by_cases x1 : x < k
  · rw [h.low x h1 x1]
    by_cases y1 : y < k
    · rw [h.low y (by omega) y1]; exact u _ _ (by omega) (by omega) (by omega)
    · by_cases y2 : y = k
      · subst y2; rw [h.one]; exact Int.le_of_lt (hlo _ (by omega) (by omega))
      · rw [h.out y (by omega)]; exact u.le (by omega) (by omega) (by omega)
  · by_cases x2 : x = k
    · subst x2; rw [h.one, h.out y (by omega)]; exact hhi y (by omega) h3
    · rw [h.out x (by omega), h.out y (by omega)]; exact u _ _ (by omega) h2 h3
/-- The one at m has come to k, ahead of those that stood there. -/
structure Come (m k : Nat) (L M : List Int) : Prop where
  len : M.length = L.length
  hig : ∀ t, k < t → t ≤ m → M[t]! = L[t - 1]!
  one : M[k]! = L[m]!
  out : ∀ t, t < k ∨ m < t → M[t]! = L[t]!
theorem Come.start (m : Nat) (L : List Int) : Come m m L L := ⟨rfl, fun t h1 h2 => by omega, rfl, fun _ _ => rfl⟩
theorem Come.next {m k : Nat} {L M : List Int} (h : Come m (k + 1) L M) (hk : k + 1 ≤ m) (hm : m < L.length) : Come m k L (turn M k) := by
  have hl := h.len
  have e := fun i => turn_bang M k i (by omega)
  refine ⟨(turn_len _ _).trans hl, fun t h1 h2 => ?_, ?_, fun t ht => ?_⟩
  · rw [e]
    by_cases hk : t = k + 1
    · subst hk; rw [if_pos rfl, Nat.add_sub_cancel]; exact h.out _ (by omega)
    · rw [if_neg hk, if_neg (by omega)]; exact h.hig t (by omega) h2
  · rw [e, if_neg (by omega), if_pos rfl]; exact h.one
  · rw [e, if_neg (by omega), if_neg (by omega)]; exact h.out t (by omega)
theorem Come.up {a k m : Nat} {L M : List Int} (h : Come m k L M) (ha : a ≤ k) (hkm : k ≤ m) (u : Up L a m) (hlo : ∀ t, a ≤ t → t < k → clsOf L[t]! ≤ clsOf L[m]!) (hhi : ∀ t, k ≤ t → t < m → clsOf L[m]! < clsOf L[t]!) : Up M a (m + 1) := by
  intro x y h1 h2 h3
  by_cases x1 : x < k
  · rw [h.out x (by omega)]
    by_cases y1 : y < k
    · rw [h.out y (by omega)]; exact u _ _ h1 h2 (by omega)
    · by_cases y2 : y = k
      · subst y2; rw [h.one]; exact hlo _ h1 x1
      · rw [h.hig y (by omega) (by omega)]; exact u.le h1 (by omega) (by omega)
  · rw [h.hig y (by omega) (by omega)]
    by_cases x2 : x = k
    · subst x2; rw [h.one]; exact Int.le_of_lt (hhi _ (by omega) (by omega))
    · rw [h.hig x (by omega) (by omega)]; exact u _ _ (by omega) (by omega) (by omega)
end Norm
/-- symMerge's contract at three places. -/
def SymAt (p : Place) (bt n cc a m b : Nat) : Prop := ∀ (d : List Int) (w : World), Seg p d w → d.length = n → Norm.Up d a m → Norm.Up d m b →
  Calls Try.prog 70 #[.slice (some ⟨p.g, p.o, none⟩) n cc, .int .i64 a, .int .i64 m, .int .i64 b, .func (.func 33) #[] #[.pointer (some ⟨bt, 0, none⟩)]] w (Sorts p (fun M => Norm.Moved a b d M ∧ Norm.Up M a b))
theorem turn_set {M : List Int} {k : Nat} {x y : Int} (hx : x = M[k]!) (hy : y = M[k + 1]!) : (M.set k y).set (k + 1) x = Norm.turn M k := by unfold Norm.turn; rw [hx, hy]
theorem turn_set' {M : List Int} {k : Nat} {x y : Int} (hx : x = M[k]!) (hy : y = M[k + 1]!) : (M.set (k + 1) x).set k y = Norm.turn M k := by unfold Norm.turn; rw [List.set_comm _ _ (by omega), hx, hy]
set_option maxHeartbeats 4000000 in
set_option maxRecDepth 100000 in
theorem sym_fst {p : Place} {bt : Nat} (hp : Bound p bt) (n cc a b : Nat) (hb : a + 1 < b) (hbn : b ≤ n) (hn : n ≤ 1000000) : SymAt p bt n cc a (a + 1) b := by
  intro d w hs hdn u1 u2
  have HS := Lib.hid hs
  have HP := Lib.hid hp
  have U2 := Lib.hid u2
  obtain ⟨x, hx⟩ : ∃ x, x = d[a]! := ⟨_, rfl⟩
  have HX := Lib.hid hx
  have HD := Lib.hid hdn
  clear hs hp u1 u2 hx hdn
  obtain ⟨m, hm⟩ : ∃ m, m = a + 1 := ⟨_, rfl⟩
  rw [← hm] at U2 hb ⊢
  have hma : (m : Int) - (a : Int) = 1 := by omega
  have hm1 : a < m := by omega
  have hm2 : m ≤ a + 1 := by omega
  have HM := Lib.hid hm
  clear hm
  go_enter Try.func70, Try.ntmps70
  go_wp2
  go_loopg [10, 11, 12] (b + 1) (fun gk si sj _ wr => ∃ (i j : Nat), si = .int .i64 i ∧ sj = .int .i64 j ∧ m ≤ i ∧ i ≤ j ∧ j ≤ b ∧ j - i < gk ∧ Hid (Seg p d wr ∧ (∀ t, a < t → t < i → clsOf d[t]! < clsOf x) ∧ (∀ t, j ≤ t → t < b → clsOf x ≤ clsOf d[t]!)))
  case atStart => exact ⟨m, b, rfl, rfl, Nat.le_refl _, by omega, Nat.le_refl _, by omega, ⟨HS.out, fun t h1 h2 => by omega, fun t h1 h2 => by omega⟩⟩
  case round =>
    obtain ⟨i, j, rfl, rfl, hi, hij, hjb, hg, I⟩ := hrel
    by_cases hlt : i < j
    · obtain ⟨h, hh⟩ : ∃ h, h = (i + j) / 2 := ⟨_, rfl⟩
      have hz : ((i : Int) + (j : Int)) / 2 = (h : Int) := by omega
      have e1 : i ≤ h := by omega
      have e2 : h < j := by omega
      have HH := Lib.hid hh
      obtain ⟨y, hy⟩ : ∃ y, y = d[h]! := ⟨_, rfl⟩
      have HY := Lib.hid hy
      have c1 := I.out.1.cell h (by have := HD.out; omega)
      have c2 := I.out.1.cell a (by have := HD.out; omega)
      rw [← hy] at c1
      rw [← HX.out] at c2
      have K := Lib.hid (HP.out.cmp y x wr.drew I.out.1.drew.2.1)
      clear hh hy
      have g1 : (0 : Int) ≤ (h : Int) := by omega
      have g2 : (h : Int) < (n : Int) := by omega
      have g3 : (0 : Int) ≤ (a : Int) := by omega
      have g4 : (a : Int) < (n : Int) := by omega
      by_cases hc : clsOf y < clsOf x
      · rw [cmp3_lt hc] at K
        have HC := Lib.hid hc
        clear hc
        go_wp2
        go_region_held3 (fun w' => w'.cell? ⟨p.g, p.o + h, none⟩ = some (.int .i32 y) ∧ w'.cell? ⟨p.g, p.o + a, none⟩ = some (.int .i32 x)) (go_keep) ((go_at_call 33; (with_reducible refine K.out.mono ?_); rintro e w2 ⟨rfl, hb2⟩; have S2 := Lib.hid (I.out.1.next HP.out (below_of_drew hb2)); have d1 := S2.out.cell h (by have := HD.out; omega); have d2 := S2.out.cell a (by have := HD.out; omega); rw [← HY.out] at d1; rw [← HX.out] at d2; clear hb2 c1 c2))
        all_goals
          have J : Hid (Seg p d w2 ∧ (∀ t, a < t → t < h + 1 → clsOf d[t]! < clsOf x) ∧ (∀ t, j ≤ t → t < b → clsOf x ≤ clsOf d[t]!)) :=
            ⟨S2.out, fun t h1 h2 => Int.lt_of_le_of_lt (U2.out.le (i := t) (j := h) (by omega) (by omega) (by omega)) (by rw [← HY.out]; exact HC.out), I.out.2.2⟩
          clear I d1 d2
          go_wp2
          go_roundg (j - i)
          case measure => omega
          case rel => exact ⟨h + 1, j, by go_num, rfl, by omega, by omega, hjb, by omega, J⟩
      · have hv := cmp3_ge (a := clsOf y) (b := clsOf x) (by omega)
        have hv1 := (cmp3_le (clsOf y) (clsOf x)).2
        generalize cmp3 (clsOf y) (clsOf x) = v at K hv hv1
        have HC := Lib.hid hc
        clear hc
        go_wp2
        go_region_held3 (fun w' => w'.cell? ⟨p.g, p.o + h, none⟩ = some (.int .i32 y) ∧ w'.cell? ⟨p.g, p.o + a, none⟩ = some (.int .i32 x)) (go_keep) ((go_at_call 33; (with_reducible refine K.out.mono ?_); rintro e w2 ⟨rfl, hb2⟩; have S2 := Lib.hid (I.out.1.next HP.out (below_of_drew hb2)); have d1 := S2.out.cell h (by have := HD.out; omega); have d2 := S2.out.cell a (by have := HD.out; omega); rw [← HY.out] at d1; rw [← HX.out] at d2; clear hb2 c1 c2))
        all_goals
          have J : Hid (Seg p d w2 ∧ (∀ t, a < t → t < i → clsOf d[t]! < clsOf x) ∧ (∀ t, h ≤ t → t < b → clsOf x ≤ clsOf d[t]!)) :=
            ⟨S2.out, I.out.2.1, fun t h1 h2 => Int.le_trans (by have := HC.out; rw [← HY.out]; omega) (U2.out.le (i := h) (j := t) (by omega) (by omega) (by omega))⟩
          clear I d1 d2
          go_wp2
          go_roundg (j - i)
          case measure => omega
          case rel => exact ⟨i, h, rfl, rfl, by omega, by omega, by omega, by omega, J⟩
    · obtain rfl : i = j := by omega
      go_wp2
      go_loopg [13] (b + 1) (fun gk sk wr => ∃ (k : Nat) (M : List Int), sk = .int .i64 k ∧ a ≤ k ∧ k < i ∧ i - k < gk ∧ Hid (Seg p M wr ∧ Norm.Moved a b d M ∧ Norm.Gone a k d M))
      case atStart => exact ⟨a, d, rfl, Nat.le_refl _, by omega, by omega, ⟨I.out.1, Norm.Moved.refl _ _ _, Norm.Gone.start _ _⟩⟩
      case round =>
        obtain ⟨k, M, rfl, hak, hki, hgk, J⟩ := hrel
        by_cases hkl : k + 1 < i
        · have hkz : (k : Int) < (i : Int) - 1 := by omega
          have hML := J.out.2.1.len
          obtain ⟨y, hy⟩ : ∃ y, y = M[k + 1]! := ⟨_, rfl⟩
          obtain ⟨z, hzz⟩ : ∃ z, z = M[k]! := ⟨_, rfl⟩
          have c1 := J.out.1.cell (k + 1) (by have := HD.out; omega)
          have c2 := J.out.1.cell k (by have := HD.out; omega)
          rw [← hy] at c1
          rw [← hzz] at c2
          have f1 := J.out.1.free (k + 1)
          have f2 := J.out.1.free k
          have J2 : Hid (Seg p (Norm.turn M k) (((wr.setCell ⟨p.g, p.o + k, none⟩ (.int .i32 y)).setCell ⟨p.g, p.o + (k + 1), none⟩ (.int .i32 z)).drew) ∧ Norm.Moved a b d (Norm.turn M k) ∧ Norm.Gone a (k + 1) d (Norm.turn M k)) := by
            have hdl := HD.out
            refine ⟨?_, J.out.2.1.trans (Norm.Moved.turn M hak (by omega) (by omega) ?_), J.out.2.2.next (by omega) hak⟩
            · have := ((J.out.1.put k (by omega) y).put (k + 1) (by rw [List.length_set]; omega) z).drew
              rwa [turn_set hzz hy] at this
            · rw [J.out.2.2.one, J.out.2.2.out (k + 1) (by omega), ← HX.out]
              exact I.out.2.1 (k + 1) (by omega) hkl
          clear J hy hzz
          go_wp2
          go_region
          go_wp2
          go_roundg (i - k)
          case measure => omega
          case rel => exact ⟨k + 1, _, by go_num, by omega, by omega, by omega, J2⟩
        · obtain rfl : i = k + 1 := by omega
          have hkz : ¬ (k : Int) < ((k + 1 : Nat) : Int) - 1 := by omega
          have R := Lib.hid (J.out.2.2.up hak (by omega) (HM.out ▸ U2.out) (fun t h1 h2 => by rw [← HX.out]; exact I.out.2.1 t h1 (by omega)) (fun t h1 h2 => by rw [← HX.out]; exact I.out.2.2 t (by omega) h2))
          go_wp2
          refine bodyPost_ret (results_none rfl _ _ _) rfl ?_
          exact ⟨M, rfl, ⟨J.out.2.1, R.out⟩, J.out.1⟩
end Go.Proofs.Ytpmcmbkilcpleaa
