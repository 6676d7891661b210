/-
  Proved here: slices.SortStableFunc's symMerge: two rows in their order become one, by turning marks of unlike classes alone. Conditions: the row is one that the caller owns; both parts stand in their order; the closure's table is one that New made.
-/
import Derived.Test.YtpmcmbkilcpleaaSortSymB
namespace Go.Proofs.Ytpmcmbkilcpleaa
open Go.RowKit Utf
namespace Norm
/-- Where the search may look: from s0 up to r0, around the midst. -/
structure Span (a m b mid s0 r0 : Nat) : Prop where
  mid2 : 2 * mid ≤ a + b ∧ a + b ≤ 2 * mid + 1
  am : a < m
  mb : m < b
  as0 : a ≤ s0
  sr : s0 ≤ r0
  rm : r0 ≤ m
  rmid : r0 ≤ mid
  low : mid + m ≤ s0 + b
  sEnd : s0 = a ∨ mid + m = s0 + b
  rEnd : r0 = m ∨ r0 = mid
theorem span_any {a m b mid : Nat} (h1 : a + 1 < m) (h2 : m + 1 < b) (h3 : 2 * mid ≤ a + b ∧ a + b ≤ 2 * mid + 1) : (mid < m ∧ Span a m b mid (mid + m - b) mid) ∨ (m ≤ mid ∧ Span a m b mid a m) := by
  by_cases h : mid < m
  · exact .inl ⟨h, ⟨h3, by omega, by omega, by omega, by omega, by omega, by omega, by omega, by omega, by omega⟩⟩
  · exact .inr ⟨by omega, ⟨h3, by omega, by omega, by omega, by omega, by omega, by omega, by omega, by omega, by omega⟩⟩
/-- What the search has found so far. -/
structure Seek (a m b mid s0 r0 s r : Nat) (L : List Int) : Prop where
  span : Span a m b mid s0 r0
  u1 : Up L a m
  u2 : Up L m b
  s0s : s0 ≤ s
  sr : s ≤ r
  rr0 : r ≤ r0
  low : ∀ t, s0 ≤ t → t < s → clsOf L[t]! ≤ clsOf L[mid + m - 1 - t]!
  hig : ∀ t, r ≤ t → t < r0 → clsOf L[mid + m - 1 - t]! < clsOf L[t]!
theorem Seek.start {a m b mid s0 r0 : Nat} {L : List Int} (h : Span a m b mid s0 r0) (u1 : Up L a m) (u2 : Up L m b) : Seek a m b mid s0 r0 s0 r0 L :=
  ⟨h, u1, u2, Nat.le_refl _, h.sr, Nat.le_refl _, fun t h1 h2 => by omega, fun t h1 h2 => by omega⟩
theorem Seek.up {a m b mid s0 r0 s r c : Nat} {L : List Int} (h : Seek a m b mid s0 r0 s r L) (h1 : s ≤ c) (h2 : c < r) (hc : clsOf L[c]! ≤ clsOf L[mid + m - 1 - c]!) : Seek a m b mid s0 r0 (c + 1) r L := by
  obtain ⟨hs, u1, u2, e1, e2, e3, lo, hi⟩ := h
  obtain ⟨k1, k2, k3, k4, k5, k6, k7, k8, k9, k10⟩ := hs
  refine ⟨⟨k1, k2, k3, k4, k5, k6, k7, k8, k9, k10⟩, u1, u2, by omega, by omega, e3, fun t t1 t2 => ?_, hi⟩
  exact Int.le_trans (u1.le (i := t) (j := c) (by omega) (by omega) (by omega)) (Int.le_trans hc (u2.le (by omega) (by omega) (by omega)))
theorem Seek.down {a m b mid s0 r0 s r c : Nat} {L : List Int} (h : Seek a m b mid s0 r0 s r L) (h1 : s ≤ c) (h2 : c < r) (hc : clsOf L[mid + m - 1 - c]! < clsOf L[c]!) : Seek a m b mid s0 r0 s c L := by
  obtain ⟨hs, u1, u2, e1, e2, e3, lo, hi⟩ := h
  obtain ⟨k1, k2, k3, k4, k5, k6, k7, k8, k9, k10⟩ := hs
  refine ⟨⟨k1, k2, k3, k4, k5, k6, k7, k8, k9, k10⟩, u1, u2, e1, h1, by omega, lo, fun t t1 t2 => ?_⟩
  exact Int.lt_of_le_of_lt (u2.le (i := mid + m - 1 - t) (j := mid + m - 1 - c) (by omega) (by omega) (by omega)) (Int.lt_of_lt_of_le hc (u1.le (by omega) (by omega) (by omega)))
/-- What it has found. -/
structure Found (a m b mid s e : Nat) (L : List Int) : Prop where
  u1 : Up L a m
  u2 : Up L m b
  h1 : a ≤ s
  h2 : s ≤ m
  h3 : m ≤ e
  h4 : e ≤ b
  hse : s + e = mid + m
  hm : s ≤ mid
  lo : ∀ c d, a ≤ c → c < s → e ≤ d → d < b → clsOf L[c]! ≤ clsOf L[d]!
  hi : ∀ i j, s ≤ i → i < m → m ≤ j → j < e → clsOf L[j]! < clsOf L[i]!
theorem Seek.found {a m b mid s0 r0 s : Nat} {L : List Int} (h : Seek a m b mid s0 r0 s s L) : Found a m b mid s (mid + m - s) L := by
  obtain ⟨hs, u1, u2, e1, e2, e3, lo, hi⟩ := h
  obtain ⟨k1, k2, k3, k4, k5, k6, k7, k8, k9, k10⟩ := hs
  refine ⟨u1, u2, by omega, by omega, by omega, by omega, by omega, by omega, fun c d c1 c2 d1 d2 => ?_, fun i j i1 i2 j1 j2 => ?_⟩
  · have hx := lo (s - 1) (by omega) (by omega)
    rw [show mid + m - 1 - (s - 1) = mid + m - s by omega] at hx
    exact Int.le_trans (u1.le (i := c) (j := s - 1) (by omega) (by omega) (by omega)) (Int.le_trans hx (u2.le (by omega) (by omega) (by omega)))
  · have hx := hi s (Nat.le_refl _) (by omega)
    exact Int.lt_of_le_of_lt (u2.le (i := j) (j := mid + m - 1 - s) (by omega) (by omega) (by omega)) (Int.lt_of_lt_of_le hx (u1.le (by omega) (by omega) (by omega)))
theorem Found.done {a m b mid s e : Nat} {L L1 L2 L3 : List Int} (h : Found a m b mid s e L) (hb : b ≤ L.length) (hR : Rot s m e L L1) (k2 : Moved a mid L1 L2) (v2 : Up L2 a mid) (k3 : Moved mid b L2 L3) (v3 : Up L3 mid b) : Moved a b L L3 ∧ Up L3 a b :=
  merged h.h1 h.h2 h.h3 h.h4 h.hse h.hm hb h.u1 h.u2 h.lo h.hi hR k2 v2 k3 v3
theorem Found.halves {a m b mid s e : Nat} {L L1 : List Int} (h : Found a m b mid s e L) (hR : Rot s m e L L1) : Up L1 a s ∧ Up L1 s mid ∧ Up L1 mid e ∧ Up L1 e b :=
  hR.halves h.h1 h.h2 h.h3 h.h4 h.hse h.u1 h.u2
theorem Moved.far {a b c : Nat} {L M : List Int} (h : Moved a b L M) {x y : Nat} (hx : b ≤ x) (u : Up L x y) (_ : c = y) : Up M x y := u.same fun i h1 _ => h.out i (by omega)
end Norm
set_option maxHeartbeats 20000000 in
set_option maxRecDepth 100000 in
theorem sym_main {p : Place} {bt : Nat} (hp : Bound p bt) (n cc a m b : Nat) (ha : a + 1 < m) (hmb : m + 1 < b) (hbn : b ≤ n) (hn : n ≤ 1000000)
    (ih : ∀ a' m' b', a' < m' → m' < b' → b' ≤ n → b' - a' < b - a → SymAt p bt n cc a' m' b') : SymAt p bt n cc a m b := by
  intro d w hs hdn u1 u2
  have HS := Lib.hid hs
  have HP := Lib.hid hp
  have HD := Lib.hid hdn
  have IH := Lib.hid ih
  obtain ⟨mid, hmid⟩ : ∃ mid, mid = (a + b) / 2 := ⟨_, rfl⟩
  have hz : ((a : Int) + (b : Int)) / 2 = (mid : Int) := by omega
  obtain ⟨N, hN⟩ : ∃ N, N = mid + m := ⟨_, rfl⟩
  have hNz : (mid : Int) + (m : Int) = (N : Int) := by omega
  obtain ⟨P, hP⟩ : ∃ P, P = N - 1 := ⟨_, rfl⟩
  have hPz : (N : Int) - 1 = (P : Int) := by omega
  have hma : ((m : Int) - (a : Int) == 1) = false := by rw [beq_eq_false_iff_ne]; omega
  have hbm : ((b : Int) - (m : Int) == 1) = false := by rw [beq_eq_false_iff_ne]; omega
  have hm1 : a < mid := by omega
  have hm2 : mid < b := by omega
  have hP1 : P < N := by omega
  have hN1 : N ≤ mid + m := by omega
  have hN2 : mid + m ≤ N := by omega
  have hP2 : N ≤ P + 1 := by omega
  have SP := Lib.hid (Norm.span_any ha hmb (mid := mid) (by omega))
  have HN := Lib.hid hN
  have HPP := Lib.hid hP
  have UU := Lib.hid (And.intro u1 u2)
  clear hs hp hdn ih hmid hN hP u1 u2
  obtain ⟨s0, r0, SK, hcase⟩ : ∃ s0 r0, Hid (Norm.Seek a m b mid s0 r0 s0 r0 d) ∧ ((mid < m ∧ (N : Int) - (b : Int) = (s0 : Int) ∧ mid = r0) ∨ (m ≤ mid ∧ a = s0 ∧ m = r0)) := by
    rcases SP.out with ⟨h1, h2⟩ | ⟨h1, h2⟩
    · have := h2.low
      have := h2.as0
      exact ⟨mid + m - b, mid, Norm.Seek.start h2 UU.out.1 UU.out.2, .inl ⟨h1, by omega, rfl⟩⟩
    · exact ⟨a, m, Norm.Seek.start h2 UU.out.1 UU.out.2, .inr ⟨h1, rfl, rfl⟩⟩
  clear SP UU
  rcases hcase with ⟨hlt, hs0, rfl⟩ | ⟨hlt, rfl, rfl⟩
  · go_enter Try.func70, Try.ntmps70
    go_wp2
    go_loopg [20, 21, 23] (b + 1) (fun gk ss sr _ wr => ∃ (s r : Nat), ss = .int .i64 s ∧ sr = .int .i64 r ∧ a ≤ s ∧ s ≤ r ∧ r ≤ m ∧ r ≤ mid ∧ N ≤ s + b ∧ r - s < gk ∧ Hid (Seg p d wr ∧ Norm.Seek a m b mid s0 mid s r d))
    case atStart =>
      have h1 := SK.out.span
      obtain ⟨k1, k2, k3, k4, k5, k6, k7, k8, k9, k10⟩ := h1
      exact ⟨_, _, rfl, rfl, by omega, by omega, by omega, by omega, by omega, by omega, ⟨HS.out, SK.out⟩⟩
    case round =>
      obtain ⟨s, r, rfl, rfl, has, hsr, hrm, hrmid, hsb, hg, I⟩ := hrel
      by_cases hlt2 : s < r
      · obtain ⟨c, hc⟩ : ∃ c, c = (s + r) / 2 := ⟨_, rfl⟩
        have hcz : ((s : Int) + (r : Int)) / 2 = (c : Int) := by omega
        have e1 : s ≤ c := by omega
        have e2 : c < r := by omega
        obtain ⟨q, hq⟩ : ∃ q, q = P - c := ⟨_, rfl⟩
        have hqz : (P : Int) - (c : Int) = (q : Int) := by omega
        have e3 : q < n := by omega
        obtain ⟨x, hx⟩ : ∃ x, x = d[c]! := ⟨_, rfl⟩
        obtain ⟨y, hy⟩ : ∃ y, y = d[q]! := ⟨_, rfl⟩
        have hyq : y = d[mid + m - 1 - c]! := by rw [hy, hq, HPP.out, HN.out]
        have HX := Lib.hid hx
        have HY := Lib.hid hy
        have HQ := Lib.hid hyq
        have c1 := I.out.1.cell q (by have := HD.out; omega)
        have c2 := I.out.1.cell c (by have := HD.out; omega)
        rw [← hy] at c1
        rw [← hx] at c2
        have K := Lib.hid (HP.out.cmp y x wr.drew I.out.1.drew.2.1)
        have g1 : (0 : Int) ≤ (q : Int) := by omega
        have g2 : (q : Int) < (n : Int) := by omega
        have g3 : (0 : Int) ≤ (c : Int) := by omega
        have g4 : (c : Int) < (n : Int) := by omega
        have g5 : IntKind.i64.wrap (q : Int) = (q : Int) := by rw [IntWalk.i64_in _ (by omega)]
        clear hc hq hx hy hyq
        by_cases hc : clsOf y < clsOf x
        · rw [cmp3_lt hc] at K
          have HC := Lib.hid hc
          clear hc
          go_wp2
          go_region_held3 (fun w' => w'.cell? ⟨p.g, p.o + q, none⟩ = some (.int .i32 y) ∧ w'.cell? ⟨p.g, p.o + c, none⟩ = some (.int .i32 x)) (go_keep) ((go_at_call 33; (with_reducible refine K.out.mono ?_); rintro e w2 ⟨rfl, hb2⟩; have S2 := Lib.hid (I.out.1.next HP.out (below_of_drew hb2)); have d1 := S2.out.cell q (by have := HD.out; omega); have d2 := S2.out.cell c (by have := HD.out; omega); rw [← HY.out] at d1; rw [← HX.out] at d2; clear hb2 c1 c2))
          have J : Hid (Seg p d w2 ∧ Norm.Seek a m b mid s0 mid s c d) := ⟨S2.out, I.out.2.down e1 e2 (by rw [← HQ.out, ← HX.out]; exact HC.out)⟩
          clear I d1 d2
          go_wp2
          go_roundg (r - s)
          case measure => omega
          case rel => exact ⟨s, c, rfl, rfl, by omega, by omega, by omega, by omega, by omega, by omega, J⟩
        · have hv := cmp3_ge (a := clsOf y) (b := clsOf x) (by omega)
          have hv1 := (cmp3_le (clsOf y) (clsOf x)).2
          generalize cmp3 (clsOf y) (clsOf x) = v at K hv hv1
          have HC := Lib.hid hc
          have hvd : decide (v < 0) = false := by rw [decide_eq_false_iff_not]; omega
          clear hc
          go_wp2
          go_region_held3 (fun w' => w'.cell? ⟨p.g, p.o + q, none⟩ = some (.int .i32 y) ∧ w'.cell? ⟨p.g, p.o + c, none⟩ = some (.int .i32 x)) (go_keep) ((go_at_call 33; (with_reducible refine K.out.mono ?_); rintro e w2 ⟨rfl, hb2⟩; have S2 := Lib.hid (I.out.1.next HP.out (below_of_drew hb2)); have d1 := S2.out.cell q (by have := HD.out; omega); have d2 := S2.out.cell c (by have := HD.out; omega); rw [← HY.out] at d1; rw [← HX.out] at d2; clear hb2 c1 c2))
          have J : Hid (Seg p d w2 ∧ Norm.Seek a m b mid s0 mid (c + 1) r d) := ⟨S2.out, I.out.2.up e1 e2 (by have := HC.out; rw [← HQ.out, ← HX.out]; omega)⟩
          clear I d1 d2
          go_wp2
          go_roundg (r - s)
          case measure => omega
          case rel => exact ⟨c + 1, r, by go_num, rfl, by omega, by omega, by omega, by omega, by omega, by omega, J⟩
      · obtain rfl : s = r := by omega
        have hF := I.out.2.found
        obtain ⟨e, he⟩ : ∃ e, e = mid + m - s := ⟨_, rfl⟩
        rw [← he] at hF
        have hez : (N : Int) - (s : Int) = (e : Int) := by omega
        have he1 : N ≤ s + e := by omega
        have he2 : s + e ≤ N := by omega
        have f3 := hF.h3
        have f4 := hF.h4
        have S1 := Lib.hid I.out.1
        have F := Lib.hid hF
        clear he hF I SK HS
        by_cases q1 : s < m
        · by_cases q2 : m < e
          · by_cases q3 : a < s
            · by_cases q4 : e < b
              · skip
                have i1 : (s : Int) < (m : Int) := by omega
                have i2 : (m : Int) < (e : Int) := by omega
                have i3 : (a : Int) < (s : Int) := by omega
                have i4 : (s : Int) < (mid : Int) := by omega
                have i5 : (mid : Int) < (e : Int) := by omega
                have i6 : (e : Int) < (b : Int) := by omega
                have hc1 := rotate_any p d wr S1.out cc (.func (.func 33) #[] #[.pointer (some ⟨bt, 0, none⟩)]) s m e (by omega) (by omega) (by have := HD.out; omega) (by have := HD.out; omega)
                rw [HD.out] at hc1
                go_wp2_with fail
                refine hc1.mono ?_
                rintro e1 w2 ⟨L1, rfl, hR, s2⟩
                have R := Lib.hid hR
                have S2 := Lib.hid s2
                clear hc1 hR s2
                have hl1 : L1.length = n := R.out.len.trans HD.out
                have HL1 := Lib.hid hl1
                have V := Lib.hid (F.out.halves R.out)
                clear hl1
                have hc2 := IH.out a s mid (by omega) (by omega) (by omega) (by omega) L1 w2 S2.out HL1.out V.out.1 V.out.2.1
                go_wp2_with fail
                refine hc2.mono ?_
                rintro e2 w3 ⟨L2, rfl, ⟨k2, v2⟩, s3⟩
                have K2 := Lib.hid k2
                have V2 := Lib.hid v2
                have S3 := Lib.hid s3
                clear hc2 k2 v2 s3
                have hc3 := IH.out mid e b (by omega) (by omega) (by omega) (by omega) L2 w3 S3.out (K2.out.len.trans HL1.out) (K2.out.far (Nat.le_refl _) V.out.2.2.1 rfl) (K2.out.far (by omega) V.out.2.2.2 rfl)
                go_wp2_with fail
                refine hc3.mono ?_
                rintro e3 w4 ⟨L3, rfl, ⟨k3, v3⟩, s4⟩
                have K3 := Lib.hid k3
                have V3 := Lib.hid v3
                have S4 := Lib.hid s4
                clear hc3 k3 v3 s4
                go_wp2
                go_end0
                exact ⟨L3, rfl, F.out.done (by have := HD.out; omega) R.out K2.out V2.out K3.out V3.out, S4.out⟩
              · skip
                have i1 : (s : Int) < (m : Int) := by omega
                have i2 : (m : Int) < (e : Int) := by omega
                have i3 : (a : Int) < (s : Int) := by omega
                have i4 : (s : Int) < (mid : Int) := by omega
                have i5 : (mid : Int) < (e : Int) := by omega
                have i6 : ¬ (e : Int) < (b : Int) := by omega
                have hc1 := rotate_any p d wr S1.out cc (.func (.func 33) #[] #[.pointer (some ⟨bt, 0, none⟩)]) s m e (by omega) (by omega) (by have := HD.out; omega) (by have := HD.out; omega)
                rw [HD.out] at hc1
                go_wp2_with fail
                refine hc1.mono ?_
                rintro e1 w2 ⟨L1, rfl, hR, s2⟩
                have R := Lib.hid hR
                have S2 := Lib.hid s2
                clear hc1 hR s2
                have hl1 : L1.length = n := R.out.len.trans HD.out
                have HL1 := Lib.hid hl1
                have V := Lib.hid (F.out.halves R.out)
                clear hl1
                have hc2 := IH.out a s mid (by omega) (by omega) (by omega) (by omega) L1 w2 S2.out HL1.out V.out.1 V.out.2.1
                go_wp2_with fail
                refine hc2.mono ?_
                rintro e2 w3 ⟨L2, rfl, ⟨k2, v2⟩, s3⟩
                have K2 := Lib.hid k2
                have V2 := Lib.hid v2
                have S3 := Lib.hid s3
                clear hc2 k2 v2 s3
                have K3 := Lib.hid (Norm.Moved.refl mid b L2)
                have V3 : Hid (Norm.Up L2 mid b) := Lib.hid ((K2.out.far (Nat.le_refl _) V.out.2.2.1 rfl).part (Nat.le_refl _) (by omega))
                have S4 := S3
                go_wp2
                go_end0
                exact ⟨L2, rfl, F.out.done (by have := HD.out; omega) R.out K2.out V2.out K3.out V3.out, S4.out⟩
            · by_cases q4 : e < b
              · skip
                have i1 : (s : Int) < (m : Int) := by omega
                have i2 : (m : Int) < (e : Int) := by omega
                have i3 : ¬ (a : Int) < (s : Int) := by omega
                have i5 : (mid : Int) < (e : Int) := by omega
                have i6 : (e : Int) < (b : Int) := by omega
                have hc1 := rotate_any p d wr S1.out cc (.func (.func 33) #[] #[.pointer (some ⟨bt, 0, none⟩)]) s m e (by omega) (by omega) (by have := HD.out; omega) (by have := HD.out; omega)
                rw [HD.out] at hc1
                go_wp2_with fail
                refine hc1.mono ?_
                rintro e1 w2 ⟨L1, rfl, hR, s2⟩
                have R := Lib.hid hR
                have S2 := Lib.hid s2
                clear hc1 hR s2
                have hl1 : L1.length = n := R.out.len.trans HD.out
                have HL1 := Lib.hid hl1
                have V := Lib.hid (F.out.halves R.out)
                clear hl1
                have K2 := Lib.hid (Norm.Moved.refl a mid L1)
                have V2 : Hid (Norm.Up L1 a mid) := Lib.hid (by rw [show a = s by omega]; exact V.out.2.1)
                have S3 := S2
                have hc3 := IH.out mid e b (by omega) (by omega) (by omega) (by omega) L1 w2 S3.out (K2.out.len.trans HL1.out) (K2.out.far (Nat.le_refl _) V.out.2.2.1 rfl) (K2.out.far (by omega) V.out.2.2.2 rfl)
                go_wp2_with fail
                refine hc3.mono ?_
                rintro e3 w4 ⟨L3, rfl, ⟨k3, v3⟩, s4⟩
                have K3 := Lib.hid k3
                have V3 := Lib.hid v3
                have S4 := Lib.hid s4
                clear hc3 k3 v3 s4
                go_wp2
                go_end0
                exact ⟨L3, rfl, F.out.done (by have := HD.out; omega) R.out K2.out V2.out K3.out V3.out, S4.out⟩
              · skip
                have i1 : (s : Int) < (m : Int) := by omega
                have i2 : (m : Int) < (e : Int) := by omega
                have i3 : ¬ (a : Int) < (s : Int) := by omega
                have i5 : (mid : Int) < (e : Int) := by omega
                have i6 : ¬ (e : Int) < (b : Int) := by omega
                have hc1 := rotate_any p d wr S1.out cc (.func (.func 33) #[] #[.pointer (some ⟨bt, 0, none⟩)]) s m e (by omega) (by omega) (by have := HD.out; omega) (by have := HD.out; omega)
                rw [HD.out] at hc1
                go_wp2_with fail
                refine hc1.mono ?_
                rintro e1 w2 ⟨L1, rfl, hR, s2⟩
                have R := Lib.hid hR
                have S2 := Lib.hid s2
                clear hc1 hR s2
                have hl1 : L1.length = n := R.out.len.trans HD.out
                have HL1 := Lib.hid hl1
                have V := Lib.hid (F.out.halves R.out)
                clear hl1
                have K2 := Lib.hid (Norm.Moved.refl a mid L1)
                have V2 : Hid (Norm.Up L1 a mid) := Lib.hid (by rw [show a = s by omega]; exact V.out.2.1)
                have S3 := S2
                have K3 := Lib.hid (Norm.Moved.refl mid b L1)
                have V3 : Hid (Norm.Up L1 mid b) := Lib.hid ((K2.out.far (Nat.le_refl _) V.out.2.2.1 rfl).part (Nat.le_refl _) (by omega))
                have S4 := S3
                go_wp2
                go_end0
                exact ⟨L1, rfl, F.out.done (by have := HD.out; omega) R.out K2.out V2.out K3.out V3.out, S4.out⟩
          · skip
            have i1 : (s : Int) < (m : Int) := by omega
            have i2 : ¬ (m : Int) < (e : Int) := by omega
            have i3 : (a : Int) < (s : Int) := by omega
            have i4 : ¬ (s : Int) < (mid : Int) := by omega
            have i5 : (mid : Int) < (e : Int) := by omega
            have i6 : (e : Int) < (b : Int) := by omega
            have R := Lib.hid (Norm.Rot.none (a := s) (m := m) (b := e) d (by omega) (by omega) (by omega))
            have S2 := S1
            have hl1 : d.length = n := R.out.len.trans HD.out
            have HL1 := Lib.hid hl1
            have V := Lib.hid (F.out.halves R.out)
            clear hl1
            have K2 := Lib.hid (Norm.Moved.refl a mid d)
            have V2 : Hid (Norm.Up d a mid) := Lib.hid (V.out.1.part (Nat.le_refl _) (by omega))
            have S3 := S2
            have hc3 := IH.out mid e b (by omega) (by omega) (by omega) (by omega) d wr S3.out (K2.out.len.trans HL1.out) (K2.out.far (Nat.le_refl _) V.out.2.2.1 rfl) (K2.out.far (by omega) V.out.2.2.2 rfl)
            go_wp2_with fail
            refine hc3.mono ?_
            rintro e3 w4 ⟨L3, rfl, ⟨k3, v3⟩, s4⟩
            have K3 := Lib.hid k3
            have V3 := Lib.hid v3
            have S4 := Lib.hid s4
            clear hc3 k3 v3 s4
            go_wp2
            go_end0
            exact ⟨L3, rfl, F.out.done (by have := HD.out; omega) R.out K2.out V2.out K3.out V3.out, S4.out⟩
        · exact absurd (show s < m by omega) q1
  · have hl1 : ¬ mid < m := by omega
    go_enter Try.func70, Try.ntmps70
    go_wp2
    go_loopg [20, 21, 23] (b + 1) (fun gk ss sr _ wr => ∃ (s r : Nat), ss = .int .i64 s ∧ sr = .int .i64 r ∧ a ≤ s ∧ s ≤ r ∧ r ≤ m ∧ r ≤ mid ∧ N ≤ s + b ∧ r - s < gk ∧ Hid (Seg p d wr ∧ Norm.Seek a m b mid a m s r d))
    case atStart =>
      have h1 := SK.out.span
      obtain ⟨k1, k2, k3, k4, k5, k6, k7, k8, k9, k10⟩ := h1
      exact ⟨_, _, rfl, rfl, by omega, by omega, by omega, by omega, by omega, by omega, ⟨HS.out, SK.out⟩⟩
    case round =>
      obtain ⟨s, r, rfl, rfl, has, hsr, hrm, hrmid, hsb, hg, I⟩ := hrel
      by_cases hlt2 : s < r
      · obtain ⟨c, hc⟩ : ∃ c, c = (s + r) / 2 := ⟨_, rfl⟩
        have hcz : ((s : Int) + (r : Int)) / 2 = (c : Int) := by omega
        have e1 : s ≤ c := by omega
        have e2 : c < r := by omega
        obtain ⟨q, hq⟩ : ∃ q, q = P - c := ⟨_, rfl⟩
        have hqz : (P : Int) - (c : Int) = (q : Int) := by omega
        have e3 : q < n := by omega
        obtain ⟨x, hx⟩ : ∃ x, x = d[c]! := ⟨_, rfl⟩
        obtain ⟨y, hy⟩ : ∃ y, y = d[q]! := ⟨_, rfl⟩
        have hyq : y = d[mid + m - 1 - c]! := by rw [hy, hq, HPP.out, HN.out]
        have HX := Lib.hid hx
        have HY := Lib.hid hy
        have HQ := Lib.hid hyq
        have c1 := I.out.1.cell q (by have := HD.out; omega)
        have c2 := I.out.1.cell c (by have := HD.out; omega)
        rw [← hy] at c1
        rw [← hx] at c2
        have K := Lib.hid (HP.out.cmp y x wr.drew I.out.1.drew.2.1)
        have g1 : (0 : Int) ≤ (q : Int) := by omega
        have g2 : (q : Int) < (n : Int) := by omega
        have g3 : (0 : Int) ≤ (c : Int) := by omega
        have g4 : (c : Int) < (n : Int) := by omega
        have g5 : IntKind.i64.wrap (q : Int) = (q : Int) := by rw [IntWalk.i64_in _ (by omega)]
        clear hc hq hx hy hyq
        by_cases hc : clsOf y < clsOf x
        · rw [cmp3_lt hc] at K
          have HC := Lib.hid hc
          clear hc
          go_wp2
          go_region_held3 (fun w' => w'.cell? ⟨p.g, p.o + q, none⟩ = some (.int .i32 y) ∧ w'.cell? ⟨p.g, p.o + c, none⟩ = some (.int .i32 x)) (go_keep) ((go_at_call 33; (with_reducible refine K.out.mono ?_); rintro e w2 ⟨rfl, hb2⟩; have S2 := Lib.hid (I.out.1.next HP.out (below_of_drew hb2)); have d1 := S2.out.cell q (by have := HD.out; omega); have d2 := S2.out.cell c (by have := HD.out; omega); rw [← HY.out] at d1; rw [← HX.out] at d2; clear hb2 c1 c2))
          have J : Hid (Seg p d w2 ∧ Norm.Seek a m b mid a m s c d) := ⟨S2.out, I.out.2.down e1 e2 (by rw [← HQ.out, ← HX.out]; exact HC.out)⟩
          clear I d1 d2
          go_wp2
          go_roundg (r - s)
          case measure => omega
          case rel => exact ⟨s, c, rfl, rfl, by omega, by omega, by omega, by omega, by omega, by omega, J⟩
        · have hv := cmp3_ge (a := clsOf y) (b := clsOf x) (by omega)
          have hv1 := (cmp3_le (clsOf y) (clsOf x)).2
          generalize cmp3 (clsOf y) (clsOf x) = v at K hv hv1
          have HC := Lib.hid hc
          have hvd : decide (v < 0) = false := by rw [decide_eq_false_iff_not]; omega
          clear hc
          go_wp2
          go_region_held3 (fun w' => w'.cell? ⟨p.g, p.o + q, none⟩ = some (.int .i32 y) ∧ w'.cell? ⟨p.g, p.o + c, none⟩ = some (.int .i32 x)) (go_keep) ((go_at_call 33; (with_reducible refine K.out.mono ?_); rintro e w2 ⟨rfl, hb2⟩; have S2 := Lib.hid (I.out.1.next HP.out (below_of_drew hb2)); have d1 := S2.out.cell q (by have := HD.out; omega); have d2 := S2.out.cell c (by have := HD.out; omega); rw [← HY.out] at d1; rw [← HX.out] at d2; clear hb2 c1 c2))
          have J : Hid (Seg p d w2 ∧ Norm.Seek a m b mid a m (c + 1) r d) := ⟨S2.out, I.out.2.up e1 e2 (by have := HC.out; rw [← HQ.out, ← HX.out]; omega)⟩
          clear I d1 d2
          go_wp2
          go_roundg (r - s)
          case measure => omega
          case rel => exact ⟨c + 1, r, by go_num, rfl, by omega, by omega, by omega, by omega, by omega, by omega, J⟩
      · obtain rfl : s = r := by omega
        have hF := I.out.2.found
        obtain ⟨e, he⟩ : ∃ e, e = mid + m - s := ⟨_, rfl⟩
        rw [← he] at hF
        have hez : (N : Int) - (s : Int) = (e : Int) := by omega
        have he1 : N ≤ s + e := by omega
        have he2 : s + e ≤ N := by omega
        have f3 := hF.h3
        have f4 := hF.h4
        have S1 := Lib.hid I.out.1
        have F := Lib.hid hF
        clear he hF I SK HS
        by_cases q1 : s < m
        · by_cases q2 : m < e
          · by_cases q3 : a < s
            · by_cases q4 : e < b
              · skip
                have i1 : (s : Int) < (m : Int) := by omega
                have i2 : (m : Int) < (e : Int) := by omega
                have i3 : (a : Int) < (s : Int) := by omega
                have i4 : (s : Int) < (mid : Int) := by omega
                have i5 : (mid : Int) < (e : Int) := by omega
                have i6 : (e : Int) < (b : Int) := by omega
                have hc1 := rotate_any p d wr S1.out cc (.func (.func 33) #[] #[.pointer (some ⟨bt, 0, none⟩)]) s m e (by omega) (by omega) (by have := HD.out; omega) (by have := HD.out; omega)
                rw [HD.out] at hc1
                go_wp2_with fail
                refine hc1.mono ?_
                rintro e1 w2 ⟨L1, rfl, hR, s2⟩
                have R := Lib.hid hR
                have S2 := Lib.hid s2
                clear hc1 hR s2
                have hl1 : L1.length = n := R.out.len.trans HD.out
                have HL1 := Lib.hid hl1
                have V := Lib.hid (F.out.halves R.out)
                clear hl1
                have hc2 := IH.out a s mid (by omega) (by omega) (by omega) (by omega) L1 w2 S2.out HL1.out V.out.1 V.out.2.1
                go_wp2_with fail
                refine hc2.mono ?_
                rintro e2 w3 ⟨L2, rfl, ⟨k2, v2⟩, s3⟩
                have K2 := Lib.hid k2
                have V2 := Lib.hid v2
                have S3 := Lib.hid s3
                clear hc2 k2 v2 s3
                have hc3 := IH.out mid e b (by omega) (by omega) (by omega) (by omega) L2 w3 S3.out (K2.out.len.trans HL1.out) (K2.out.far (Nat.le_refl _) V.out.2.2.1 rfl) (K2.out.far (by omega) V.out.2.2.2 rfl)
                go_wp2_with fail
                refine hc3.mono ?_
                rintro e3 w4 ⟨L3, rfl, ⟨k3, v3⟩, s4⟩
                have K3 := Lib.hid k3
                have V3 := Lib.hid v3
                have S4 := Lib.hid s4
                clear hc3 k3 v3 s4
                go_wp2
                go_end0
                exact ⟨L3, rfl, F.out.done (by have := HD.out; omega) R.out K2.out V2.out K3.out V3.out, S4.out⟩
              · skip
                have i1 : (s : Int) < (m : Int) := by omega
                have i2 : (m : Int) < (e : Int) := by omega
                have i3 : (a : Int) < (s : Int) := by omega
                have i4 : (s : Int) < (mid : Int) := by omega
                have i5 : (mid : Int) < (e : Int) := by omega
                have i6 : ¬ (e : Int) < (b : Int) := by omega
                have hc1 := rotate_any p d wr S1.out cc (.func (.func 33) #[] #[.pointer (some ⟨bt, 0, none⟩)]) s m e (by omega) (by omega) (by have := HD.out; omega) (by have := HD.out; omega)
                rw [HD.out] at hc1
                go_wp2_with fail
                refine hc1.mono ?_
                rintro e1 w2 ⟨L1, rfl, hR, s2⟩
                have R := Lib.hid hR
                have S2 := Lib.hid s2
                clear hc1 hR s2
                have hl1 : L1.length = n := R.out.len.trans HD.out
                have HL1 := Lib.hid hl1
                have V := Lib.hid (F.out.halves R.out)
                clear hl1
                have hc2 := IH.out a s mid (by omega) (by omega) (by omega) (by omega) L1 w2 S2.out HL1.out V.out.1 V.out.2.1
                go_wp2_with fail
                refine hc2.mono ?_
                rintro e2 w3 ⟨L2, rfl, ⟨k2, v2⟩, s3⟩
                have K2 := Lib.hid k2
                have V2 := Lib.hid v2
                have S3 := Lib.hid s3
                clear hc2 k2 v2 s3
                have K3 := Lib.hid (Norm.Moved.refl mid b L2)
                have V3 : Hid (Norm.Up L2 mid b) := Lib.hid ((K2.out.far (Nat.le_refl _) V.out.2.2.1 rfl).part (Nat.le_refl _) (by omega))
                have S4 := S3
                go_wp2
                go_end0
                exact ⟨L2, rfl, F.out.done (by have := HD.out; omega) R.out K2.out V2.out K3.out V3.out, S4.out⟩
            · by_cases q4 : e < b
              · skip
                have i1 : (s : Int) < (m : Int) := by omega
                have i2 : (m : Int) < (e : Int) := by omega
                have i3 : ¬ (a : Int) < (s : Int) := by omega
                have i5 : (mid : Int) < (e : Int) := by omega
                have i6 : (e : Int) < (b : Int) := by omega
                have hc1 := rotate_any p d wr S1.out cc (.func (.func 33) #[] #[.pointer (some ⟨bt, 0, none⟩)]) s m e (by omega) (by omega) (by have := HD.out; omega) (by have := HD.out; omega)
                rw [HD.out] at hc1
                go_wp2_with fail
                refine hc1.mono ?_
                rintro e1 w2 ⟨L1, rfl, hR, s2⟩
                have R := Lib.hid hR
                have S2 := Lib.hid s2
                clear hc1 hR s2
                have hl1 : L1.length = n := R.out.len.trans HD.out
                have HL1 := Lib.hid hl1
                have V := Lib.hid (F.out.halves R.out)
                clear hl1
                have K2 := Lib.hid (Norm.Moved.refl a mid L1)
                have V2 : Hid (Norm.Up L1 a mid) := Lib.hid (by rw [show a = s by omega]; exact V.out.2.1)
                have S3 := S2
                have hc3 := IH.out mid e b (by omega) (by omega) (by omega) (by omega) L1 w2 S3.out (K2.out.len.trans HL1.out) (K2.out.far (Nat.le_refl _) V.out.2.2.1 rfl) (K2.out.far (by omega) V.out.2.2.2 rfl)
                go_wp2_with fail
                refine hc3.mono ?_
                rintro e3 w4 ⟨L3, rfl, ⟨k3, v3⟩, s4⟩
                have K3 := Lib.hid k3
                have V3 := Lib.hid v3
                have S4 := Lib.hid s4
                clear hc3 k3 v3 s4
                go_wp2
                go_end0
                exact ⟨L3, rfl, F.out.done (by have := HD.out; omega) R.out K2.out V2.out K3.out V3.out, S4.out⟩
              · skip
                have i1 : (s : Int) < (m : Int) := by omega
                have i2 : (m : Int) < (e : Int) := by omega
                have i3 : ¬ (a : Int) < (s : Int) := by omega
                have i5 : (mid : Int) < (e : Int) := by omega
                have i6 : ¬ (e : Int) < (b : Int) := by omega
                have hc1 := rotate_any p d wr S1.out cc (.func (.func 33) #[] #[.pointer (some ⟨bt, 0, none⟩)]) s m e (by omega) (by omega) (by have := HD.out; omega) (by have := HD.out; omega)
                rw [HD.out] at hc1
                go_wp2_with fail
                refine hc1.mono ?_
                rintro e1 w2 ⟨L1, rfl, hR, s2⟩
                have R := Lib.hid hR
                have S2 := Lib.hid s2
                clear hc1 hR s2
                have hl1 : L1.length = n := R.out.len.trans HD.out
                have HL1 := Lib.hid hl1
                have V := Lib.hid (F.out.halves R.out)
                clear hl1
                have K2 := Lib.hid (Norm.Moved.refl a mid L1)
                have V2 : Hid (Norm.Up L1 a mid) := Lib.hid (by rw [show a = s by omega]; exact V.out.2.1)
                have S3 := S2
                have K3 := Lib.hid (Norm.Moved.refl mid b L1)
                have V3 : Hid (Norm.Up L1 mid b) := Lib.hid ((K2.out.far (Nat.le_refl _) V.out.2.2.1 rfl).part (Nat.le_refl _) (by omega))
                have S4 := S3
                go_wp2
                go_end0
                exact ⟨L1, rfl, F.out.done (by have := HD.out; omega) R.out K2.out V2.out K3.out V3.out, S4.out⟩
          · exact absurd (show m < e by omega) q2
        · by_cases q2 : s < mid
          · skip
            have i1 : ¬ (s : Int) < (m : Int) := by omega
            have i3 : (a : Int) < (s : Int) := by omega
            have i4 : (s : Int) < (mid : Int) := by omega
            have i5 : ¬ (mid : Int) < (e : Int) := by omega
            have R := Lib.hid (Norm.Rot.none (a := s) (m := m) (b := e) d (by omega) (by omega) (by omega))
            have S2 := S1
            have hl1 : d.length = n := R.out.len.trans HD.out
            have HL1 := Lib.hid hl1
            have V := Lib.hid (F.out.halves R.out)
            clear hl1
            have hc2 := IH.out a s mid (by omega) (by omega) (by omega) (by omega) d wr S2.out HL1.out V.out.1 V.out.2.1
            go_wp2_with fail
            refine hc2.mono ?_
            rintro e2 w3 ⟨L2, rfl, ⟨k2, v2⟩, s3⟩
            have K2 := Lib.hid k2
            have V2 := Lib.hid v2
            have S3 := Lib.hid s3
            clear hc2 k2 v2 s3
            have K3 := Lib.hid (Norm.Moved.refl mid b L2)
            have V3 : Hid (Norm.Up L2 mid b) := Lib.hid (K2.out.far (Nat.le_refl _) (by rw [show mid = e by omega]; exact V.out.2.2.2) rfl)
            have S4 := S3
            go_wp2
            go_end0
            exact ⟨L2, rfl, F.out.done (by have := HD.out; omega) R.out K2.out V2.out K3.out V3.out, S4.out⟩
          · skip
            have i1 : ¬ (s : Int) < (m : Int) := by omega
            have i3 : (a : Int) < (s : Int) := by omega
            have i4 : ¬ (s : Int) < (mid : Int) := by omega
            have i5 : ¬ (mid : Int) < (e : Int) := by omega
            have R := Lib.hid (Norm.Rot.none (a := s) (m := m) (b := e) d (by omega) (by omega) (by omega))
            have S2 := S1
            have hl1 : d.length = n := R.out.len.trans HD.out
            have HL1 := Lib.hid hl1
            have V := Lib.hid (F.out.halves R.out)
            clear hl1
            have K2 := Lib.hid (Norm.Moved.refl a mid d)
            have V2 : Hid (Norm.Up d a mid) := Lib.hid (V.out.1.part (Nat.le_refl _) (by omega))
            have S3 := S2
            have K3 := Lib.hid (Norm.Moved.refl mid b d)
            have V3 : Hid (Norm.Up d mid b) := Lib.hid (K2.out.far (Nat.le_refl _) (by rw [show mid = e by omega]; exact V.out.2.2.2) rfl)
            have S4 := S3
            go_wp2
            go_end0
            exact ⟨d, rfl, F.out.done (by have := HD.out; omega) R.out K2.out V2.out K3.out V3.out, S4.out⟩
theorem sym_any {p : Place} {bt : Nat} (hp : Bound p bt) (n cc : Nat) (hn : n ≤ 1000000) : ∀ (k a m b : Nat), b - a ≤ k → a < m → m < b → b ≤ n → SymAt p bt n cc a m b
  | 0, a, m, b, h, h1, h2, _ => by omega
  | k + 1, a, m, b, h, h1, h2, h3 => by
    by_cases c1 : m = a + 1
    · subst c1; exact sym_fst hp n cc a b h2 h3 hn
    · by_cases c2 : b = m + 1
      · subst c2; exact sym_snd hp n cc a m (by omega) h3 hn
      · exact sym_main hp n cc a m b (by omega) (by omega) h3 hn fun a' m' b' q1 q2 q3 q4 => sym_any hp n cc hn k a' m' b' (by omega) q1 q2 q3
end Go.Proofs.Ytpmcmbkilcpleaa
