/-
  Proved here: the document's own 'number' of layer 5: a number in digits that bytes begin with. Conditions: as they stand in each.
-/
import Derived.Test.YtkgikkdgfhonlaaPunyEnc
import Derived.Test.YtkgikkdgfhonlaaUtfEight
namespace Go.Proofs.Ytkgikkdgfhonlaa
open Go.RowKit Utf
namespace Puny
def byteZ (c : UInt8) : Int := (c.toNat : Int)
/-- A number in digits that bytes begin with, and how many these are. -/
def numB (b : Int) : List UInt8 → Int → Int → Int → Nat → Option (Int × Nat)
  | [], _, _, _, _ => none
  | c :: l, k, w, s, u => match valOf (byteZ c) with
    | none => none
    | some d => if limit < w ∨ limit < s + d * w then none else if d < thr k b then some (s + d * w, u + 1) else numB b l (k + 36) (w * (36 - thr k b)) (s + d * w) (u + 1)
theorem valOf_bd {n d : Int} (h : valOf n = some d) : 0 ≤ d ∧ d ≤ 35 := by
  unfold valOf at h
  split at h
  · have := Option.some.inj h; omega
  · split at h
    · have := Option.some.inj h; omega
    · split at h
      · have := Option.some.inj h; omega
      · cases h
def numAns (o : Option (Int × Nat)) : Value := match o with | none => .tuple #[.int .i64 0, .int .i64 0] | some (x, u) => .tuple #[.int .i64 x, .int .i64 u]
end Puny
set_option maxHeartbeats 4000000 in
set_option maxRecDepth 100000 in
theorem number5_any (s : ByteArray) (b : Int) (w : World) (hs : s.size ≤ 100000) (hb : 0 ≤ b ∧ b ≤ 100000000000) :
    Calls Try.prog 34 #[.string s, .int .i64 b] w fun e w' => e = .returned (Puny.numAns (Puny.numB b s.data.toList 36 1 0 0)) ∧ w = w' := by
  obtain ⟨b0, b1⟩ := hb
  go_enter Try.func34, Try.ntmps34
  go_wp2
  go_loopg [6, 7, 8, 9, 10, 11] (s.size + 1) (fun gk s6 s7 s8 _ _ _ wr => ∃ (k : Nat) (sum x : Int), s6 = .int .i64 sum ∧ s7 = .int .i64 x ∧ s8 = .int .i64 k ∧ k ≤ s.size ∧ 0 ≤ sum ∧ sum ≤ 2147483647 ∧ 1 ≤ x ∧ x ≤ 75161927645 ∧ s.size - k < gk ∧ Hid (Puny.numB b s.data.toList 36 1 0 0 = Puny.numB b (s.data.toList.drop k) (36 * ((k : Int) + 1)) x sum k ∧ w = wr))
  case atStart => exact ⟨0, 0, 1, rfl, rfl, rfl, Nat.zero_le _, by omega, by omega, by omega, by omega, by omega, ⟨rfl, rfl⟩⟩
  case round =>
    obtain ⟨k, sum, x, rfl, rfl, rfl, hk, hs0, hs1, hx0, hx1, hg, I⟩ := hrel
    by_cases hlt : k < s.size
    · have hkz : (k : Int) < (s.size : Int) := by omega
      have hd := drop_next s k hlt
      have hub : s[k].toNat < 256 := s[k].toNat_lt
      have KV := Lib.hid (value5_any (s[k].toNat : Int) wr (by omega))
      have hN := I.out.1
      rw [hd, Puny.numB, show Puny.byteZ s[k] = (s[k].toNat : Int) from rfl] at hN
      have HW := Lib.hid I.out.2
      clear I hd hub
      cases hv : Puny.valOf (s[k].toNat : Int) with
      | none =>
        rw [hv] at KV hN
        simp only at hN
        have R := Lib.hid hN
        clear hv hN
        go_wp2_with fail
        refine KV.out.mono ?_
        rintro e w1 ⟨rfl, rfl⟩
        simp only [Option.getD_none, Option.isSome_none]
        go_wp2
        go_ret2
        exact ⟨by rw [R.out]; rfl, HW.out⟩
      | some d =>
        obtain ⟨d0, d1⟩ := Puny.valOf_bd hv
        rw [hv] at KV hN
        simp only at hN
        clear hv
        by_cases hxl : 2147483647 < x
        · rw [if_pos (.inl hxl)] at hN
          have R := Lib.hid hN
          clear hN
          go_wp2_with fail
          refine KV.out.mono ?_
          rintro e w1 ⟨rfl, rfl⟩
          simp only [Option.getD_some, Option.isSome_some]
          go_wp2
          go_ret2
          exact ⟨by rw [R.out]; rfl, HW.out⟩
        · have hxl' : x ≤ 2147483647 := by omega
          have hP0 : 0 ≤ d * x := Int.mul_nonneg d0 (by omega)
          have hP1 : d * x ≤ 75161927645 := by
            have a1 : d * x ≤ 35 * x := Int.mul_le_mul_of_nonneg_right d1 (by omega)
            omega
          obtain ⟨P, hP⟩ : ∃ P, d * x = P := ⟨_, rfl⟩
          rw [hP] at hP0 hP1 hN
          by_cases hsl : 2147483647 < sum + P
          · rw [if_pos (.inr hsl)] at hN
            have R := Lib.hid hN
            clear hN
            go_wp2_with fail
            refine KV.out.mono ?_
            rintro e w1 ⟨rfl, rfl⟩
            simp only [Option.getD_some, Option.isSome_some]
            go_wp2
            go_ret2
            exact ⟨by rw [R.out]; rfl, HW.out⟩
          · rw [if_neg (show ¬ (Puny.limit < x ∨ Puny.limit < sum + P) by unfold Puny.limit; omega)] at hN
            have KT := Lib.hid (fun W => thr5_any (36 * ((k : Int) + 1)) b W (by omega))
            have htb := Puny.thr_bd (36 * ((k : Int) + 1)) b
            generalize Puny.thr (36 * ((k : Int) + 1)) b = t at KT htb hN
            obtain ⟨t0, t1⟩ := htb
            have hsl' : sum + P ≤ 2147483647 := by omega
            by_cases hdt : d < t
            · rw [if_pos hdt] at hN
              have R := Lib.hid hN
              clear hN hxl hsl
              go_wp2_with fail
              refine KV.out.mono ?_
              rintro e w1 ⟨rfl, rfl⟩
              simp only [Option.getD_some, Option.isSome_some]
              go_wp2_with fail
              refine (KT.out _).mono ?_
              rintro e w2 ⟨rfl, rfl⟩
              go_wp2
              go_ret2
              exact ⟨by rw [R.out]; rfl, HW.out⟩
            · rw [if_neg hdt] at hN
              have hQ0 : 1 ≤ x * (36 - t) := Int.mul_pos (by omega) (by omega)
              have hQ1 : x * (36 - t) ≤ 75161927645 := by
                have a1 : x * (36 - t) ≤ x * 35 := Int.mul_le_mul_of_nonneg_left (by omega) (by omega)
                omega
              obtain ⟨Q, hQ⟩ : ∃ Q, x * (36 - t) = Q := ⟨_, rfl⟩
              rw [hQ] at hQ0 hQ1 hN
              have R : Hid (Puny.numB b s.data.toList 36 1 0 0 = Puny.numB b (s.data.toList.drop (k + 1)) (36 * (((k + 1 : Nat) : Int) + 1)) Q (sum + P) (k + 1) ∧ w = wr) := ⟨by rw [hN, show 36 * ((k : Int) + 1) + 36 = 36 * (((k + 1 : Nat) : Int) + 1) by omega], HW.out⟩
              clear hN hxl hsl
              go_wp2_with fail
              refine KV.out.mono ?_
              rintro e w1 ⟨rfl, rfl⟩
              simp only [Option.getD_some, Option.isSome_some]
              go_wp2_with fail
              refine (KT.out _).mono ?_
              rintro e w2 ⟨rfl, rfl⟩
              go_wp2
              go_roundg (s.size - k)
              case measure => omega
              case rel => exact ⟨k + 1, sum + P, Q, rfl, rfl, by go_num, by omega, by omega, by omega, by omega, by omega, by omega, R⟩
    · obtain rfl : k = s.size := by omega
      have R := Lib.hid (show Puny.numB b s.data.toList 36 1 0 0 = none by rw [I.out.1, List.drop_of_length_le (by simp)]; rfl)
      go_wp2
      go_ret2
      exact ⟨by rw [R.out]; rfl, I.out.2⟩
end Go.Proofs.Ytkgikkdgfhonlaa
