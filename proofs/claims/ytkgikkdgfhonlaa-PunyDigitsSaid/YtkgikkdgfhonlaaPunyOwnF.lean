/-
  Proved here: puny's halves and read. Conditions: as they stand in each.
-/
import Derived.Test.YtkgikkdgfhonlaaPunyOwnA
import Derived.Test.YtkgikkdgfhonlaaPunyBackB
import Derived.BigRegion
namespace Go.Proofs.Ytkgikkdgfhonlaa
open Go.RowKit Utf
namespace Puny
theorem dash_last {bs : List UInt8} {k : Nat} (h : k < bs.length) (h1 : (bs[k]).toNat = 45) (h2 : ∀ c ∈ bs.drop (k + 1), c.toNat ≠ 45) : dashAt bs = k := by
  have e : bs = bs.take k ++ (bs[k] :: bs.drop (k + 1)) := by rw [← List.drop_eq_getElem_cons h, List.take_append_drop]
  unfold dashAt
  rw [e, dashFrom_append, dashFrom, dashFrom_no _ _ _ h2, if_pos h1, List.length_take]
  omega
theorem dash_none {bs : List UInt8} (h : ∀ c ∈ bs, c.toNat ≠ 45) : dashAt bs = 0 := dashFrom_no _ _ _ h
end Puny
/-- The last dash. -/
def LastPost (bs : List UInt8) (w : World) (e : Ending) (w' : World) : Prop := ∃ r : Int, e = .returned (.int .i64 r) ∧ w = w' ∧ ((r ≤ 0 ∧ Puny.dashAt bs = 0) ∨ (0 < r ∧ r = Puny.dashAt bs))
set_option maxHeartbeats 1000000 in
set_option maxRecDepth 100000 in
theorem lastByte_any (s : ByteArray) (w : World) (hs : s.size ≤ 1000000) : Calls Try.prog 46 #[.string s, .int .u8 45] w (LastPost s.data.toList w) := by
  go_enter Try.func46, Try.ntmps46
  go_wp2
  go_loopg [5] (s.size + 1) (fun gk i wr => ∃ k : Nat, k ≤ s.size ∧ i = .int .i64 ((k : Int) - 1) ∧ k < gk ∧ Hid ((∀ c ∈ s.data.toList.drop k, c.toNat ≠ 45) ∧ w = wr))
  case atStart => exact ⟨s.size, Nat.le_refl _, rfl, by omega, ⟨(fun c hc => by rw [List.drop_of_length_le (by simp)] at hc; cases hc), rfl⟩⟩
  case round =>
    obtain ⟨k, hk, rfl, hg, I⟩ := hrel
    rcases Nat.eq_zero_or_pos k with h0 | h0
    · subst h0
      go_wp2
      go_ret
      exact ⟨-1, rfl, I.out.2, .inl ⟨by decide, Puny.dash_none I.out.1⟩⟩
    · obtain ⟨j, rfl⟩ : ∃ j, k = j + 1 := ⟨k - 1, by omega⟩
      have hj : j < s.size := by omega
      have hjz : (j : Int) < (s.size : Int) := by omega
      have hD := drop_next s j hj
      have e : (((j + 1 : Nat) : Int) - 1) = (j : Int) := by omega
      rw [e]
      clear e
      have hub : s[j].toNat < 256 := s[j].toNat_lt
      by_cases hc : s[j].toNat = 45
      · have hz : ((s[j].toNat : Int) == 45) = true := by simp; omega
        have HC := Lib.hid (Puny.dash_last (bs := s.data.toList) (k := j) (by simpa using hj) hc I.out.1)
        have HW := Lib.hid I.out.2
        clear hc hD I
        go_wp2
        go_ret
        refine ⟨j, rfl, HW.out, ?_⟩
        have := HC.out
        omega
      · have hz : ((s[j].toNat : Int) == 45) = false := by simp; omega
        have J : Hid ((∀ c ∈ s.data.toList.drop j, c.toNat ≠ 45) ∧ w = wr) := by
          refine ⟨fun c hcm => ?_, I.out.2⟩
          rw [hD] at hcm
          rcases List.mem_cons.1 hcm with rfl | hcm
          · exact hc
          · exact I.out.1 c hcm
        clear hc hD I
        go_wp2
        go_roundg (j + 1)
        case measure => omega
        case rel => exact ⟨j, by omega, rfl, by omega, J⟩
set_option maxHeartbeats 1000000 in
set_option maxRecDepth 100000 in
theorem lastIndex_any (s : ByteArray) (w : World) (hs : s.size ≤ 1000000) : Calls Try.prog 41 #[.string s, .int .u8 45] w (LastPost s.data.toList w) := by
  have K := Lib.hid (lastByte_any s w hs)
  go_enter Try.func41, Try.ntmps41
  go_wp2_with fail
  refine K.out.mono ?_
  rintro e w1 ⟨r, rfl, rfl, h⟩
  have H := Lib.hid h
  clear h
  go_wp2
  go_ret
  exact ⟨r, rfl, rfl, H.out⟩
/-- Ahead of the last dash, and behind it. -/
def HalvesPost (s : ByteArray) (w : World) (e : Ending) (w' : World) : Prop := ∃ a b : ByteArray, e = .returned (.tuple #[.string a, .string b]) ∧ Below w.heap.size w w' ∧ a.data.toList = s.data.toList.take (Puny.dashAt s.data.toList) ∧ b.data.toList = s.data.toList.drop (Puny.tailAt s.data.toList)
theorem extract_take (s : ByteArray) (k : Nat) : (s.extract 0 k).data.toList = s.data.toList.take k := by
  rw [ByteArray.data_extract, Array.toList_extract, List.extract_eq_take_drop, List.drop_zero, Nat.sub_zero]
set_option maxHeartbeats 1000000 in
set_option maxRecDepth 100000 in
theorem halves_any (s : ByteArray) (w : World) (hs : s.size ≤ 1000000) : Calls Try.prog 30 #[.string s] w (HalvesPost s w) := by
  have K := Lib.hid (lastIndex_any s w hs)
  go_enter Try.func30, Try.ntmps30
  go_wp2_with fail
  refine K.out.mono ?_
  rintro e w1 ⟨r, rfl, rfl, h⟩
  clear K
  rcases h with ⟨h0, h1⟩ | ⟨h0, h1⟩
  · have H1 := Lib.hid h1
    clear h1
    go_wp2
    go_ret2
    refine ⟨_, _, rfl, Below.refl _ _, ?_, ?_⟩
    · rw [H1.out]; rfl
    · unfold Puny.tailAt
      rw [if_pos H1.out, List.drop_zero]
  · have hl := Puny.dashAt_lt s.data.toList
    obtain ⟨k, hk⟩ : ∃ k, k = Puny.dashAt s.data.toList := ⟨_, rfl⟩
    rw [← hk] at hl h1
    subst h1
    have hks : k < s.size := by
      have : k = 0 ∨ k < s.size := by simpa using hl
      omega
    have hkz : (k : Int) < (s.size : Int) := by omega
    have hw1 : IntKind.i64.wrap ((k : Int) + 1) = (k : Int) + 1 := by rw [IntKind.wrap_i64]; omega
    have HK := Lib.hid hk
    clear hk hl
    go_wp2
    go_region
    go_wp2
    go_ret2
    refine ⟨_, _, rfl, (Below.refl _ _).drew, ?_, ?_⟩
    · rw [← HK.out]; exact extract_take s k
    · unfold Puny.tailAt
      rw [← HK.out, if_neg (by omega)]
      exact extract_drop s (k + 1)
set_option maxHeartbeats 4000000 in
set_option maxRecDepth 100000 in
theorem read_any (s : ByteArray) (b : Int) (w : World) (hs : s.size ≤ 100000) (hb : 0 ≤ b ∧ b ≤ 100000000000) :
    Calls Try.prog 31 #[.string s, .int .i64 b] w fun e w' => e = .returned (Puny.numAns (Puny.numB b s.data.toList 36 1 0 0)) ∧ w = w' := by
  obtain ⟨b0, b1⟩ := hb
  go_enter Try.func31, Try.ntmps31
  go_wp2
  refine wp_ahead 0 rfl ?_
  go_wp2
  go_loopg [6, 7, 8, 9, 10, 11, 14] (s.size + 1) (fun gk s6 s7 _ _ _ _ s14 wr => ∃ (k : Nat) (sum x : Int), s6 = .int .i64 sum ∧ s7 = .int .i64 x ∧ s14 = .int .i64 k ∧ k ≤ s.size ∧ 0 ≤ sum ∧ sum ≤ 2147483647 ∧ 1 ≤ x ∧ x ≤ 75161927645 ∧ s.size - k < gk ∧ Hid (Puny.numB b s.data.toList 36 1 0 0 = Puny.numB b (s.data.toList.drop k) (36 * ((k : Int) + 1)) x sum k ∧ w = wr))
  case atStart => exact ⟨0, 0, 1, rfl, rfl, rfl, Nat.zero_le _, by omega, by omega, by omega, by omega, by omega, ⟨rfl, rfl⟩⟩
  case round =>
    obtain ⟨k, sum, x, rfl, rfl, rfl, hk, hs0, hs1, hx0, hx1, hg, I⟩ := hrel
    by_cases hlt : k < s.size
    · have hkz : (k : Int) < (s.size : Int) := by omega
      have hd := drop_next s k hlt
      have hub : s[k].toNat < 256 := s[k].toNat_lt
      have KV := Lib.hid (valueP_any (s[k].toNat : Int) wr (by omega))
      have hN := I.out.1
      rw [hd, Puny.numB, show Puny.byteZ s[k] = (s[k].toNat : Int) from rfl] at hN
      have HW := Lib.hid I.out.2
      clear I hd hub
      cases hv : Puny.valOf (s[k].toNat : Int) with
      | none =>
        rw [hv] at KV hN
        simp only at hN
        have R := Lib.hid hN
        clear hv hN
        go_wp2_with fail
        refine KV.out.mono ?_
        rintro e w1 ⟨rfl, rfl⟩
        simp only [Option.getD_none, Option.isSome_none]
        go_wp2
        go_step3
        refine ⟨rfl, ?_⟩
        go_wp2
        rw [Exit.noGoto_ret]
        go_ret2
        exact ⟨by rw [R.out]; rfl, HW.out⟩
      | some d =>
        obtain ⟨d0, d1⟩ := Puny.valOf_bd hv
        rw [hv] at KV hN
        simp only at hN
        clear hv
        by_cases hxl : 2147483647 < x
        · rw [if_pos (.inl hxl)] at hN
          have R := Lib.hid hN
          clear hN
          go_wp2_with fail
          refine KV.out.mono ?_
          rintro e w1 ⟨rfl, rfl⟩
          simp only [Option.getD_some, Option.isSome_some]
          go_wp2
          go_step3
          refine ⟨rfl, ?_⟩
          go_wp2
          rw [Exit.noGoto_ret]
          go_ret2
          exact ⟨by rw [R.out]; rfl, HW.out⟩
        · have hxl' : x ≤ 2147483647 := by omega
          have hP0 : 0 ≤ d * x := Int.mul_nonneg d0 (by omega)
          have hP1 : d * x ≤ 75161927645 := by
            have a1 : d * x ≤ 35 * x := Int.mul_le_mul_of_nonneg_right d1 (by omega)
            omega
          obtain ⟨P, hP⟩ : ∃ P, d * x = P := ⟨_, rfl⟩
          rw [hP] at hP0 hP1 hN
          by_cases hsl : 2147483647 < sum + P
          · rw [if_pos (.inr hsl)] at hN
            have R := Lib.hid hN
            clear hN
            go_wp2_with fail
            refine KV.out.mono ?_
            rintro e w1 ⟨rfl, rfl⟩
            simp only [Option.getD_some, Option.isSome_some]
            go_wp2
            go_step3
            refine ⟨rfl, ?_⟩
            go_wp2
            rw [Exit.noGoto_ret]
            go_ret2
            exact ⟨by rw [R.out]; rfl, HW.out⟩
          · rw [if_neg (show ¬ (Puny.limit < x ∨ Puny.limit < sum + P) by unfold Puny.limit; omega)] at hN
            have KT := Lib.hid (fun W => thrP_any (36 * ((k : Int) + 1)) b W (by omega))
            have htb := Puny.thr_bd (36 * ((k : Int) + 1)) b
            generalize Puny.thr (36 * ((k : Int) + 1)) b = t at KT htb hN
            obtain ⟨t0, t1⟩ := htb
            have hsl' : sum + P ≤ 2147483647 := by omega
            by_cases hdt : d < t
            · rw [if_pos hdt] at hN
              have R := Lib.hid hN
              clear hN hxl hsl
              go_wp2_with fail
              refine KV.out.mono ?_
              rintro e w1 ⟨rfl, rfl⟩
              simp only [Option.getD_some, Option.isSome_some]
              go_wp2_with fail
              refine (KT.out _).mono ?_
              rintro e w2 ⟨rfl, rfl⟩
              go_wp2
              rw [jump_ret]
              go_ret2
              exact ⟨by rw [R.out]; rfl, HW.out⟩
            · rw [if_neg hdt] at hN
              have hQ0 : 1 ≤ x * (36 - t) := Int.mul_pos (by omega) (by omega)
              have hQ1 : x * (36 - t) ≤ 75161927645 := by
                have a1 : x * (36 - t) ≤ x * 35 := Int.mul_le_mul_of_nonneg_left (by omega) (by omega)
                omega
              obtain ⟨Q, hQ⟩ : ∃ Q, x * (36 - t) = Q := ⟨_, rfl⟩
              rw [hQ] at hQ0 hQ1 hN
              have R : Hid (Puny.numB b s.data.toList 36 1 0 0 = Puny.numB b (s.data.toList.drop (k + 1)) (36 * (((k + 1 : Nat) : Int) + 1)) Q (sum + P) (k + 1) ∧ w = wr) := ⟨by rw [hN, show 36 * ((k : Int) + 1) + 36 = 36 * (((k + 1 : Nat) : Int) + 1) by omega], HW.out⟩
              clear hN hxl hsl
              go_wp2_with fail
              refine KV.out.mono ?_
              rintro e w1 ⟨rfl, rfl⟩
              simp only [Option.getD_some, Option.isSome_some]
              go_wp2_with fail
              refine (KT.out _).mono ?_
              rintro e w2 ⟨rfl, rfl⟩
              go_wp2
              go_roundg (s.size - k)
              case measure => omega
              case rel => exact ⟨k + 1, sum + P, Q, rfl, rfl, by go_num, by omega, by omega, by omega, by omega, by omega, by omega, R⟩
    · obtain rfl : k = s.size := by omega
      have R := Lib.hid (show Puny.numB b s.data.toList 36 1 0 0 = none by rw [I.out.1, List.drop_of_length_le (by simp)]; rfl)
      go_wp2
      refine wp_label ?_
      go_wp2
      rw [jump_ret]
      go_ret2
      exact ⟨by rw [R.out]; rfl, I.out.2⟩
end Go.Proofs.Ytkgikkdgfhonlaa
