/-
  Proved here: 'Runes' of package utf reads the characters that bytes begin with, and tells the place behind them, or -1 at the end. Conditions: the string has at most 100,000 bytes.
-/
import Derived.Test.YtmcjgdajnppbhaaGreatDoorUtfEight
import Derived.Test.YtmcjgdajnppbhaaGreatDoorUtfDec
namespace Go.Proofs.YtmcjgdajnppbhaaGreatDoor
open Go.RowKit Utf
namespace Utf
/-- The characters that bytes begin with, and the place behind them; -1: they are all. -/
def rdOf (s : List UInt8) : List Nat × Int :=
  ((readAll s.length s).1, if (readAll s.length s).2.length = 0 then -1 else ((s.length - (readAll s.length s).2.length : Nat) : Int))
def ints (l : List Nat) : List Int := l.map Int.ofNat
/-- l was read, and k is the place behind it. -/
def ReadTo (s : List UInt8) (l : List Nat) (k : Nat) : Prop := rights l = true ∧ s = encAll l ++ s.drop k ∧ k ≤ s.length
theorem ReadTo.nil (s : List UInt8) : ReadTo s [] 0 := ⟨rfl, rfl, Nat.zero_le _⟩
theorem ReadTo.len {s : List UInt8} {l : List Nat} {k : Nat} (h : ReadTo s l k) : (encAll l).length = k := by
  have h1 := congrArg List.length h.2.1
  rw [List.length_append, List.length_drop] at h1
  have := h.2.2
  omega
theorem encAll_le (l : List Nat) : l.length ≤ (encAll l).length := by
  induction l with
  | nil => simp
  | cons r l ih =>
    have := enc_pos r
    simp only [encAll, List.flatMap_cons, List.length_append, List.length_cons] at ih ⊢
    omega
theorem ReadTo.le {s : List UInt8} {l : List Nat} {k : Nat} (h : ReadTo s l k) : l.length ≤ k := by have := encAll_le l; have := h.len; omega
theorem ReadTo.next {s : List UInt8} {l : List Nat} {k r n : Nat} (h : ReadTo s l k) (hd : dec (s.drop k) = some (r, n)) : ReadTo s (l ++ [r]) (k + n) ∧ 1 ≤ n := by
  obtain ⟨h1, h2, h3⟩ := dec_sound hd
  have hp := enc_pos r
  have hl := congrArg List.length h3
  rw [List.length_append, List.length_drop, List.drop_drop, List.length_drop] at hl
  refine ⟨⟨?_, ?_, ?_⟩, by omega⟩
  · simp only [rights, List.all_append, List.all_cons, List.all_nil, Bool.and_true, Bool.and_eq_true]
    exact ⟨h.1, h1⟩
  · simp only [encAll, List.flatMap_append, List.flatMap_cons, List.flatMap_nil, List.append_nil, List.append_assoc]
    rw [List.drop_drop] at h3
    have e := h.2.1
    rw [h3] at e
    exact e
  · have := h.2.2
    omega
theorem ReadTo.stop {s : List UInt8} {l : List Nat} {k : Nat} (h : ReadTo s l k) (hd : dec (s.drop k) = none) (hk : k < s.length) : rdOf s = (l, (k : Int)) := by
  unfold rdOf
  rw [readAll_is l s.length s (s.drop k) h.2.1 h.1 hd (Nat.le_refl _)]
  simp only [List.length_drop]
  rw [if_neg (by omega), show s.length - (s.length - k) = k by omega]
theorem ReadTo.all {s : List UInt8} {l : List Nat} (h : ReadTo s l s.length) : rdOf s = (l, -1) := by
  unfold rdOf
  rw [readAll_is l s.length s (s.drop s.length) h.2.1 h.1 (by rw [List.drop_length]; rfl) (Nat.le_refl _)]
  simp
end Utf
def RunesPost (s : List UInt8) (w : World) (e : Ending) (w' : World) : Prop :=
  ∃ v, e = .returned (.tuple #[v, .int .i64 (rdOf s).2]) ∧ Runes v (ints (rdOf s).1) w' ∧ Below w.heap.size w w'
theorem bytes_of (t : ByteArray) (w : World) : ∃ cap W1, (convert 9 36 (.string t)).run Tryz.prog w = .ok (.slice (some ⟨w.heap.size, 0, none⟩) t.size cap) W1 ∧
    (∀ j (h : j < t.size), W1.cell? ⟨w.heap.size, j, none⟩ = some (.int .u8 (t[j].toNat : Int))) ∧ Below w.heap.size w W1 ∧ w.heap.size < W1.heap.size := by
  refine ⟨_, _, run_bytes_of_string (P := Tryz.prog) w 9 36 5 t Tryz.underlying9 Tryz.underlying36 Tryz.underlying5, fun j h => ?_, ((Below.refl _ w).drew).alloc (Nat.le_refl _) _, by simp⟩
  have := World.cell?_alloc_mark w.drew (bytesRow t (grownCap w t.size 0 5)) 5 ((bytesRow t (grownCap w t.size 0 5)).size, (bytesRow t (grownCap w t.size 0 5)).size + 1) j
  exact this.trans (bytesRow_at t _ j h)
theorem head_le (n : Nat) : (headOf n).2 ≤ 4 ∧ 0 ≤ (headOf n).1 ∧ ((headOf n).2 = 2 → (headOf n).1 < 32) ∧ ((headOf n).2 = 3 → (headOf n).1 < 16) ∧ ((headOf n).2 = 4 → (headOf n).1 < 8) ∧ ((headOf n).2 = 1 → (headOf n).1 < 128) := by
  unfold headOf
  repeat' split
  all_goals simp
  all_goals omega
/-- The bytes behind the first one. -/
theorem tail_of (s : ByteArray) (k n m : Nat) (hm : m + 1 = n) (hle : k + n ≤ s.size) : (s.extract (k + 1) (k + n)).size = m ∧ (s.extract (k + 1) (k + n)).data.toList = (s.data.toList.drop (k + 1)).take m := by
  have e : (s.extract (k + 1) (k + n)).data.toList = (s.data.toList.drop (k + 1)).take m := by
    rw [ByteArray.data_extract, Array.toList_extract, List.extract_eq_take_drop]
    congr 1
    omega
  refine ⟨?_, e⟩
  have := congrArg List.length e
  rw [List.length_take, List.length_drop] at this
  simp only [Array.length_toList, ByteArray.size_data] at this
  omega
theorem and192 (n : Nat) (h : n < 256) : bits .and .u8 (n : Int) 192 = ((n / 64 * 64 : Nat) : Int) := by
  have e := u8_and_nat n 192 h (by omega)
  have e2 : ∀ m : Fin 256, m.val &&& 192 = m.val / 64 * 64 := by decide +kernel
  have e3 := e2 ⟨n, h⟩
  simp only at e3
  rw [e3] at e
  exact e
theorem cont_test (b : UInt8) : (bits .and .u8 (b.toNat : Int) 192 != 128) = !(cont b) := by
  rw [and192 _ (lt256 b), Bool.eq_iff_iff]
  have := lt256 b
  unfold cont
  simp
  omega
set_option maxHeartbeats 4000000 in
set_option maxRecDepth 100000 in
theorem runes_any (s : ByteArray) (w : World) (hs : s.size ≤ 100000) : Calls Tryz.prog 17 #[.string s] w (RunesPost s.data.toList w) := by
  go_enter Tryz.func17, Tryz.ntmps17
  go_wp2
  refine wp_ahead 0 rfl ?_
  go_wp2
  go_loopg [4, 5] (s.size + 1) (fun gk v i wr => ∃ (l : List Nat) (k : Nat), k ≤ s.size ∧ i = .int .i64 k ∧ s.size - k < gk ∧ Hid (ReadTo s.data.toList l k ∧ OwnR w.heap.size v (ints l) wr ∧ Below w.heap.size w wr))
  case atStart => exact ⟨[], 0, Nat.zero_le _, rfl, by omega, ⟨ReadTo.nil _, OwnR.nil _ _, Below.refl _ _⟩⟩
  case round =>
    obtain ⟨l, k, hk, rfl, hg, I⟩ := hrel
    by_cases hlt : k < s.size
    · have hH := head_any s[k].toNat (lt256 _) wr
      have hD := drop_next s k hlt
      have hT := tellOf_eq s[k] (s.data.toList.drop (k + 1))
      have hl4 := head_le s[k].toNat
      unfold tellOf at hT
      rw [← hD] at hT
      generalize headOf s[k].toNat = p at hH hT hl4
      obtain ⟨r0, n⟩ := p
      simp only at hH hT hl4
      have HT := Lib.hid hT
      clear hT hD
      by_cases h0 : n = 0
      · subst h0
        have hN : dec (s.data.toList.drop k) = none := by rw [← HT.out, if_pos (.inl rfl)]
        have HN := Lib.hid hN
        clear hN hl4
        go_wp2_with (go_at_call 25; ((with_reducible refine hH.mono ?_); rintro e w' ⟨rfl, rfl⟩))
        go_step3
        refine ⟨rfl, ?_⟩
        go_wp2
        rw [Exit.noGoto_ret]
        go_ret2
        have hr := I.out.1.stop HN.out (by simpa using hlt)
        exact ⟨u4, by rw [hr]; rfl, by rw [hr]; exact I.out.2.1.runes, I.out.2.2⟩
      · have h0' : ((n : Int) == 0) = false := by simpa using h0
        by_cases hle : n ≤ s.size - k
        · have hdc : decide ((s.size : Int) - (k : Int) < (n : Int)) = false := by simp; omega
          have hle' : (n : Int) ≤ (s.size : Int) - (k : Int) := by omega
          obtain ⟨m, hm⟩ : ∃ m, m + 1 = n := ⟨n - 1, by omega⟩
          obtain ⟨hts, htl⟩ := tail_of s k n m hm (by omega)
          obtain ⟨cap, W1, hconv, hcell, hbW, hsz⟩ := bytes_of (s.extract (k + 1) (k + n)) wr
          rw [hts] at hconv
          have HC := Lib.hid hcell
          have HB := Lib.hid hbW
          have HTS := Lib.hid hts
          have HTL := Lib.hid htl
          have HM := Lib.hid hm
          have hm3 : m ≤ 3 := by omega
          clear hcell hbW hts htl hm
          go_wp2_with (go_at_call 25; ((with_reducible refine hH.mono ?_); rintro e w' ⟨rfl, rfl⟩))
          go_loop [6, 40] (fun r i => ∃ (j : Nat) (acc : Int), j ≤ m ∧ r = .int .i32 acc ∧ i = .int .i64 j ∧ 0 ≤ acc ∧ (j = 0 → acc < 128) ∧ (0 < m → j = 0 → acc < 32) ∧ (j = 1 → acc < 2048) ∧ (j = 2 → acc < 131072) ∧ (j = 3 → acc < 8388608) ∧
            Hid (contVal acc (((s.data.toList.drop (k + 1)).take m).drop j) = contVal r0 ((s.data.toList.drop (k + 1)).take m))) (fun _ i => m - (intOf i).toNat)
          case atStart =>
            refine ⟨0, r0, Nat.zero_le _, rfl, rfl, hl4.2.1, fun _ => ?_, fun h _ => ?_, fun h => (by omega), fun h => (by omega), fun h => (by omega), (rfl : contVal r0 (((s.data.toList.drop (k + 1)).take m).drop 0) = _)⟩
            · have := HM.out; omega
            · have := HM.out; omega
          case round =>
            obtain ⟨j, acc, hj, rfl, rfl, ha0, b0, b0', b1, b2, b3, J⟩ := hrel
            by_cases hjm : j < m
            · have hja : j < (s.extract (k + 1) (k + n)).size := by rw [HTS.out]; exact hjm
              have hc := HC.out j hja
              have hdn : ((s.data.toList.drop (k + 1)).take m).drop j = (s.extract (k + 1) (k + n))[j] :: ((s.data.toList.drop (k + 1)).take m).drop (j + 1) := by
                rw [← HTL.out]
                exact drop_next _ j hja
              generalize (s.extract (k + 1) (k + n))[j] = b at hc hdn
              have hb := lt256 b
              have hct := cont_test b
              have hcv : contVal acc (((s.data.toList.drop (k + 1)).take m).drop j) = if cont b then contVal (acc * 64 + ((b.toNat % 64 : Nat) : Int)) (((s.data.toList.drop (k + 1)).take m).drop (j + 1)) else none := by rw [hdn]; rfl
              have hbz : (b.toNat : Int) < 256 := by omega
              have hjz : (j : Int) < (m : Int) := by omega
              cases hco : cont b with
              | false =>
                rw [hco] at hct hcv
                have hno : dec (s.data.toList.drop k) = none := by
                  rw [← HT.out]
                  split
                  · rfl
                  · rw [show n - 1 = m by have := HM.out; omega, ← J.out, hcv]; rfl
                have HN := Lib.hid hno
                clear hno hcv hdn J hco
                simp only [Bool.not_false] at hct
                go_wp2
                go_step3
                refine ⟨rfl, ?_⟩
                go_wp2
                rw [Exit.noGoto_ret]
                go_ret2
                have hr := I.out.1.stop HN.out (by simpa using hlt)
                exact ⟨u4, by rw [hr]; rfl, by rw [hr]; exact (I.out.2.1.keep HB.out).runes, I.out.2.2.trans (HB.out.mono I.out.2.2.size)⟩
              | true =>
                rw [hco] at hct hcv
                have J2 : Hid (contVal (acc * 64 + ((b.toNat % 64 : Nat) : Int)) (((s.data.toList.drop (k + 1)).take m).drop (j + 1)) = contVal r0 ((s.data.toList.drop (k + 1)).take m)) := by
                  rw [if_pos rfl] at hcv
                  exact hcv.symm.trans J.out
                clear hcv hdn J hco
                simp only [Bool.not_true] at hct
                have hacc : acc < 131072 := by omega
                go_wp2
                go_round
                case rel => exact ⟨j + 1, acc * 64 + ((b.toNat % 64 : Nat) : Int), by omega, by go_num, by go_num, by omega, fun h => (by omega), fun _ h => (by omega), fun h => (by omega), fun h => (by omega), fun h => (by omega), J2⟩
                case measure => simp [intOf]; omega
            · obtain rfl : j = m := by omega
              have hcv : contVal r0 ((s.data.toList.drop (k + 1)).take j) = some acc := by
                rw [← J.out, List.drop_of_length_le (by rw [List.length_take]; omega)]
                rfl
              have hT := HT.out
              rw [if_neg (by simp; omega), show n - 1 = j by have := HM.out; omega, hcv] at hT
              simp only at hT
              have HT2 := Lib.hid hT
              have hL := len_any acc W1
              clear hT hcv J HC HTS HTL HT hconv
              by_cases hln : lenZ acc = n
              · rw [hln] at hL
                have hne : ((n : Int) != (n : Int)) = false := by simp
                have hdc2 : dec (s.data.toList.drop k) = some (acc.toNat, n) := by rw [← HT2.out, if_pos hln]
                have hnx := I.out.1.next hdc2
                have HX := Lib.hid hnx
                have hkn : k + n ≤ s.size := by omega
                have hll : (ints l).length ≤ 1000000 := by have := I.out.1.le; simp only [ints, List.length_map]; omega
                clear hdc2 hnx hln HT2
                go_wp2_with (first
                  | (go_at_call 26; ((with_reducible refine hL.mono ?_); rintro e w' ⟨rfl, rfl⟩))
                  | (at_builtin; refine append_cells W1 37 21 (.int .i32 0) 4 Tryz.underlying37 info_i32 rfl (by omega) w.heap.size u4 _ _ (I.out.2.1.keep HB.out) (Nat.le_trans I.out.2.2.size HB.out.size) hll 1 (by omega) _ rfl rfl rfl _ _ rfl rfl rfl ?_; intro v2 w2 ho2 hb2; have HO := Lib.hid ho2; have HB2 := Lib.hid hb2; clear ho2 hb2))
                have I2 : Hid (ReadTo s.data.toList (l ++ [acc.toNat]) (k + n) ∧ OwnR w.heap.size v2 (ints (l ++ [acc.toNat])) w2 ∧ Below w.heap.size w w2) := by
                  refine ⟨HX.out.1, ?_, (I.out.2.2.trans (HB.out.mono I.out.2.2.size)).trans HB2.out⟩
                  have e : ints (l ++ [acc.toNat]) = ints l ++ [acc] := by
                    simp only [ints, List.map_append, List.map_cons, List.map_nil]
                    rw [show Int.ofNat acc.toNat = acc by simp; omega]
                  rw [e]
                  exact OwnR.more HO.out rfl rfl
                have hn1 := HX.out.2
                go_roundg (s.size - k)
                case measure => omega
                case rel => exact ⟨l ++ [acc.toNat], k + n, by omega, by go_num, by omega, I2⟩
              · have hne : ((lenZ acc : Int) != (n : Int)) = true := by simpa using (by omega : ¬ (lenZ acc : Int) = (n : Int))
                have hno : dec (s.data.toList.drop k) = none := by rw [← HT2.out, if_neg hln]
                have HN := Lib.hid hno
                clear hno hln HT2
                go_wp2_with (go_at_call 26; ((with_reducible refine hL.mono ?_); rintro e w' ⟨rfl, rfl⟩))
                go_step3
                refine ⟨rfl, ?_⟩
                go_wp2
                rw [Exit.noGoto_ret]
                go_ret2
                have hr := I.out.1.stop HN.out (by simpa using hlt)
                exact ⟨u4, by rw [hr]; rfl, by rw [hr]; exact (I.out.2.1.keep HB.out).runes, I.out.2.2.trans (HB.out.mono I.out.2.2.size)⟩
        · have hdc : decide ((s.size : Int) - (k : Int) < (n : Int)) = true := by simp; omega
          have hle' : (s.size : Int) - (k : Int) < (n : Int) := by omega
          have hN : dec (s.data.toList.drop k) = none := by rw [← HT.out, if_pos (.inr (by simp; omega))]
          have HN := Lib.hid hN
          clear hN hl4
          go_wp2_with (go_at_call 25; ((with_reducible refine hH.mono ?_); rintro e w' ⟨rfl, rfl⟩))
          go_step3
          refine ⟨rfl, ?_⟩
          go_wp2
          rw [Exit.noGoto_ret]
          go_ret2
          have hr := I.out.1.stop HN.out (by simpa using hlt)
          exact ⟨u4, by rw [hr]; rfl, by rw [hr]; exact I.out.2.1.runes, I.out.2.2⟩
    · obtain rfl : k = s.size := by omega
      go_wp2
      go_ret2
      have hr := ReadTo.all (s := s.data.toList) (l := l) (by simpa using I.out.1)
      exact ⟨u4, by rw [hr]; rfl, by rw [hr]; exact I.out.2.1.runes, I.out.2.2⟩
end Go.Proofs.YtmcjgdajnppbhaaGreatDoor
