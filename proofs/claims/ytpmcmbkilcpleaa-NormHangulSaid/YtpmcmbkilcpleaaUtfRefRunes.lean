/-
  Proved here: the document's own 'Runes' reads the characters that bytes begin with, and tells the place behind them, or -1 at the end. Conditions: the string has at most 100,000 bytes.
-/
import Derived.Test.YtpmcmbkilcpleaaUtfOne
namespace Go.Proofs.Ytpmcmbkilcpleaa
open Go.RowKit Utf
theorem rest_of (s : ByteArray) (k : Nat) (hk : k ≤ s.size) : (s.extract k s.size).data.toList = s.data.toList.drop k ∧ (s.extract k s.size).size ≤ s.size := by
  have e : (s.extract k s.size).data.toList = s.data.toList.drop k := by
    rw [ByteArray.data_extract, Array.toList_extract, List.extract_eq_take_drop, List.take_of_length_le]
    simp
  refine ⟨e, ?_⟩
  have := congrArg List.length e
  rw [List.length_drop] at this
  simp only [Array.length_toList, ByteArray.size_data] at this
  omega
set_option maxHeartbeats 4000000 in
set_option maxRecDepth 100000 in
theorem refRunes_any (s : ByteArray) (w : World) (hs : s.size ≤ 100000) : Calls Try.prog 43 #[.string s] w (RunesPost s.data.toList w) := by
  go_enter Try.func43, Try.ntmps43
  go_wp2
  go_loopg [4, 5] (s.size + 1) (fun gk v i wr => ∃ (l : List Nat) (k : Nat), k ≤ s.size ∧ i = .int .i64 k ∧ s.size - k < gk ∧ Hid (ReadTo s.data.toList l k ∧ OwnR w.heap.size v (ints l) wr ∧ Below w.heap.size w wr))
  case atStart => exact ⟨[], 0, Nat.zero_le _, rfl, by omega, ⟨ReadTo.nil _, OwnR.nil _ _, Below.refl _ _⟩⟩
  case round =>
    obtain ⟨l, k, hk, rfl, hg, I⟩ := hrel
    by_cases hlt : k < s.size
    · obtain ⟨hrl, hrs⟩ := rest_of s k hk
      have hO := refOne_any (s.extract k s.size) wr (by omega)
      unfold OnePost at hO
      rw [hrl] at hO
      unfold oneOf at hO
      cases hd : dec (s.data.toList.drop k) with
      | none =>
        rw [hd] at hO
        have HD := Lib.hid hd
        clear hd hrl hrs
        simp only at hO
        go_wp2_with (go_at_call 60; ((with_reducible refine hO.mono ?_); rintro e w2 ⟨rfl, hb2⟩; have HB := Lib.hid hb2; clear hb2))
        go_ret2
        have hr := I.out.1.stop HD.out (by simpa using hlt)
        exact ⟨u4, by rw [hr]; rfl, by rw [hr]; exact (I.out.2.1.keep HB.out).runes, I.out.2.2.trans (HB.out.mono I.out.2.2.size)⟩
      | some p =>
        obtain ⟨r, n⟩ := p
        rw [hd] at hO
        have hnx := I.out.1.next hd
        have hkn : k + n ≤ s.size := by have := hnx.1.2.2; simpa using this
        have HX := Lib.hid hnx
        have hn0 : ((n : Int) == 0) = false := by simpa using (by omega : ¬ n = 0)
        have hn1 : 1 ≤ n := hnx.2
        have hll : (ints l).length ≤ 1000000 := by have := I.out.1.le; simp only [ints, List.length_map]; omega
        clear hd hrl hrs hnx
        simp only at hO
        go_wp2_with (first
          | (go_at_call 60; ((with_reducible refine hO.mono ?_); rintro e w2 ⟨rfl, hb2⟩; have HB := Lib.hid hb2; clear hb2))
          | (at_builtin; refine append_cells w2 22 21 (.int .i32 0) 4 Try.underlying22 info_i32 rfl (by omega) w.heap.size u4 _ _ (I.out.2.1.keep HB.out) (Nat.le_trans I.out.2.2.size HB.out.size) hll 1 (by omega) _ rfl rfl rfl _ _ rfl rfl rfl ?_; intro v3 w3 ho3 hb3; have HO := Lib.hid ho3; have HB3 := Lib.hid hb3; clear ho3 hb3))
        have I2 : Hid (ReadTo s.data.toList (l ++ [r]) (k + n) ∧ OwnR w.heap.size v3 (ints (l ++ [r])) w3 ∧ Below w.heap.size w w3) := by
          refine ⟨HX.out.1, ?_, (I.out.2.2.trans (HB.out.mono I.out.2.2.size)).trans HB3.out⟩
          have e : ints (l ++ [r]) = ints l ++ [(r : Int)] := by
            simp only [ints, List.map_append, List.map_cons, List.map_nil]
            rfl
          rw [e]
          exact OwnR.more HO.out rfl rfl
        go_roundg (s.size - k)
        case measure => omega
        case rel => exact ⟨l ++ [r], k + n, by omega, by go_num, by omega, I2⟩
    · obtain rfl : k = s.size := by omega
      go_wp2
      go_ret2
      have hr := ReadTo.all (s := s.data.toList) (l := l) (by simpa using I.out.1)
      exact ⟨u4, by rw [hr]; rfl, by rw [hr]; exact I.out.2.1.runes, I.out.2.2⟩
end Go.Proofs.Ytpmcmbkilcpleaa
