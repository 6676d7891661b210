/-
  Proved here: the laws PunyDigits, PunyWrites, PunyReads and PunyApart: walked. Conditions: as they stand in each.
-/
import Derived.Test.YtkgikkdgfhonlaaPunySmall
import Derived.Test.YtkgikkdgfhonlaaPunyDecW
namespace Go.Proofs.Ytkgikkdgfhonlaa
open Go.RowKit Utf
/-- The digit of a number, and whether there is one. -/
theorem digit_both (n : Int) : ∃ (x : Int) (ok : Bool), (∀ W, Calls Try.prog 10 #[.int .i64 n] W fun e w' => e = .returned (.tuple #[.int .u8 x, .bool ok]) ∧ W = w') ∧ (∀ W, Calls Try.prog 11 #[.int .i64 n] W fun e w' => e = .returned (.tuple #[.int .u8 x, .bool ok]) ∧ W = w') := by
  by_cases h : 0 ≤ n ∧ n ≤ 35
  · exact ⟨_, _, fun W => digitP_yes n W h, fun W => digit5_any n W h⟩
  · exact ⟨_, _, fun W => digitP_no n W (by omega), fun W => digit5_no n W (by omega)⟩
set_option maxHeartbeats 4000000 in
set_option maxRecDepth 100000 in
theorem digits5_walk (n c delta count : Int) (first : Bool) (w : World) (hc : 0 ≤ c ∧ c ≤ 255) (hct : count ≤ 9223372036854775807) :
    Calls Try.prog 3 #[.int .i64 n, .int .u8 c, .int .i64 delta, .int .i64 count, .bool first] w fun e w' => e = .returned (.bool true) ∧ Below w.heap.size w w' := by
  obtain ⟨x, ok, d1, d2⟩ := digit_both n
  have v1 := fun W => valueP_any c W hc
  have v2 := fun W => value5_any c W hc
  generalize (Puny.valOf c).getD 0 = y at v1 v2
  generalize (Puny.valOf c).isSome = is at v1 v2
  have D1 := Lib.hid d1
  have D2 := Lib.hid d2
  have V1 := Lib.hid v1
  have V2 := Lib.hid v2
  clear d1 d2 v1 v2
  have hx : (x != x) = false := by simp
  have hy : (y != y) = false := by simp
  have hok : (ok != ok) = false := by simp
  have his : (is != is) = false := by simp
  go_enter Try.func3, Try.ntmps3
  go_wp2_with fail
  refine (small5_any _).mono ?_
  rintro e w1 ⟨rfl, hb1⟩
  have B1 := Lib.hid hb1
  clear hb1
  go_wp2_with fail
  refine (D1.out _).mono ?_
  rintro e w2 ⟨rfl, rfl⟩
  go_wp2_with fail
  refine (D2.out _).mono ?_
  rintro e w3 ⟨rfl, rfl⟩
  go_wp2_with fail
  refine (V1.out _).mono ?_
  rintro e w4 ⟨rfl, rfl⟩
  go_wp2_with fail
  refine (V2.out _).mono ?_
  rintro e w5 ⟨rfl, rfl⟩
  by_cases h1 : delta < 0
  · go_wp2
    go_ret
    exact ⟨rfl, B1.out⟩
  · by_cases h2 : 2147483647 < delta
    · go_wp2
      go_ret
      exact ⟨rfl, B1.out⟩
    · by_cases h3 : count < 1
      · go_wp2
        go_ret
        exact ⟨rfl, B1.out⟩
      · have a1 := fun W => adaptP_any delta count first W (by omega) (by omega)
        have a2 := fun W => adapt5_any delta count first W (by omega) (by omega)
        generalize Puny.adapt delta count first = z at a1 a2
        have A1 := Lib.hid a1
        have A2 := Lib.hid a2
        clear a1 a2
        go_wp2_with fail
        refine (A1.out _).mono ?_
        rintro e w6 ⟨rfl, rfl⟩
        go_wp2_with fail
        refine (A2.out _).mono ?_
        rintro e w7 ⟨rfl, rfl⟩
        go_wp2
        go_ret
        exact ⟨by simp, B1.out⟩
set_option maxHeartbeats 4000000 in
set_option maxRecDepth 100000 in
theorem writes5_walk (v : Value) (l : List Int) (w : World) (hl : Runes v l w) : Calls Try.prog 4 #[v] w fun e w' => e = .returned (.bool true) ∧ Below w.heap.size w w' := by
  have HL := Lib.hid hl
  obtain ⟨A, c, rfl, -, -⟩ := hl.form
  clear hl
  by_cases hn : l.length ≤ 100
  · have hnz : ¬ (100 : Int) < (l.length : Int) := by omega
    obtain ⟨bs, ok, hE, hF⟩ : ∃ (bs : List UInt8) (ok : Bool), (∀ W, Below w.heap.size w W → Calls Try.prog 16 #[.slice A l.length c] W (Wrote bs ok W)) ∧ (∀ W, Below w.heap.size w W → Calls Try.prog 17 #[.slice A l.length c] W (Wrote bs ok W)) := by
      cases hr : rightsZ l with
      | true => exact ⟨_, _, fun W h => encodeP_yes _ l W (HL.out.keep h) (by omega) hr, fun W h => encode5_yes _ l W (HL.out.keep h) hn hr⟩
      | false => exact ⟨_, _, fun W h => encodeP_no _ l W (HL.out.keep h) (by omega) hr, fun W h => encode5_no _ l W (HL.out.keep h) hn hr⟩
    have HE := Lib.hid hE
    have HF := Lib.hid hF
    obtain ⟨S, hS⟩ : ∃ S : ByteArray, S = ⟨bs.toArray⟩ := ⟨_, rfl⟩
    clear hE hF
    unfold Wrote at HE HF
    rw [← hS] at HE HF
    clear hS hn
    go_enter Try.func4, Try.ntmps4
    go_wp2_with fail
    refine (small5_any _).mono ?_
    rintro e w1 ⟨rfl, hb1⟩
    have B1 := Lib.hid hb1
    clear hb1
    go_wp2_with fail
    refine (HE.out _ B1.out).mono ?_
    rintro e w2 ⟨rfl, hb2⟩
    have B2 := Lib.hid (below_then B1.out hb2)
    clear hb2 B1
    go_wp2_with fail
    refine (HF.out _ B2.out).mono ?_
    rintro e w3 ⟨rfl, hb3⟩
    have B3 := Lib.hid (below_then B2.out hb3)
    clear hb3 B2
    go_wp2
    go_ret
    exact ⟨by simp, B3.out⟩
  · have hnz : (100 : Int) < (l.length : Int) := by omega
    go_enter Try.func4, Try.ntmps4
    go_wp2_with fail
    refine (small5_any _).mono ?_
    rintro e w1 ⟨rfl, hb1⟩
    have B1 := Lib.hid hb1
    clear hb1
    go_wp2
    go_ret
    exact ⟨rfl, B1.out⟩
set_option maxHeartbeats 4000000 in
set_option maxRecDepth 100000 in
theorem reads5_walk (s : ByteArray) (w : World) : Calls Try.prog 5 #[.string s] w fun e w' => e = .returned (.bool true) ∧ Below w.heap.size w w' := by
  by_cases hs : s.size ≤ 300
  · have hsz : ¬ (300 : Int) < (s.size : Int) := by omega
    have K1 := Lib.hid (fun W => decodeP_any s W (by omega))
    have K2 := Lib.hid (fun W => decode5_any s W (by omega))
    have hle : ((Puny.decB s.data.toList).getD []).length ≤ 300 := by
      cases h : Puny.decB s.data.toList with
      | none => exact Nat.zero_le _
      | some l => have := (Puny.enc_dec h).2.2; simp at this; simp only [Option.getD_some]; omega
    unfold DecPost at K1 K2
    generalize Puny.decB s.data.toList = o at K1 K2 hle
    obtain ⟨l, hl⟩ : ∃ l, l = o.getD [] := ⟨_, rfl⟩
    obtain ⟨ok, hok⟩ : ∃ ok, ok = o.isSome := ⟨_, rfl⟩
    rw [← hl, ← hok] at K1 K2
    rw [← hl] at hle
    clear hl hok
    go_enter Try.func5, Try.ntmps5
    go_wp2_with fail
    refine (small5_any _).mono ?_
    rintro e w1 ⟨rfl, hb1⟩
    have B1 := Lib.hid hb1
    clear hb1
    go_wp2_with fail
    refine (K1.out _).mono ?_
    rintro e w2 ⟨A2, c2, rfl, hr2, hb2⟩
    have B2 := Lib.hid (below_then B1.out hb2)
    have R2 := Lib.hid hr2
    clear hb2 B1 hr2
    go_wp2_with fail
    refine (K2.out _).mono ?_
    rintro e w3 ⟨A3, c3, rfl, hr3, hb3⟩
    have B3 := Lib.hid (below_then B2.out hb3)
    have R3 := Lib.hid (R2.out.keep hb3)
    have KS := Lib.hid (refSame_any _ _ l l w3 R3.out hr3 (by omega))
    clear hb3 B2 R2 hr3
    go_wp2_with fail
    refine KS.out.mono ?_
    rintro e w4 ⟨rfl, hb4⟩
    have B4 := Lib.hid (below_then B3.out hb4)
    clear hb4 B3
    rw [decide_eq_true (rfl : l = l)]
    go_wp2
    go_ret
    exact ⟨by simp, B4.out⟩
  · have hsz : (300 : Int) < (s.size : Int) := by omega
    go_enter Try.func5, Try.ntmps5
    go_wp2_with fail
    refine (small5_any _).mono ?_
    rintro e w1 ⟨rfl, hb1⟩
    have B1 := Lib.hid hb1
    clear hb1
    go_wp2
    go_ret
    exact ⟨rfl, B1.out⟩
end Go.Proofs.Ytkgikkdgfhonlaa
