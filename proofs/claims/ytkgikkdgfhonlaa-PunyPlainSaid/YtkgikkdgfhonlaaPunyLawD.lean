/-
  Proved here: the law PunyPlain: plain characters are written as they are, with a dash behind, and others by letters and digits alone: walked. Conditions: the slice can be read.
-/
import Derived.Test.YtkgikkdgfhonlaaPunyLawC
import Derived.Test.YtkgikkdgfhonlaaUtfAscii
namespace Go.Proofs.Ytkgikkdgfhonlaa
open Go.RowKit Utf
namespace Puny
def wide (l : List Int) : List Int := l.filter fun x => decide (127 < x)
theorem wide_snoc (p : List Int) (x : Int) : wide (p ++ [x]) = if 127 < x then wide p ++ [x] else wide p := by
  unfold wide
  rw [List.filter_append]
  by_cases h : 127 < x <;> simp [h]
theorem wide_mem {l : List Int} : ∀ x ∈ wide l, 127 < x := fun x hx => by
  unfold wide at hx
  exact of_decide_eq_true (List.mem_filter.1 hx).2
end Puny
set_option maxHeartbeats 8000000 in
set_option maxRecDepth 100000 in
theorem plain5_walk (v : Value) (l : List Int) (s : ByteArray) (w : World) (hl : Runes v l w) : Calls Try.prog 8 #[v, .string s] w fun e w' => e = .returned (.bool true) ∧ Below w.heap.size w w' := by
  have HL := Lib.hid hl
  obtain ⟨A, c, rfl, -, hcell⟩ := hl.form
  have HC := Lib.hid hcell
  clear hl hcell
  by_cases hn : l.length ≤ 100
  · by_cases hs : s.size ≤ 100
    · have h1 : ¬ (100 : Int) < (l.length : Int) := by omega
      have h2 : ¬ (100 : Int) < (s.size : Int) := by omega
      have K8 := fun W => eight_any s W (by omega)
      unfold eightOf at K8
      rcases eightFrom_is s.data.toList 0 with ⟨e1, e2⟩ | ⟨e1, e2⟩
      · rw [e1] at K8
        have HK8 := Lib.hid K8
        by_cases h0 : s.size = 0
        · have hz : ((s.size : Int) == 0) = true := by rw [h0]; rfl
          clear e1 e2 K8 h0
          go_enter Try.func8, Try.ntmps8
          go_wp2_with fail
          refine (small5_any _).mono ?_
          rintro e w1 ⟨rfl, hb1⟩
          have B1 := Lib.hid hb1
          clear hb1
          go_wp2_with fail
          refine (HK8.out _).mono ?_
          rintro e w2 ⟨rfl, rfl⟩
          go_wp2
          go_ret
          exact ⟨rfl, B1.out⟩
        · have hz : ((s.size : Int) == 0) = false := by rw [beq_eq_false_iff_ne]; omega
          have hrd := ascii_rd e2
          have HR := Lib.hid (fun W => runes_at s W (by omega) hrd)
          have hne : s.data.toList ≠ [] := fun e => by
            have := bytes_len s
            rw [e] at this
            simp only [List.length_nil] at this
            omega
          have henc := Puny.enc_plain e2 hne
          have hints : ints (s.data.toList.map fun b => b.toNat) = s.data.toList.map Puny.byteZ := by
            unfold ints
            rw [List.map_map]
            rfl
          have hri : rightsZ (s.data.toList.map Puny.byteZ) = true := by
            unfold rightsZ
            rw [List.all_eq_true]
            intro x hx
            obtain ⟨b, hb, rfl⟩ := List.mem_map.1 hx
            have := e2 b hb
            exact (rightZ_iff _).2 (by unfold Puny.byteZ; omega)
          unfold RunesAt at HR
          rw [hints, List.length_map, bytes_len] at HR
          have KE := fun v W (hv : Runes v (s.data.toList.map Puny.byteZ) W) => encodeP_yes v _ W hv (by rw [List.length_map, bytes_len]; omega) hri
          rw [henc] at KE
          unfold Wrote at KE
          have hcat : (⟨(s.data.toList ++ [45]).toArray⟩ : ByteArray) = s ++ (⟨#[45]⟩ : ByteArray) := by rw [← bytes_is (more_bytes s 45)]
          rw [hcat] at KE
          have HKE := Lib.hid KE
          obtain ⟨T, hT⟩ : ∃ T : ByteArray, s ++ (⟨#[45]⟩ : ByteArray) = T := ⟨_, rfl⟩
          rw [hT] at HKE
          have hTT : (T.toList != T.toList) = false := by simp
          clear e1 e2 K8 h0 hrd hne henc hints hri KE hcat
          go_enter Try.func8, Try.ntmps8
          go_wp2_with fail
          refine (small5_any _).mono ?_
          rintro e w1 ⟨rfl, hb1⟩
          have B1 := Lib.hid hb1
          clear hb1
          go_wp2_with fail
          refine (HK8.out _).mono ?_
          rintro e w2 ⟨rfl, rfl⟩
          go_wp2_with fail
          refine (HR.out _).mono ?_
          rintro e w3 ⟨A3, c3, rfl, hr3, hb3⟩
          have R3 := Lib.hid hr3
          have B3 := Lib.hid (below_then B1.out hb3)
          clear hr3 hb3 B1
          go_wp2_with fail
          refine (HKE.out _ _ R3.out).mono ?_
          rintro e w4 ⟨rfl, hb4⟩
          have B4 := Lib.hid (below_then B3.out hb4)
          clear hb4 B3 R3 HKE HR
          go_wp2
          go_loopg [10, 11] (l.length + 1) (fun gk s10 i wr => ∃ k : Nat, k ≤ l.length ∧ i = .int .i64 k ∧ l.length - k < gk ∧ Hid (OwnR w.heap.size s10 (Puny.wide (l.take k)) wr ∧ Below w.heap.size w wr))
          case atStart => exact ⟨0, Nat.zero_le _, rfl, by omega, ⟨OwnR.nil _ _, B4.out⟩⟩
          case round =>
            obtain ⟨k, hk, rfl, hg, I⟩ := hrel
            by_cases hlt : k < l.length
            · obtain ⟨ad, rfl, hb, hx⟩ := HC.out k hlt
              have hx' := (I.out.2.cell (by rw [add_block]; exact hb)).trans hx
              obtain ⟨x, hxe⟩ : ∃ x, x = l[k]! := ⟨_, rfl⟩
              rw [← hxe] at hx'
              have ht : l.take (k + 1) = l.take k ++ [x] := by rw [Utf.take_next l k hlt, ← hxe]
              have hws := Puny.wide_snoc (l.take k) x
              rw [← ht] at hws
              have hkz : (k : Int) < (l.length : Int) := by omega
              have hle : (Puny.wide (l.take k)).length ≤ 1000000 := by
                have : (Puny.wide (l.take k)).length ≤ (l.take k).length := List.length_filter_le _ _
                rw [List.length_take] at this
                omega
              clear hx hb hxe ht
              by_cases hp : 127 < x
              · rw [if_pos hp] at hws
                have HW := Lib.hid hws
                clear hws
                go_wp2_with (at_builtin; refine append_cells wr 29 21 (.int .i32 0) 4 Try.underlying29 info_i32 rfl (by omega) w.heap.size _ _ _ I.out.1 I.out.2.size hle 1 (by omega) _ rfl rfl rfl _ _ rfl rfl rfl ?_; intro v3 w3 ho3 hb3; have HO := Lib.hid ho3; have HB3 := Lib.hid hb3; clear ho3 hb3)
                go_roundg (l.length - k)
                case measure => omega
                case rel => exact ⟨k + 1, by omega, by go_num, by omega, ⟨by rw [HW.out]; exact OwnR.more HO.out rfl rfl, I.out.2.trans HB3.out⟩⟩
              · rw [if_neg hp] at hws
                have J : Hid (OwnR w.heap.size u10 (Puny.wide (l.take (k + 1))) wr ∧ Below w.heap.size w wr) := ⟨by rw [hws]; exact I.out.1, I.out.2⟩
                clear hws I
                go_wp2
                go_roundg (l.length - k)
                case measure => omega
                case rel => exact ⟨k + 1, by omega, by go_num, by omega, J⟩
            · obtain rfl : k = l.length := by omega
              have h := I.out
              rw [List.take_length] at h
              have hwl : (Puny.wide l).length ≤ l.length := List.length_filter_le _ _
              obtain ⟨A5, c5, hv5, -⟩ := h.1.shape
              subst hv5
              have RU := Lib.hid h.1.runes
              have BI := Lib.hid h.2
              clear h I
              cases hr : rightsZ (Puny.wide l) with
              | false =>
                have KN := Lib.hid (encodeP_no _ _ wr RU.out (by omega) hr)
                clear hr
                go_wp2_with fail
                refine KN.out.mono ?_
                rintro e w6 ⟨rfl, hb6⟩
                have B6 := Lib.hid (below_then BI.out hb6)
                clear hb6 BI KN
                go_wp2
                go_loopg [14, 15, 16] 1 (fun gk s14 _ _ wr => s14 = .int .i64 0 ∧ 0 < gk ∧ Hid (Below w.heap.size w wr))
                case atStart => exact ⟨rfl, by omega, B6.out⟩
                case round =>
                  obtain ⟨rfl, hg9, I9⟩ := hrel
                  go_wp2
                  all_goals
                    go_ret
                    exact ⟨rfl, I9.out⟩
              | true =>
                have KY := encodeP_len _ _ wr RU.out (by omega) hr
                obtain ⟨hd1, hd2⟩ := Puny.enc_wide hr Puny.wide_mem
                obtain ⟨X, hX⟩ : ∃ X : ByteArray, X = ⟨(Puny.encB (Puny.wide l)).toArray⟩ := ⟨_, rfl⟩
                have hXl : X.data.toList = Puny.encB (Puny.wide l) := by rw [hX]
                have hXs : X.size = (Puny.encB (Puny.wide l)).length := by rw [← bytes_len, hXl]
                unfold Wrote at KY
                rw [← hX, ← hXs] at KY
                rw [← hXs] at hd2
                rw [← hXl] at hd1
                have HKY := Lib.hid KY
                have HD1 := Lib.hid hd1
                clear KY hX hXl hXs hr hd1
                go_wp2_with fail
                refine HKY.out.mono ?_
                rintro e w6 ⟨⟨rfl, hb6⟩, hXb⟩
                have hXc : X.size ≤ 10000 := by omega
                clear hXb
                have B6 := Lib.hid (below_then BI.out hb6)
                clear hb6 BI HKY
                go_wp2
                go_loopg [14, 15, 16] (X.size + 1) (fun gk s14 _ _ wr => ∃ k : Nat, s14 = .int .i64 k ∧ k ≤ X.size ∧ X.size - k < gk ∧ Hid (Below w.heap.size w wr))
                case atStart => exact ⟨0, rfl, Nat.zero_le _, by omega, B6.out⟩
                case round =>
                  obtain ⟨k, rfl, hk9, hg9, I9⟩ := hrel
                  by_cases hlt9 : k < X.size
                  · have hkz : (k : Int) < (X.size : Int) := by omega
                    have hub : X[k].toNat < 256 := X[k].toNat_lt
                    have KV := valueP_any (X[k].toNat : Int) wr (by omega)
                    obtain ⟨g1, g2⟩ := HD1.out X[k] (by
                      have h := drop_next X k hlt9
                      exact List.mem_of_mem_drop (show X[k] ∈ X.data.toList.drop k by rw [h]; simp))
                    unfold Puny.valB Puny.byteZ at g1
                    rw [g1] at KV
                    generalize (Puny.valOf (X[k].toNat : Int)).getD 0 = dd at KV
                    have HKV := Lib.hid KV
                    by_cases hA : 65 ≤ X[k].toNat
                    · have hA1 : (65 : Int) ≤ (X[k].toNat : Int) := by omega
                      have hA2 : ¬ (X[k].toNat : Int) ≤ 90 := by omega
                      clear KV g1 g2 hA
                      go_wp2_with fail
                      refine HKV.out.mono ?_
                      rintro e w7 ⟨rfl, rfl⟩
                      go_wp2
                      go_roundg (X.size - k)
                      case measure => omega
                      case rel => exact ⟨k + 1, by go_num, by omega, by omega, I9⟩
                    · have hA1 : ¬ (65 : Int) ≤ (X[k].toNat : Int) := by omega
                      clear KV g1 g2 hA
                      go_wp2_with fail
                      refine HKV.out.mono ?_
                      rintro e w7 ⟨rfl, rfl⟩
                      go_wp2
                      go_roundg (X.size - k)
                      case measure => omega
                      case rel => exact ⟨k + 1, by go_num, by omega, by omega, I9⟩
                  · obtain rfl : k = X.size := by omega
                    have hdz : ((Puny.wide l).length : Int) ≤ (X.size : Int) := by omega
                    go_wp2
                    go_ret
                    exact ⟨rfl, I9.out⟩
      · obtain ⟨z, hz⟩ : ∃ z, z = eightFrom s.data.toList 0 := ⟨_, rfl⟩
        rw [← hz] at K8 e1
        have HK8 := Lib.hid K8
        clear e2 K8 hz
        go_enter Try.func8, Try.ntmps8
        go_wp2_with fail
        refine (small5_any _).mono ?_
        rintro e w1 ⟨rfl, hb1⟩
        have B1 := Lib.hid hb1
        clear hb1
        go_wp2_with fail
        refine (HK8.out _).mono ?_
        rintro e w2 ⟨rfl, rfl⟩
        go_wp2
        go_ret
        exact ⟨rfl, B1.out⟩
    · have h1 : ¬ (100 : Int) < (l.length : Int) := by omega
      have h2 : (100 : Int) < (s.size : Int) := by omega
      go_enter Try.func8, Try.ntmps8
      go_wp2_with fail
      refine (small5_any _).mono ?_
      rintro e w1 ⟨rfl, hb1⟩
      have B1 := Lib.hid hb1
      clear hb1
      go_wp2
      go_ret
      exact ⟨rfl, B1.out⟩
  · have h1 : (100 : Int) < (l.length : Int) := by omega
    go_enter Try.func8, Try.ntmps8
    go_wp2_with fail
    refine (small5_any _).mono ?_
    rintro e w1 ⟨rfl, hb1⟩
    have B1 := Lib.hid hb1
    clear hb1
    go_wp2
    go_ret
    exact ⟨rfl, B1.out⟩
end Go.Proofs.Ytkgikkdgfhonlaa
