/-
  Proved here: a string's normal forms are the document's own (NormForms), at any string: the law's call returns true, and nothing that lay has turned. Conditions: none.
-/
import Derived.Test.YtpmcmbkilcpleaaNormSmall
namespace Go.Proofs.Ytpmcmbkilcpleaa
open Go.RowKit Utf
theorem fits_of {s : ByteArray} (hs : s.size ≤ 200) {m : List Nat} (h : rdOf s.data.toList = (m, -1)) (soft : Bool) : Fits soft s m := by
  have h1 := (rd_cases h).2.1
  have h2 : m.length ≤ 200 := by simp at h1; omega
  have h3 := down_len soft (ints m)
  have h4 : (ints m).length = m.length := by simp [ints]
  exact ⟨by omega, h, by omega, by omega⟩
set_option maxRecDepth 100000 in
set_option maxHeartbeats 8000000 in
theorem forms_walk (s : ByteArray) (w : World) : Calls Try.prog 4 #[.string s] w fun e w' => e = .returned (.bool true) ∧ Below w.heap.size w w' := by
  by_cases hs : s.size ≤ 200
  · have hsz : (s.size : Int) ≤ 200 := by omega
    obtain ⟨⟨m, z⟩, hrd⟩ : ∃ p, rdOf s.data.toList = p := ⟨_, rfl⟩
    obtain ⟨hm1, hm2, hmz⟩ := rd_cases hrd
    rcases hmz with ⟨rfl, -⟩ | ⟨k, rfl, -, -⟩
    · have hml : m.length ≤ 200 := by simp at hm2; omega
      have F0 := Lib.hid (fits_of hs hrd false)
      have F1 := Lib.hid (fits_of hs hrd true)
      have Q := Lib.hid (fun soft join W => form3_yes s soft join W (by omega) hml hrd)
      obtain ⟨a, ha⟩ : ∃ a, encZ (formOf false false (ints m)) = a := ⟨_, rfl⟩
      obtain ⟨b, hb⟩ : ∃ b, encZ (formOf false true (ints m)) = b := ⟨_, rfl⟩
      obtain ⟨c, hc⟩ : ∃ c, encZ (formOf true false (ints m)) = c := ⟨_, rfl⟩
      obtain ⟨d, hd⟩ : ∃ d, encZ (formOf true true (ints m)) = d := ⟨_, rfl⟩
      have Q1 := Q.out false false
      have Q2 := Q.out false true
      have Q3 := Q.out true false
      have Q4 := Q.out true true
      rw [ha] at Q1
      rw [hb] at Q2
      rw [hc] at Q3
      rw [hd] at Q4
      have R1 := Lib.hid Q1
      have R2 := Lib.hid Q2
      have R3 := Lib.hid Q3
      have R4 := Lib.hid Q4
      have HA := Lib.hid ha
      have HB := Lib.hid hb
      have HC := Lib.hid hc
      have HD := Lib.hid hd
      clear hrd hm1 hm2 hml Q Q1 Q2 Q3 Q4 ha hb hc hd
      cases hbs : (b == s.toList)
      all_goals
        have IB := Lib.hid ((congrArg (· == s.toList) HB.out).trans hbs)
        go_enter Try.func4, Try.ntmps4
        go_wp2_with fail
        refine (small3_any _).mono ?_
        rintro e w1 ⟨rfl, hb1⟩
        have B1 := Lib.hid hb1
        clear hb1
        go_wp2_with fail
        refine (new_any _).mono ?_
        rintro e w2 ⟨tt, rfl, hT, hb2⟩
        have hT' := hT
        obtain ⟨b0, b1, b2, b3, rfl, -, -, -, -⟩ := hT'
        have K0 := Lib.hid (kept_new (b0 := b0) (b1 := b1) (b2 := b2) (b3 := b3) (below_then B1.out hb2) hT 30)
        clear hT hb2 B1
        go_wp2_with fail
        refine (nfd_at K0.out F0.out HA.out).mono ?_
        rintro e w3 ⟨rfl, K1, L1⟩
        obtain ⟨hS, c0, c1, c2, c3⟩ := K1.out.held
        clear K0 L1
        go_wp2_with fail
        refine (nfc_at K1.out F0.out HB.out).mono ?_
        rintro e w4 ⟨rfl, K2, L2⟩
        obtain ⟨hS, c0, c1, c2, c3⟩ := K2.out.held
        clear K1 L2
        go_wp2_with fail
        refine (nfkd_at K2.out F1.out HC.out).mono ?_
        rintro e w5 ⟨rfl, K3, L3⟩
        obtain ⟨hS, c0, c1, c2, c3⟩ := K3.out.held
        clear K2 L3
        go_wp2_with fail
        refine (nfkc_at K3.out F1.out HD.out).mono ?_
        rintro e w6 ⟨rfl, K4, L4⟩
        obtain ⟨hS, c0, c1, c2, c3⟩ := K4.out.held
        clear K3 L4
        go_wp2_with fail
        refine (R1.out _).mono ?_
        rintro e w7 ⟨rfl, hbb⟩
        have K5 := Lib.hid (K4.out.next hbb)
        obtain ⟨hS, c0, c1, c2, c3⟩ := K5.out.held
        clear K4 hbb
        go_wp2_with fail
        refine (R2.out _).mono ?_
        rintro e w8 ⟨rfl, hbb⟩
        have K6 := Lib.hid (K5.out.next hbb)
        obtain ⟨hS, c0, c1, c2, c3⟩ := K6.out.held
        clear K5 hbb
        go_wp2_with fail
        refine (R3.out _).mono ?_
        rintro e w9 ⟨rfl, hbb⟩
        have K7 := Lib.hid (K6.out.next hbb)
        obtain ⟨hS, c0, c1, c2, c3⟩ := K7.out.held
        clear K6 hbb
        go_wp2_with fail
        refine (R4.out _).mono ?_
        rintro e w10 ⟨rfl, hbb⟩
        have K8 := Lib.hid (K7.out.next hbb)
        obtain ⟨hS, c0, c1, c2, c3⟩ := K8.out.held
        clear K7 hbb
        go_wp2_with fail
        refine (is_at K8.out F0.out IB.out).mono ?_
        rintro e w11 ⟨rfl, K9, L9⟩
        obtain ⟨hS, c0, c1, c2, c3⟩ := K9.out.held
        clear K8 L9
        go_wp2
        go_ret
        exact ⟨rfl, K9.out.below⟩
    · have NO := Lib.hid hrd
      have Q := Lib.hid (fun soft join W => form3_no s soft join W (by omega) hrd)
      have hsb : s.size ≤ 100000 := by omega
      clear hrd hm1 hm2
      go_enter Try.func4, Try.ntmps4
      go_wp2_with fail
      refine (small3_any _).mono ?_
      rintro e w1 ⟨rfl, hb1⟩
      have B1 := Lib.hid hb1
      clear hb1
      go_wp2_with fail
      refine (new_any _).mono ?_
      rintro e w2 ⟨tt, rfl, hT, hb2⟩
      have hT' := hT
      obtain ⟨b0, b1, b2, b3, rfl, -, -, -, -⟩ := hT'
      have K0 := Lib.hid (kept_new (b0 := b0) (b1 := b1) (b2 := b2) (b3 := b3) (below_then B1.out hb2) hT 30)
      clear hT hb2 B1
      go_wp2_with fail
      refine (nfd_not K0.out hsb NO.out).mono ?_
      rintro e w3 ⟨rfl, K1, L1⟩
      obtain ⟨hS, c0, c1, c2, c3⟩ := K1.out.held
      clear K0 L1
      go_wp2_with fail
      refine (nfc_not K1.out hsb NO.out).mono ?_
      rintro e w4 ⟨rfl, K2, L2⟩
      obtain ⟨hS, c0, c1, c2, c3⟩ := K2.out.held
      clear K1 L2
      go_wp2_with fail
      refine (nfkd_not K2.out hsb NO.out).mono ?_
      rintro e w5 ⟨rfl, K3, L3⟩
      obtain ⟨hS, c0, c1, c2, c3⟩ := K3.out.held
      clear K2 L3
      go_wp2_with fail
      refine (nfkc_not K3.out hsb NO.out).mono ?_
      rintro e w6 ⟨rfl, K4, L4⟩
      obtain ⟨hS, c0, c1, c2, c3⟩ := K4.out.held
      clear K3 L4
      go_wp2_with fail
      refine (Q.out _ _ _).mono ?_
      rintro e w7 ⟨rfl, hbb⟩
      have K5 := Lib.hid (K4.out.next hbb)
      obtain ⟨hS, c0, c1, c2, c3⟩ := K5.out.held
      clear K4 hbb
      go_wp2_with fail
      refine (Q.out _ _ _).mono ?_
      rintro e w8 ⟨rfl, hbb⟩
      have K6 := Lib.hid (K5.out.next hbb)
      obtain ⟨hS, c0, c1, c2, c3⟩ := K6.out.held
      clear K5 hbb
      go_wp2_with fail
      refine (Q.out _ _ _).mono ?_
      rintro e w9 ⟨rfl, hbb⟩
      have K7 := Lib.hid (K6.out.next hbb)
      obtain ⟨hS, c0, c1, c2, c3⟩ := K7.out.held
      clear K6 hbb
      go_wp2_with fail
      refine (Q.out _ _ _).mono ?_
      rintro e w10 ⟨rfl, hbb⟩
      have K8 := Lib.hid (K7.out.next hbb)
      obtain ⟨hS, c0, c1, c2, c3⟩ := K8.out.held
      clear K7 hbb
      go_wp2_with fail
      refine (is_not K8.out hsb NO.out).mono ?_
      rintro e w11 ⟨rfl, K9, L9⟩
      obtain ⟨hS, c0, c1, c2, c3⟩ := K9.out.held
      clear K8 L9
      go_wp2
      go_ret
      exact ⟨rfl, K9.out.below⟩
  · have hsz : ¬ (s.size : Int) ≤ 200 := by omega
    have hsg : (200 : Int) < (s.size : Int) := by omega
    go_enter Try.func4, Try.ntmps4
    go_wp2_with fail
    refine (small3_any _).mono ?_
    rintro e w1 ⟨rfl, hb1⟩
    have B1 := Lib.hid hb1
    clear hb1
    go_wp2
    go_ret
    exact ⟨rfl, B1.out⟩
end Go.Proofs.Ytpmcmbkilcpleaa
