/-
  Proved here: the law PrecisBlank, given what the program's four functions tell. Conditions: none.
-/
import Derived.Test.YtmbammhkkcnoaaaGreatPrecSmall
import Derived.Test.YtmbammhkkcnoaaaGreatPunyB
import Derived.Deep.RegionHeld3
import Derived.Deep.RegionWith
import Derived.StillTailTactics
import Derived.Deep.DeepCutAuto
namespace Go.Proofs.YtmbammhkkcnoaaaGreat
open Go.RowKit Utf
theorem take_ext (s : ByteArray) (k : Nat) : (s.extract 0 k).data.toList = s.data.toList.take k := by
  rw [ByteArray.data_extract, Array.toList_extract, List.extract_eq_take_drop, List.drop_zero, Nat.sub_zero]
theorem byte_conv' (W : World) (u : UInt8) {n : Nat} (hn : W.heap.size = n) : (convert 45 9 (.slice (some ⟨n, 0, none⟩) 1 1)).run Tryz.prog (W.alloc (.cells #[.int .u8 (u.toNat : Int)] 5)).drew = .ok (.string ⟨#[u]⟩) (W.alloc (.cells #[.int .u8 (u.toNat : Int)] 5)).drew := by
  subst hn
  exact string_of (Row.keep (bytes_lit W [byteV u] [u] rfl 1 rfl) (Below.refl _ _).drew)
set_option maxHeartbeats 8000000 in
set_option maxRecDepth 100000 in
theorem blank10_walk (B : PrecOk) (s : ByteArray) (i : Int) (c : UInt8) (w : World) : Calls Tryz.prog 7 #[.string s, .int .i64 i, .int .u8 (c.toNat : Int)] w fun e w' => e = .returned (.bool true) ∧ Below w.heap.size w w' := by
  by_cases hs : s.size ≤ 150 ∧ 0 ≤ i ∧ i ≤ (s.size : Int) ∧ (c.toNat ≤ 32 ∨ c.toNat = 127)
  case neg =>
    have hcs : decide ((150 : Int) < (s.size : Int)) = true ∨ (decide ((150 : Int) < (s.size : Int)) = false ∧ (decide (i < 0) = true ∨ (decide (i < 0) = false ∧ (decide ((s.size : Int) < i) = true ∨ (decide ((s.size : Int) < i) = false ∧ decide ((32 : Int) < (c.toNat : Int)) = true ∧ ((c.toNat : Int) != 127) = true))))) := by
      by_cases h1 : (150 : Int) < (s.size : Int)
      · exact .inl (decide_eq_true h1)
      · refine .inr ⟨decide_eq_false h1, ?_⟩
        by_cases h2 : i < 0
        · exact .inl (decide_eq_true h2)
        · refine .inr ⟨decide_eq_false h2, ?_⟩
          by_cases h3 : (s.size : Int) < i
          · exact .inl (decide_eq_true h3)
          · exact .inr ⟨decide_eq_false h3, decide_eq_true (by omega), by rw [bne_iff_ne]; omega⟩
    clear hs
    rcases hcs with q1 | ⟨q1, q2 | ⟨q2, q3 | ⟨q3, q4, q5⟩⟩⟩
    all_goals
      go_enter Tryz.func7, Tryz.ntmps7
      go_wp2_with fail
      refine (small10_any B _).mono ?_
      rintro e w0 ⟨rfl, hb0⟩
      have B0 := Lib.hid hb0
      clear hb0
      go_wp2
      go_ret
      exact ⟨rfl, B0.out⟩
  obtain ⟨h1, h2, h3, h4⟩ := hs
  obtain ⟨k, rfl⟩ : ∃ k : Nat, i = k := ⟨i.toNat, by omega⟩
  have hk : k ≤ s.size := by omega
  have q1 : decide ((150 : Int) < (s.size : Int)) = false := decide_eq_false (by omega)
  have q2 : decide ((k : Int) < 0) = false := decide_eq_false (by omega)
  have q3 : decide ((s.size : Int) < (k : Int)) = false := decide_eq_false (by omega)
  have hc : (decide ((32 : Int) < (c.toNat : Int)) = false) ∨ (decide ((32 : Int) < (c.toNat : Int)) = true ∧ ((c.toNat : Int) != 127) = false) := by
    rcases h4 with h | h
    · exact .inl (decide_eq_false (by omega))
    · exact .inr ⟨decide_eq_true (by omega), by rw [h]; rfl⟩
  rcases hc with q4 | ⟨q4, q5⟩
  all_goals
    go_enter Tryz.func7, Tryz.ntmps7
    go_wp2_with fail
    refine (small10_any B _).mono ?_
    rintro e w0 ⟨rfl, hb0⟩
    have B0 := Lib.hid hb0
    clear hb0
    go_wp2_with fail
    refine (new_any _).mono ?_
    rintro e w1 ⟨tt, rfl, hT, hb1⟩
    have hT' := hT
    obtain ⟨b0, b1, b2, b3, rfl, -, -, -, -⟩ := hT'
    have K0 := Lib.hid (kept_new (b0 := b0) (b1 := b1) (b2 := b2) (b3 := b3) (below_then B0.out hb1) hT 28)
    obtain ⟨hS, c0, c1, c2, c3⟩ := K0.out.held
    clear hT hb1 B0
    obtain ⟨S, hS'⟩ : ∃ S : ByteArray, S = s.extract 0 k ++ (⟨#[c]⟩ : ByteArray) ++ s.extract k s.size := ⟨_, rfl⟩
    have hconv := byte_conv' (w1.alloc (.cells #[.slice (some ⟨b0, 0, none⟩) 74 74, .slice (some ⟨b1, 0, none⟩) 10 10, .slice (some ⟨b2, 0, none⟩) 11 11, .slice (some ⟨b3, 0, none⟩) 42 42] 28)) c (n := w1.heap.size + 1) (by simp)
    have hSb : S.data.toList = s.data.toList.take k ++ [c] ++ s.data.toList.drop k := by
      rw [hS', ByteArray.data_append, Array.toList_append, ByteArray.data_append, Array.toList_append, extract_drop, take_ext]
    have hSs : S.size ≤ 200 := by
      have h : S.data.toList.length = S.size := by simp
      have hl : s.data.toList.length = s.size := by simp
      rw [hSb] at h
      simp only [List.length_append, List.length_take, List.length_drop, List.length_cons, List.length_nil] at h
      omega
    have hE := Prec.blank_is h4 (show c ∈ S.data.toList by rw [hSb]; simp)
    obtain ⟨⟨E, n⟩, hn⟩ : ∃ p, Prec.nameE S.data.toList = p := ⟨_, rfl⟩
    rw [hn] at hE
    have hE : E = 8 ∨ E = 7 := hE
    have KN := Lib.hid (fun W (h : Below (w1.alloc (.cells #[.slice (some ⟨b0, 0, none⟩) 74 74, .slice (some ⟨b1, 0, none⟩) 10 10, .slice (some ⟨b2, 0, none⟩) 11 11, .slice (some ⟨b3, 0, none⟩) 42 42] 28)).heap.size (w1.alloc (.cells #[.slice (some ⟨b0, 0, none⟩) 74 74, .slice (some ⟨b1, 0, none⟩) 10 10, .slice (some ⟨b2, 0, none⟩) 11 11, .slice (some ⟨b3, 0, none⟩) 42 42] 28)) W) => B.name_at (.agg #[.slice (some ⟨b0, 0, none⟩) 74 74, .slice (some ⟨b1, 0, none⟩) 10 10, .slice (some ⟨b2, 0, none⟩) 11 11, .slice (some ⟨b3, 0, none⟩) 42 42]) S W (K0.out.table.below h) (lab_of' hSs) hn)
    have HS := Lib.hid hS'
    have hKb := Lib.hid K0.out.below
    have hHd := Lib.hid K0.out.held
    have g1 : ¬ 9223372036854775807 < k + 1 := by omega
    have g2 : ¬ 9223372036854775807 < k + 1 + (s.size - k) := by omega
    clear hS' hSb hSs hn h4
    go_upto_region 5 with (fail)
    go_cut [10] (fun s10 wx => s10 = .int .i64 E ∧ Hid (Below w.heap.size w wx))
    case first =>
      go_region_with (first
        | (go_at_call 10; rw [← HS.out]; (with_reducible refine (KN.out _ (below_one _ _).drew).mono ?_); rintro e w5 ⟨rfl, hb5⟩; have BM := Lib.hid (((below_one _ _).drew).trans (hb5.mono (by simp))); have BN := Lib.hid (hKb.out.trans (BM.out.mono (by have := hKb.out.size; omega))); clear hb5))
      all_goals go_wp2_with fail
      all_goals go_meet
      all_goals exact ⟨rfl, BN⟩
    case rest =>
      obtain ⟨rfl, BN⟩ := hcut
      clear hconv
      rcases hE with rfl | rfl
      all_goals
        go_wp2
        go_ret
        exact ⟨rfl, BN.out⟩
theorem blank10_row (B : PrecOk) (s : ByteArray) (i y : Int) (w : World) (hy : 0 ≤ y ∧ y ≤ 255) : Calls Tryz.prog 7 #[.string s, .int .i64 i, .int .u8 y] w fun e w' => e = .returned (.bool true) ∧ Below w.heap.size w w' := by
  have e : ((UInt8.ofNat y.toNat).toNat : Int) = y := by
    rw [UInt8.toNat_ofNat', Nat.mod_eq_of_lt (by show y.toNat < 256; omega)]
    omega
  have := blank10_walk B s i (UInt8.ofNat y.toNat) w
  rwa [e] at this
end Go.Proofs.YtmbammhkkcnoaaaGreat
