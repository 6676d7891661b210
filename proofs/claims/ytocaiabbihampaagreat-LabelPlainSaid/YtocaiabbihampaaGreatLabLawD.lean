/-
  Proved here: the law LabelPlain, given what the program's six functions tell. Conditions: none.
-/
import Derived.Test.YtocaiabbihampaaGreatLabSmall
import Derived.Test.YtocaiabbihampaaGreatLabFine
import Derived.BigRegion
import Derived.Deep.DeepCutAuto
namespace Go.Proofs.YtocaiabbihampaaGreat
open Go.RowKit Utf
namespace Lab
theorem all_next (f : Nat → Bool) (k : Nat) : (List.range (k + 1)).all f = ((List.range k).all f && f k) := by rw [List.range_succ, List.all_append]; simp
def fineTo (bs : List UInt8) (k : Nat) : Bool := decide (0 < bs.length) && decide (bs.length ≤ 63) && (List.range k).all (okAt bs)
theorem fine_next (bs : List UInt8) (k : Nat) : fineTo bs (k + 1) = (fineTo bs k && okAt bs k) := by
  unfold fineTo
  rw [all_next, Bool.and_assoc, Bool.and_assoc, Bool.and_assoc]
theorem plain_fine (bs : List UInt8) : (plainE bs == 0) = fineTo bs bs.length := by
  rw [Bool.eq_iff_iff, beq_iff_eq, plain_iff]
  unfold fineTo
  simp only [Bool.and_eq_true, decide_eq_true_eq, List.all_eq_true, List.mem_range, and_assoc]
theorem byteAt_s {s : ByteArray} {k : Nat} (h : k < s.size) : byteAt s.data.toList k = (s[k].toNat : Int) := by
  rw [byteAt_in (by simpa using h)]
  rfl
/-- A byte that is no dash. -/
theorem okAt_other {bs : List UInt8} {k : Nat} {c : Int} (hc : byteAt bs k = c) (h : c ≠ 45) : okAt bs k = Bidi.plainC c := by
  unfold okAt
  rw [hc, show (c != 45) = true by simpa using h, show (c == 45) = false by simpa using h, Bool.and_true]
  simp
theorem okAt_dash {bs : List UInt8} {k : Nat} (hc : byteAt bs k = 45) : okAt bs k = (decide (0 < k) && decide (k + 1 < bs.length) && (k != 2 || byteAt bs 3 != 45)) := by
  unfold okAt
  rw [hc]
  simp
end Lab
set_option maxHeartbeats 8000000 in
set_option maxRecDepth 100000 in
theorem plain8_walk (B : LabOk) (s : ByteArray) (w : World) : Calls Tryz.prog 6 #[.string s] w fun e w' => e = .returned (.bool true) ∧ Below w.heap.size w w' := by
  by_cases hs : s.size ≤ 200
  · have hsz : ¬ (200 : Int) < (s.size : Int) := by omega
    have hsl : s.data.toList.length = s.size := by simp
    obtain ⟨p, hp⟩ : ∃ p, Lab.plainE s.data.toList = p := ⟨_, rfl⟩
    have hpf := Lab.plain_fine s.data.toList
    rw [hp, hsl] at hpf
    have HP := Lib.hid hp
    have HPF := Lib.hid hpf
    have HSL := Lib.hid hsl
    obtain ⟨f0, hf0⟩ : ∃ f, Lab.fineTo s.data.toList 0 = f := ⟨_, rfl⟩
    have hfc : ((s.size : Int) = 0 ∧ f0 = false) ∨ ((0 : Int) < (s.size : Int) ∧ decide ((s.size : Int) ≤ 63) = false ∧ f0 = false) ∨ ((0 : Int) < (s.size : Int) ∧ (s.size : Int) ≤ 63 ∧ f0 = true) := by
      rw [← hf0]
      unfold Lab.fineTo
      rw [hsl]
      by_cases h1 : s.size = 0
      · exact .inl ⟨by omega, by rw [decide_eq_false (p := 0 < s.size) (by omega)]; rfl⟩
      · by_cases h2 : s.size ≤ 63
        · exact .inr (.inr ⟨by omega, by omega, by rw [decide_eq_true (p := 0 < s.size) (by omega), decide_eq_true h2]; rfl⟩)
        · exact .inr (.inl ⟨by omega, decide_eq_false (by omega), by rw [decide_eq_true (p := 0 < s.size) (by omega), decide_eq_false h2]; rfl⟩)
    have HF0 := Lib.hid hf0
    clear hp hpf hsl hf0
    go_enter Tryz.func6, Tryz.ntmps6
    go_wp2_with fail
    refine (small8_any B _).mono ?_
    rintro e w0 ⟨rfl, hb0⟩
    have B0 := Lib.hid hb0
    clear hb0
    have hsc : (0 : Int) ≤ (s.size : Int) := by omega
    go_upto_region 4 with (fail)
    go_cut [4] (fun s4 wx => s4 = .bool f0 ∧ Hid (Below w.heap.size w wx))
    case first =>
      rcases hfc with ⟨h1, rfl⟩ | ⟨h1, h2, rfl⟩ | ⟨h1, h2, rfl⟩
      all_goals
        go_wp2_with fail
        go_meet
        exact ⟨rfl, B0⟩
    case rest =>
      obtain ⟨rfl, BC⟩ := hcut
      clear B0 hfc
      go_wp2
      go_loopg [4, 5, 6, 7] (s.size + 1) (fun gk s4 s5 _ _ wr => ∃ (k : Nat) (f : Bool), s4 = .bool f ∧ k ≤ s.size ∧ s5 = .int .i64 k ∧ s.size - k < gk ∧ Hid (Lab.fineTo s.data.toList k = f ∧ Below w.heap.size w wr))
      case atStart => exact ⟨0, f0, rfl, Nat.zero_le _, rfl, by omega, ⟨HF0.out, BC.out⟩⟩
      case round =>
        obtain ⟨k, f, rfl, hk, rfl, hg, I⟩ := hrel
        by_cases hlt : k < s.size
        · have hkz : (k : Int) < (s.size : Int) := by omega
          have hub : s[k].toNat < 256 := s[k].toNat_lt
          have hnx := Lab.fine_next s.data.toList k
          rw [I.out.1] at hnx
          have hby := Lab.byteAt_s hlt
          obtain ⟨c, hce⟩ : ∃ c : Int, (s[k].toNat : Int) = c := ⟨_, rfl⟩
          have c0 : 0 ≤ c := by omega
          have c1 : c ≤ 255 := by omega
          rw [hce] at hby
          clear hub
          cases f with
          | false =>
            have HN : Hid (Lab.fineTo s.data.toList (k + 1) = false) := Lib.hid (by rw [hnx]; rfl)
            clear hnx hby
            go_wp2
            go_roundg (s.size - k)
            case measure => omega
            case rel => exact ⟨k + 1, _, rfl, by omega, by go_num, by omega, ⟨HN.out, I.out.2⟩⟩
          | true =>
            rw [Bool.true_and] at hnx
            by_cases h45 : c = 45
            · subst h45
              rw [Lab.okAt_dash hby, HSL.out] at hnx
              by_cases k0 : k = 0
              · have HN : Hid (Lab.fineTo s.data.toList (k + 1) = false) := Lib.hid (by rw [hnx, decide_eq_false (p := 0 < k) (by omega)]; rfl)
                have g0 : ¬ (0 : Int) < (k : Int) := by omega
                clear hnx hby k0
                go_wp2
                go_roundg (s.size - k)
                case measure => omega
                case rel => exact ⟨k + 1, _, rfl, by omega, by go_num, by omega, ⟨HN.out, I.out.2⟩⟩
              by_cases k1 : k + 1 < s.size
              · have g0 : (0 : Int) < (k : Int) := by omega
                have g1 : (k : Int) < (s.size : Int) - 1 := by omega
                by_cases k2 : k = 2
                · subst k2
                  have h3 : 3 < s.size := by omega
                  have g3 : (3 : Int) < (s.size : Int) := by omega
                  have hb3 := Lab.byteAt_s h3
                  obtain ⟨c3, hc3⟩ : ∃ c : Int, (s[3].toNat : Int) = c := ⟨_, rfl⟩
                  rw [hc3] at hb3
                  rw [hb3] at hnx
                  obtain ⟨q, hq⟩ : ∃ q, (c3 != 45) = q := ⟨_, rfl⟩
                  rw [hq] at hnx
                  have HN : Hid (Lab.fineTo s.data.toList (2 + 1) = q) := Lib.hid (by rw [hnx, decide_eq_true (p := 2 + 1 < s.size) (by omega)]; cases q <;> rfl)
                  clear hnx hby hb3
                  go_wp2
                  go_roundg (s.size - 2)
                  case measure => omega
                  case rel => exact ⟨3, _, rfl, by omega, rfl, by omega, ⟨HN.out, I.out.2⟩⟩
                · have g2 : ((k : Int) != 2) = true := by rw [bne_iff_ne]; omega
                  have HN : Hid (Lab.fineTo s.data.toList (k + 1) = true) := Lib.hid (by
                    rw [hnx, decide_eq_true (p := 0 < k) (by omega), decide_eq_true k1, show (k != 2) = true by simpa using k2]
                    rfl)
                  clear hnx hby
                  go_wp2
                  go_roundg (s.size - k)
                  case measure => omega
                  case rel => exact ⟨k + 1, _, rfl, by omega, by go_num, by omega, ⟨HN.out, I.out.2⟩⟩
              · have g0 : (0 : Int) < (k : Int) := by omega
                have g1 : ¬ (k : Int) < (s.size : Int) - 1 := by omega
                have HN : Hid (Lab.fineTo s.data.toList (k + 1) = false) := Lib.hid (by rw [hnx, decide_eq_false k1, Bool.and_false]; rfl)
                clear hnx hby
                go_wp2
                go_roundg (s.size - k)
                case measure => omega
                case rel => exact ⟨k + 1, _, rfl, by omega, by go_num, by omega, ⟨HN.out, I.out.2⟩⟩
            · rw [Lab.okAt_other hby h45] at hnx
              have f0 : (c == 45) = false := by simpa using h45
              clear hby
              have hcs : (c < 48) ∨ (48 ≤ c ∧ c ≤ 57) ∨ (57 < c ∧ c < 65) ∨ (65 ≤ c ∧ c ≤ 90) ∨ (90 < c ∧ c < 97) ∨ (97 ≤ c ∧ c ≤ 122) ∨ 122 < c := by omega
              rcases hcs with hc | hc | hc | hc | hc | hc | hc
              · have HN : Hid (Lab.fineTo s.data.toList (k + 1) = false) := Lib.hid (by
                  rw [hnx]
                  unfold Bidi.plainC
                  simp
                  omega)
                have g0 : ¬ 97 ≤ c := by omega
                have g1 : ¬ 65 ≤ c := by omega
                have g2 : ¬ 48 ≤ c := by omega
                clear hnx hc h45
                go_wp2
                go_roundg (s.size - k)
                case measure => omega
                case rel => exact ⟨k + 1, _, rfl, by omega, by go_num, by omega, ⟨HN.out, I.out.2⟩⟩
              · have HN : Hid (Lab.fineTo s.data.toList (k + 1) = true) := Lib.hid (by
                  rw [hnx]
                  unfold Bidi.plainC
                  simp
                  omega)
                have g0 : ¬ 97 ≤ c := by omega
                have g1 : ¬ 65 ≤ c := by omega
                have g2 : 48 ≤ c := by omega
                have g3 : c ≤ 57 := by omega
                clear hnx hc h45
                go_wp2
                go_roundg (s.size - k)
                case measure => omega
                case rel => exact ⟨k + 1, _, rfl, by omega, by go_num, by omega, ⟨HN.out, I.out.2⟩⟩
              · have HN : Hid (Lab.fineTo s.data.toList (k + 1) = false) := Lib.hid (by
                  rw [hnx]
                  unfold Bidi.plainC
                  simp
                  omega)
                have g0 : ¬ 97 ≤ c := by omega
                have g1 : ¬ 65 ≤ c := by omega
                have g2 : 48 ≤ c := by omega
                have g3 : ¬ c ≤ 57 := by omega
                clear hnx hc h45
                go_wp2
                go_roundg (s.size - k)
                case measure => omega
                case rel => exact ⟨k + 1, _, rfl, by omega, by go_num, by omega, ⟨HN.out, I.out.2⟩⟩
              · have HN : Hid (Lab.fineTo s.data.toList (k + 1) = true) := Lib.hid (by
                  rw [hnx]
                  unfold Bidi.plainC
                  simp
                  omega)
                have g0 : ¬ 97 ≤ c := by omega
                have g1 : 65 ≤ c := by omega
                have g2 : c ≤ 90 := by omega
                clear hnx hc h45
                go_wp2
                go_roundg (s.size - k)
                case measure => omega
                case rel => exact ⟨k + 1, _, rfl, by omega, by go_num, by omega, ⟨HN.out, I.out.2⟩⟩
              · have HN : Hid (Lab.fineTo s.data.toList (k + 1) = false) := Lib.hid (by
                  rw [hnx]
                  unfold Bidi.plainC
                  simp
                  omega)
                have g0 : ¬ 97 ≤ c := by omega
                have g1 : 65 ≤ c := by omega
                have g2 : ¬ c ≤ 90 := by omega
                have g3 : 48 ≤ c := by omega
                have g4 : ¬ c ≤ 57 := by omega
                clear hnx hc h45
                go_wp2
                go_roundg (s.size - k)
                case measure => omega
                case rel => exact ⟨k + 1, _, rfl, by omega, by go_num, by omega, ⟨HN.out, I.out.2⟩⟩
              · have HN : Hid (Lab.fineTo s.data.toList (k + 1) = true) := Lib.hid (by
                  rw [hnx]
                  unfold Bidi.plainC
                  simp
                  omega)
                have g0 : 97 ≤ c := by omega
                have g1 : c ≤ 122 := by omega
                clear hnx hc h45
                go_wp2
                go_roundg (s.size - k)
                case measure => omega
                case rel => exact ⟨k + 1, _, rfl, by omega, by go_num, by omega, ⟨HN.out, I.out.2⟩⟩
              · have HN : Hid (Lab.fineTo s.data.toList (k + 1) = false) := Lib.hid (by
                  rw [hnx]
                  unfold Bidi.plainC
                  simp
                  omega)
                have g0 : 97 ≤ c := by omega
                have g1 : ¬ c ≤ 122 := by omega
                have g2 : 65 ≤ c := by omega
                have g3 : ¬ c ≤ 90 := by omega
                have g4 : 48 ≤ c := by omega
                have g5 : ¬ c ≤ 57 := by omega
                clear hnx hc h45
                go_wp2
                go_roundg (s.size - k)
                case measure => omega
                case rel => exact ⟨k + 1, _, rfl, by omega, by go_num, by omega, ⟨HN.out, I.out.2⟩⟩
        · obtain rfl : k = s.size := by omega
          have hpe := HPF.out
          rw [I.out.1] at hpe
          go_wp2_with fail
          refine (B.plain_at s _ (by omega) HP.out).mono ?_
          rintro e w5 ⟨rfl, hb5⟩
          have B5 := Lib.hid (below_then I.out.2 hb5)
          clear hb5
          cases f
          all_goals
            go_wp2
            go_ret
            exact ⟨by simp, B5.out⟩
  · have hnz : (200 : Int) < (s.size : Int) := by omega
    go_enter Tryz.func6, Tryz.ntmps6
    go_wp2_with fail
    refine (small8_any B _).mono ?_
    rintro e w0 ⟨rfl, hb0⟩
    have B0 := Lib.hid hb0
    clear hb0
    go_wp2
    go_ret
    exact ⟨rfl, B0.out⟩
end Go.Proofs.YtocaiabbihampaaGreat
