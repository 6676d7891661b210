/-
  Proved here: the law PrecisPlain, given what the program's four functions tell. Conditions: none.
-/
import Derived.Test.YtmbammhkkcnoaaaGreatPrecSmall
import Derived.Test.YtmbammhkkcnoaaaGreatFoldBytes
import Derived.Test.YtmbammhkkcnoaaaGreatUtfA
import Derived.BigRegion
import Derived.Deep.DeepCutAuto
import Derived.Deep.LoopGhost
namespace Go.Proofs.YtmbammhkkcnoaaaGreat
open Go.RowKit Utf
namespace Prec
def fineTo (bs : List UInt8) (k : Nat) : Bool := decide (0 < bs.length) && (bs.take k).all fun c => printed (c.toNat : Int)
theorem fineTo_next {bs : List UInt8} {k : Nat} (hk : k < bs.length) : fineTo bs (k + 1) = (fineTo bs k && printed ((bs[k]).toNat : Int)) := by
  unfold fineTo
  rw [List.take_succ_eq_append_getElem hk, List.all_append, Bool.and_assoc]
  simp
theorem fineTo_all (bs : List UInt8) : fineTo bs bs.length = fineB bs := by
  unfold fineTo fineB
  rw [List.take_length]
end Prec
set_option maxHeartbeats 8000000 in
set_option maxRecDepth 100000 in
theorem plain10_walk (B : PrecOk) (s : ByteArray) (w : World) : Calls Tryz.prog 5 #[.string s] w fun e w' => e = .returned (.bool true) ∧ Below w.heap.size w w' := by
  have hsl : s.data.toList.length = s.size := by simp
  by_cases hs : s.size ≤ 200
  case neg =>
    have hsz : (200 : Int) < (s.size : Int) := by omega
    go_enter Tryz.func5, Tryz.ntmps5
    go_wp2_with fail
    refine (small10_any B _).mono ?_
    rintro e w0 ⟨rfl, hb0⟩
    have B0 := Lib.hid hb0
    clear hb0
    go_wp2
    go_ret
    exact ⟨rfl, B0.out⟩
  have hsz : ¬ (200 : Int) < (s.size : Int) := by omega
  have KE := fun W => eight_any s W (by omega)
  rcases Lab.eight_cases s.data.toList with ⟨ha, he⟩ | ⟨ha, he⟩
  case inr =>
    generalize eightOf s.data.toList = z at KE he
    have KE := Lib.hid KE
    go_enter Tryz.func5, Tryz.ntmps5
    go_wp2_with fail
    refine (small10_any B _).mono ?_
    rintro e w0 ⟨rfl, hb0⟩
    have B0 := Lib.hid hb0
    clear hb0
    go_wp2_with fail
    refine (KE.out _).mono ?_
    rintro e w1 ⟨rfl, rfl⟩
    go_wp2
    go_ret
    exact ⟨rfl, B0.out⟩
  rw [he] at KE
  obtain ⟨hn, hc⟩ := Prec.plain_is (Lab.ascii_iff.1 ha)
  obtain ⟨F, hF⟩ : ∃ F, Prec.fineB s.data.toList = F := ⟨_, rfl⟩
  obtain ⟨E, hE⟩ : ∃ E : Int, (if s.data.toList = [] then 13 else if Prec.fineB s.data.toList then 0 else 8) = E := ⟨_, rfl⟩
  rw [hE] at hn hc
  rw [hF] at hn hE
  have hEF : (F = true ∧ E = 0) ∨ (F = false ∧ E ≠ 0) := by
    by_cases h0 : s.data.toList = []
    · rw [if_pos h0] at hE
      rw [h0] at hF
      exact .inr ⟨hF.symm, by omega⟩
    · rw [if_neg h0] at hE
      cases F
      · exact .inr ⟨rfl, by rw [← hE]; decide⟩
      · exact .inl ⟨rfl, by rw [← hE]; rfl⟩
  have HN := Lib.hid hn
  have HC := Lib.hid hc
  have HF := Lib.hid hF
  have HSL := Lib.hid hsl
  have LS := Lib.hid (lab_of' hs)
  have WS := Lib.hid (wide_of hs)
  have KP := Lib.hid (fun W => plain_any s W (by omega))
  have KE := Lib.hid KE
  obtain ⟨f0, hf0⟩ : ∃ f, Prec.fineTo s.data.toList 0 = f := ⟨_, rfl⟩
  have hfd : decide (0 < s.size) = f0 := by
    rw [← hf0]
    unfold Prec.fineTo
    rw [List.take_zero, List.all_nil, Bool.and_true, hsl]
  have HF0 := Lib.hid hf0
  clear hn hc hF hE ha he hf0 hsl hs
  go_enter Tryz.func5, Tryz.ntmps5
  go_wp2_with fail
  refine (small10_any B _).mono ?_
  rintro e w0 ⟨rfl, hb0⟩
  have B0 := Lib.hid hb0
  clear hb0
  go_wp2_with fail
  refine (KE.out _).mono ?_
  rintro e w1 ⟨rfl, rfl⟩
  go_wp2
  go_loopg [4, 5] (s.size + 1) (fun gk s4 s5 wr => ∃ (k : Nat) (f : Bool), s4 = .bool f ∧ k ≤ s.size ∧ s5 = .int .i64 k ∧ s.size - k < gk ∧ Hid (Prec.fineTo s.data.toList k = f ∧ Below w.heap.size w wr))
  case atStart => exact ⟨0, f0, by first | rfl | rw [hfd], Nat.zero_le _, rfl, by omega, ⟨HF0.out, B0.out⟩⟩
  case round =>
    obtain ⟨k, f, rfl, hk, rfl, hg, I⟩ := hrel
    by_cases hlt : k < s.size
    · have hkz : (k : Int) < (s.size : Int) := by omega
      have hnx := Prec.fineTo_next (bs := s.data.toList) (k := k) (by have := HSL.out; omega)
      rw [I.out.1] at hnx
      have hby : ((s.data.toList[k]'(by have := HSL.out; omega)).toNat : Int) = (s[k].toNat : Int) := rfl
      rw [hby] at hnx
      obtain ⟨c, hce⟩ : ∃ c : Int, (s[k].toNat : Int) = c := ⟨_, rfl⟩
      rw [hce] at hnx
      clear hby
      cases f with
      | false =>
        have HN2 : Hid (Prec.fineTo s.data.toList (k + 1) = false) := Lib.hid (by rw [hnx]; rfl)
        clear hnx
        go_wp2
        go_roundg (s.size - k)
        case measure => omega
        case rel => exact ⟨k + 1, _, rfl, by omega, by go_num, by omega, ⟨HN2.out, I.out.2⟩⟩
      | true =>
        rw [Bool.true_and] at hnx
        have hcs : (decide (32 < c) = false ∧ Prec.printed c = false) ∨ (decide (32 < c) = true ∧ decide (c < 127) = false ∧ Prec.printed c = false) ∨ (decide (32 < c) = true ∧ decide (c < 127) = true ∧ Prec.printed c = true) := by
          unfold Prec.printed
          cases decide (32 < c) <;> cases decide (c < 127) <;> simp
        rcases hcs with ⟨h1, h2⟩ | ⟨h1, h2, h3⟩ | ⟨h1, h2, h3⟩
        · have HN2 : Hid (Prec.fineTo s.data.toList (k + 1) = false) := Lib.hid (by rw [hnx, h2])
          clear hnx h2
          go_wp2
          go_roundg (s.size - k)
          case measure => omega
          case rel => exact ⟨k + 1, _, rfl, by omega, by go_num, by omega, ⟨HN2.out, I.out.2⟩⟩
        · have HN2 : Hid (Prec.fineTo s.data.toList (k + 1) = false) := Lib.hid (by rw [hnx, h3])
          clear hnx h3
          go_wp2
          go_roundg (s.size - k)
          case measure => omega
          case rel => exact ⟨k + 1, _, rfl, by omega, by go_num, by omega, ⟨HN2.out, I.out.2⟩⟩
        · have HN2 : Hid (Prec.fineTo s.data.toList (k + 1) = true) := Lib.hid (by rw [hnx, h3])
          clear hnx h3
          go_wp2
          go_roundg (s.size - k)
          case measure => omega
          case rel => exact ⟨k + 1, _, rfl, by omega, by go_num, by omega, ⟨HN2.out, I.out.2⟩⟩
    · obtain rfl : k = s.size := by omega
      have hkz : ¬ (s.size : Int) < (s.size : Int) := by omega
      have hfF : f = F := by
        rw [← I.out.1, ← HF.out, ← Prec.fineTo_all]
        rw [HSL.out]
      subst hfF
      have B1 := Lib.hid I.out.2
      clear hk hlt hg
      rcases hEF with ⟨rfl, rfl⟩ | ⟨rfl, hE0⟩
      · have hnm := HN.out
        rw [if_pos rfl] at hnm
        have HN := Lib.hid hnm
        clear hnm
        go_wp2_with fail
        refine (new_any _).mono ?_
        rintro e w2 ⟨tt, rfl, hT, hb2⟩
        have hT' := hT
        obtain ⟨b0, b1, b2, b3, rfl, -, -, -, -⟩ := hT'
        have K0 := Lib.hid (kept_new (b0 := b0) (b1 := b1) (b2 := b2) (b3 := b3) (below_then B1.out hb2) hT 28)
        obtain ⟨hS, c0, c1, c2, c3⟩ := K0.out.held
        clear hT hb2
        go_wp2_with fail
        refine (B.name_at (.agg #[.slice (some ⟨b0, 0, none⟩) 74 74, .slice (some ⟨b1, 0, none⟩) 10 10, .slice (some ⟨b2, 0, none⟩) 11 11, .slice (some ⟨b3, 0, none⟩) 42 42]) s _ K0.out.table LS.out HN.out).mono ?_
        rintro e w3 ⟨rfl, hb⟩
        have K1 := Lib.hid (K0.out.next hb)
        clear hb K0 hS c0 c1 c2 c3
        obtain ⟨hS, c0, c1, c2, c3⟩ := K1.out.held
        go_wp2_with fail
        refine (B.cls_at (.agg #[.slice (some ⟨b0, 0, none⟩) 74 74, .slice (some ⟨b1, 0, none⟩) 10 10, .slice (some ⟨b2, 0, none⟩) 11 11, .slice (some ⟨b3, 0, none⟩) 42 42]) s _ K1.out.table WS.out HC.out).mono ?_
        rintro e w4 ⟨rfl, hb⟩
        have K2 := Lib.hid (K1.out.next hb)
        clear hb K1 hS c0 c1 c2 c3
        go_wp2_with fail
        refine (KP.out _).mono ?_
        rintro e w5 ⟨rfl, hb⟩
        have K3 := Lib.hid (K2.out.next hb)
        clear hb
        go_wp2
        go_ret
        exact ⟨rfl, K3.out.below⟩
      · have e0 : (E == 0) = false := by simpa using hE0
        have hnm := HN.out
        rw [if_neg (by decide)] at hnm
        have HN := Lib.hid hnm
        clear hnm hE0
        go_wp2_with fail
        refine (new_any _).mono ?_
        rintro e w2 ⟨tt, rfl, hT, hb2⟩
        have hT' := hT
        obtain ⟨b0, b1, b2, b3, rfl, -, -, -, -⟩ := hT'
        have K0 := Lib.hid (kept_new (b0 := b0) (b1 := b1) (b2 := b2) (b3 := b3) (below_then B1.out hb2) hT 28)
        obtain ⟨hS, c0, c1, c2, c3⟩ := K0.out.held
        clear hT hb2
        go_wp2_with fail
        refine (B.name_at (.agg #[.slice (some ⟨b0, 0, none⟩) 74 74, .slice (some ⟨b1, 0, none⟩) 10 10, .slice (some ⟨b2, 0, none⟩) 11 11, .slice (some ⟨b3, 0, none⟩) 42 42]) s _ K0.out.table LS.out HN.out).mono ?_
        rintro e w3 ⟨rfl, hb⟩
        have K1 := Lib.hid (K0.out.next hb)
        clear hb K0 hS c0 c1 c2 c3
        obtain ⟨hS, c0, c1, c2, c3⟩ := K1.out.held
        go_wp2_with fail
        refine (B.cls_at (.agg #[.slice (some ⟨b0, 0, none⟩) 74 74, .slice (some ⟨b1, 0, none⟩) 10 10, .slice (some ⟨b2, 0, none⟩) 11 11, .slice (some ⟨b3, 0, none⟩) 42 42]) s _ K1.out.table WS.out HC.out).mono ?_
        rintro e w4 ⟨rfl, hb⟩
        have K2 := Lib.hid (K1.out.next hb)
        clear hb K1 hS c0 c1 c2 c3
        go_wp2
        go_ret
        exact ⟨rfl, K2.out.below⟩
end Go.Proofs.YtmbammhkkcnoaaaGreat
