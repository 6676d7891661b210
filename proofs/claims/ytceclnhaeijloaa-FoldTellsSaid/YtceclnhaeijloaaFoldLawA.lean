/-
  Proved here: the law FoldTells: what is folded is what the document says, and is new memory. Conditions: none.
-/
import Derived.Test.YtceclnhaeijloaaFoldSmall
import Derived.Test.YtceclnhaeijloaaFoldLawB
import Derived.Test.YtceclnhaeijloaaNormLaw
namespace Go.Proofs.Ytceclnhaeijloaa
open Go.RowKit Utf
/-- What the program and the document make of a short string. -/
theorem fold_both (s : ByteArray) (hs : s.size ≤ 200) : ∃ x ok, FoldIs s x ok ∧ ∀ w, Calls Try.prog 11 #[.string s] w (StrAt x ok w) := by
  obtain ⟨⟨m, z⟩, hrd⟩ : ∃ p, rdOf s.data.toList = p := ⟨_, rfl⟩
  obtain ⟨hm1, hm2, hmz⟩ := rd_cases hrd
  rcases hmz with ⟨rfl, -⟩ | ⟨k, rfl, -, -⟩
  · exact ⟨_, _, (folds_of hs hrd).is, fun w => fold4_yes s w (by omega) (by simp at hm2; omega) hrd⟩
  · exact ⟨_, _, foldIs_no (by omega) hrd, fun w => fold4_no s w (by omega) hrd⟩
set_option maxRecDepth 100000 in
set_option maxHeartbeats 8000000 in
theorem tells4_walk (vl : Value) (l : List Int) (s b : ByteArray) (w : World) (hl : Runes vl l w) : Calls Try.prog 3 #[vl, .string s, .string b] w fun e w' => e = .returned (.bool true) ∧ Below w.heap.size w w' := by
  have HL := Lib.hid hl
  obtain ⟨Al, cl, rfl, -, -⟩ := hl.form
  clear hl
  by_cases hn : l.length ≤ 150 ∧ s.size ≤ 200 ∧ b.size ≤ 200
  · obtain ⟨hn1, hn2, hn3⟩ := hn
    have hz1 : (l.length : Int) ≤ 150 := by omega
    have hz2 : (s.size : Int) ≤ 200 := by omega
    have hz3 : (b.size : Int) ≤ 200 := by omega
    obtain ⟨x, e, fx, gx⟩ := fold_both s hn2
    obtain ⟨z, g, fz, gz⟩ := fold_both b hn3
    have F1 := Lib.hid fx
    have F2 := Lib.hid fz
    have G1 := Lib.hid gx
    have G2 := Lib.hid gz
    have X1 := Lib.hid (fun t x W (hT : Table W t) (h : Runes x l W) => width_any t x l W hT h (by omega))
    have X2 := Lib.hid (fun t x W (hT : Table W t) (h : Runes x l W) => lowers_any t x l W hT h (by omega))
    have Y1 := Lib.hid (fun x W (h : Runes x l W) => width4_any x l W h (by omega))
    have Y2 := Lib.hid (fun x W (h : Runes x l W) => lower4_any x l W h (by omega))
    have P1 := fun W => plain_any s W (by omega)
    have P2 := fun W => plain4_any s W (by omega)
    generalize (⟨(s.data.toList.map smallB).toArray⟩ : ByteArray) = p at P1 P2
    have HP1 := Lib.hid P1
    have HP2 := Lib.hid P2
    have S1 := Lib.hid (fun x y W (hx : Runes x (l.map Fold.narrow) W) (hy : Runes y (l.map Fold.narrow) W) => refSame_any x y _ _ W hx hy (by simp; omega))
    have S2 := Lib.hid (fun x y W (hx : Runes x (l.map lowOf) W) (hy : Runes y (l.map lowOf) W) => refSame_any x y _ _ W hx hy (by simp; omega))
    have hnl : (l.map Fold.narrow).length = l.length := List.length_map ..
    generalize l.map Fold.narrow = nl at *
    generalize l.map lowOf = ll at *
    rw [← hnl] at hn1
    have HNL := Lib.hid hnl
    clear fx fz gx gz P1 P2 hnl
    go_enter Try.func3, Try.ntmps3
    go_wp2_with fail
    refine (small4_any _).mono ?_
    rintro e w1 ⟨rfl, hb1⟩
    have B1 := Lib.hid hb1
    clear hb1
    go_wp2_with fail
    refine (new_any _).mono ?_
    rintro e w2 ⟨tt, rfl, hT, hb2⟩
    have hT' := hT
    obtain ⟨b0, b1, b2, b3, rfl, -, -, -, -⟩ := hT'
    have K0 := Lib.hid (kept_new (b0 := b0) (b1 := b1) (b2 := b2) (b3 := b3) (below_then B1.out hb2) hT 29)
    clear hT hb2 B1
    go_wp2_with fail
    refine (fold_at K0.out F1.out).mono ?_
    rintro e w3 ⟨rfl, K1, L1⟩
    obtain ⟨hS, c0, c1, c2, c3⟩ := K1.out.held
    clear K0 L1
    go_wp2_with fail
    refine (G1.out _).mono ?_
    rintro e4 w4 ⟨rfl, hb4⟩
    have K2 := Lib.hid (K1.out.next hb4)
    clear hb4 K1
    go_wp2_with fail
    refine (G2.out _).mono ?_
    rintro e5 w5 ⟨rfl, hb5⟩
    have K3 := Lib.hid (K2.out.next hb5)
    obtain ⟨hS, c0, c1, c2, c3⟩ := K3.out.held
    clear hb5 K2
    go_wp2_with fail
    refine (X1.out _ _ _ K3.out.table (HL.out.keep K3.out.below)).mono ?_
    rintro e6 w6 ⟨v6, rfl, ho6, hb6⟩
    have K4 := Lib.hid (K3.out.next hb6)
    have B6 := Lib.hid hb6
    have O6 := Lib.hid ho6
    obtain ⟨hS, c0, c1, c2, c3⟩ := K4.out.held
    clear hb6 ho6
    go_wp2_with fail
    refine (X2.out _ _ _ K4.out.table (HL.out.keep K4.out.below)).mono ?_
    rintro e7 w7 ⟨v7, rfl, ho7, hb7⟩
    have K5 := Lib.hid (K4.out.next hb7)
    have B7 := Lib.hid (below_then B6.out hb7)
    have O7 := Lib.hid (O6.out.keep hb7)
    have Q6 := Lib.hid (World.ownsRow.lt O6.out)
    have V7 := Lib.hid ho7
    clear hb7 ho7 O6 K4
    go_wp2_with fail
    refine (Y1.out _ _ (HL.out.keep K5.out.below)).mono ?_
    rintro e8 w8 ⟨v8, rfl, ho8, hb8⟩
    have K6 := Lib.hid (K5.out.next hb8)
    have B8 := Lib.hid (below_then B7.out hb8)
    have O8 := Lib.hid (O7.out.keep hb8)
    have V8 := Lib.hid (V7.out.keep hb8)
    have R8 := Lib.hid ho8.runes
    clear hb8 ho8 K5 B7 O7 V7
    go_wp2_with fail
    refine (S1.out _ _ _ O8.out.runes R8.out).mono ?_
    unfold SamePost
    rw [decide_eq_true rfl]
    rintro e9 w9 ⟨rfl, hb9⟩
    have K7 := Lib.hid (K6.out.next hb9)
    have B9 := Lib.hid (below_then B8.out hb9)
    have O9 := Lib.hid (O8.out.keep hb9)
    have V9 := Lib.hid (V8.out.keep hb9)
    clear hb9 K6 B8 O8 V8 R8
    go_wp2_with fail
    refine (Y2.out _ _ (HL.out.keep K7.out.below)).mono ?_
    rintro e10 w10 ⟨v10, rfl, ho10, hb10⟩
    have B10 := Lib.hid (below_then B9.out hb10)
    have O10 := Lib.hid (O9.out.keep hb10)
    have V10 := Lib.hid (V9.out.keep hb10)
    have R10 := Lib.hid ho10.runes
    clear hb10 ho10 K7 B9 O9 V9
    go_wp2_with fail
    refine (S2.out _ _ _ V10.out.runes R10.out).mono ?_
    unfold SamePost
    rw [decide_eq_true rfl]
    rintro e11 w11 ⟨rfl, hb11⟩
    have B11 := Lib.hid (below_then B10.out hb11)
    have O11 := Lib.hid (O10.out.keep hb11)
    have V11 := Lib.hid (V10.out.keep hb11)
    have h56 : w5.heap.size ≤ w6.heap.size := B6.out.size
    clear hb11 B10 O10 V10 R10 B6
    obtain ⟨A6, d6, rfl, hA6⟩ := O11.out.shape
    have HA6 := Lib.hid hA6
    clear hA6
    go_wp2
    go_loopg [18] (nl.length + 1) (fun gk i wr => ∃ (k : Nat) (M : List Int), i = .int .i64 k ∧ k ≤ nl.length ∧ nl.length - k < gk ∧ Hid (M.length = nl.length ∧ OwnR w5.heap.size (.slice A6 nl.length d6) M wr ∧ OwnR w6.heap.size v7 ll wr ∧ Below w5.heap.size w5 wr))
    case atStart => exact ⟨0, nl, rfl, Nat.zero_le _, by omega, ⟨rfl, O11.out, V11.out, B11.out⟩⟩
    case round =>
      obtain ⟨k, M, rfl, hk, hg, I⟩ := hrel
      by_cases hlt : k < nl.length
      · obtain ⟨g6, rfl, hg1, -⟩ := HA6.out (by omega)
        have hq := Q6.out g6 (by rfl)
        have hkz : (k : Int) < (nl.length : Int) := by omega
        have c1 := I.out.2.1.cell k (by rw [I.out.1]; exact hlt)
        have f1 := I.out.2.1.free k
        have J : Hid ((M.set k (-7)).length = nl.length ∧ OwnR w5.heap.size (.slice (some ⟨g6, 0, none⟩) nl.length d6) (M.set k (-7)) (wr.setCell ⟨g6, k, none⟩ (.int .i32 (-7))) ∧ OwnR w6.heap.size v7 ll (wr.setCell ⟨g6, k, none⟩ (.int .i32 (-7))) ∧ Below w5.heap.size w5 (wr.setCell ⟨g6, k, none⟩ (.int .i32 (-7)))) := by
          refine ⟨by rw [List.length_set]; exact I.out.1, I.out.2.1.put k (-7), I.out.2.2.1.other I.out.2.1 (fun e => ?_) (-7), I.out.2.2.2.setCell (p := ⟨g6, k, none⟩) hg1 _⟩
          have := I.out.2.2.1.off g6 e
          omega
        clear I hq hg1
        go_wp2
        go_roundg (nl.length - k)
        case measure => omega
        case rel => exact ⟨k + 1, _, by go_num, by omega, by omega, J⟩
      · obtain rfl : k = nl.length := by omega
        have N0 := Lib.hid (K3.out.next I.out.2.2.2)
        have V := Lib.hid I.out.2.2.1
        clear I
        go_wp2_with fail
        refine (Y2.out _ _ (HL.out.keep N0.out.below)).mono ?_
        rintro e12 w12 ⟨v12, rfl, ho12, hb12⟩
        have N1 := Lib.hid (N0.out.next hb12)
        have V12 := Lib.hid (V.out.keep hb12)
        have R12 := Lib.hid ho12.runes
        clear hb12 ho12 N0 V
        go_wp2_with fail
        refine (S2.out _ _ _ V12.out.runes R12.out).mono ?_
        unfold SamePost
        rw [decide_eq_true rfl]
        rintro e13 w13 ⟨rfl, hb13⟩
        have N2 := Lib.hid (N1.out.next hb13)
        obtain ⟨hS, c0, c1, c2, c3⟩ := N2.out.held
        clear hb13 V12 R12 N1
        cases e <;> cases g
        all_goals
          go_wp2_with fail
          refine (alike_at N2.out F1.out F2.out rfl).mono ?_
          rintro e14 w14 ⟨rfl, N3, L3⟩
          clear N2 L3
          go_wp2_with fail
          refine (HP1.out _).mono ?_
          rintro e15 w15 ⟨rfl, hb15⟩
          have N4 := Lib.hid (N3.out.next hb15)
          clear hb15
          go_wp2_with fail
          refine (HP2.out _).mono ?_
          rintro e16 w16 ⟨rfl, hb16⟩
          have N5 := Lib.hid (N4.out.next hb16)
          clear hb16
          go_wp2
          go_ret
          exact ⟨rfl, N5.out.below⟩
  · have hor : (150 : Int) < l.length ∨ (l.length : Int) ≤ 150 ∧ (200 : Int) < s.size ∨ (l.length : Int) ≤ 150 ∧ (s.size : Int) ≤ 200 ∧ (200 : Int) < b.size := by omega
    clear hn
    rcases hor with hz | ⟨hy, hz⟩ | ⟨hx, hy, hz⟩
    all_goals
      go_enter Try.func3, Try.ntmps3
      go_wp2_with fail
      refine (small4_any _).mono ?_
      rintro e w1 ⟨rfl, hb1⟩
      have B1 := Lib.hid hb1
      clear hb1
      go_wp2
      go_ret
      exact ⟨rfl, B1.out⟩
end Go.Proofs.Ytceclnhaeijloaa
