/-
  Proved here: the law PunyBack: what is encoded is decoded as it was, and the other way round, but for the case of digits: walked. Conditions: the slice can be read.
-/
import Derived.Test.YtkgikkdgfhonlaaPunyLawB
namespace Go.Proofs.Ytkgikkdgfhonlaa
open Go.RowKit Utf
theorem small_same (b : UInt8) : Puny.smallU b = smallB b := rfl
theorem eight_not {bs : List UInt8} (h : ∀ c ∈ bs, c.toNat < 128) : eightOf bs = -1 := by
  rcases eightFrom_is bs 0 with ⟨h1, -⟩ | ⟨-, c, h2, h3⟩
  · exact h1
  · have := h c h2
    omega
/-- What Decode tells of a string, and what Encode and Plain tell then. -/
theorem dec_both (s : ByteArray) (hs : s.size ≤ 300) : (∀ W, Calls Try.prog 18 #[.string s] W (DecAt [] 0 false W)) ∨ ∃ (l : List Int) (n : Nat) (S T : ByteArray), (∀ W, Calls Try.prog 18 #[.string s] W (DecAt l n true W)) ∧
    (∀ v W, Runes v l W → Calls Try.prog 16 #[v] W fun e w' => e = .returned (.tuple #[.string S, .bool true]) ∧ Below W.heap.size W w') ∧
    (∀ W, S.size ≤ 100000 → Calls Try.prog 22 #[.string S] W fun e w' => e = .returned (.string T) ∧ Below W.heap.size W w') ∧ (∀ W, Calls Try.prog 22 #[.string s] W fun e w' => e = .returned (.string T) ∧ Below W.heap.size W w') ∧ S.size = s.size := by
  cases h : Puny.decB s.data.toList with
  | none => exact .inl fun W => decP_not s W (by omega) h
  | some l =>
    obtain ⟨h1, h2, h3⟩ := Puny.enc_dec h
    rw [bytes_len] at h3
    refine .inr ⟨l, l.length, ⟨(Puny.encB l).toArray⟩, ⟨((Puny.encB l).map smallB).toArray⟩, fun W => decP_at s W (by omega) h rfl, fun v W hv => encodeP_yes v l W hv (by omega) h1, fun W hS => plain_any _ W hS, fun W => ?_, ?_⟩
    · have K := plain_any s W (by omega)
      rw [show s.data.toList.map smallB = (Puny.encB l).map smallB from h2.symm] at K
      exact K
    · have := congrArg List.length h2
      rw [List.length_map, List.length_map, bytes_len] at this
      rw [← this]
      simp [ByteArray.size]
set_option maxHeartbeats 8000000 in
set_option maxRecDepth 100000 in
theorem back5_walk (v : Value) (l : List Int) (s : ByteArray) (w : World) (hl : Runes v l w) : Calls Try.prog 6 #[v, .string s] w fun e w' => e = .returned (.bool true) ∧ Below w.heap.size w w' := by
  have HL := Lib.hid hl
  obtain ⟨A, c, rfl, -, -⟩ := hl.form
  clear hl
  by_cases hn : l.length ≤ 100
  · by_cases hs : s.size ≤ 300
    · have h1 : ¬ (100 : Int) < (l.length : Int) := by omega
      have h2 : ¬ (300 : Int) < (s.size : Int) := by omega
      have hlen : l.length ≤ 100000 := by omega
      have DB := Lib.hid (dec_both s hs)
      cases hr : rightsZ l with
      | false =>
        have HN := Lib.hid (fun W (h : Below w.heap.size w W) => encodeP_no _ l W (HL.out.keep h) (by omega) hr)
        clear hr hn hs
        go_enter Try.func6, Try.ntmps6
        go_wp2_with fail
        refine (small5_any _).mono ?_
        rintro e w1 ⟨rfl, hb1⟩
        have B1 := Lib.hid hb1
        clear hb1
        go_wp2_with fail
        refine (HN.out _ B1.out).mono ?_
        rintro e w2 ⟨rfl, hb2⟩
        have B2 := Lib.hid (below_then B1.out hb2)
        clear hb2 B1
        rcases DB.out with hD | ⟨m, n, S2, T, hD, hE, hP, hQ, hS2⟩
        · have HD := Lib.hid hD
          clear hD DB
          go_wp2_with fail
          refine (HD.out _).mono ?_
          rintro e w20 ⟨A7, c7, rfl, -, hb20⟩
          have B20 := Lib.hid (below_then B2.out hb20)
          clear hb20 B2
          go_wp2
          go_ret
          exact ⟨rfl, B20.out⟩
        · have HD := Lib.hid hD
          have HE := Lib.hid hE
          have HP := Lib.hid (fun W => hP W (by omega))
          have HQ := Lib.hid hQ
          clear hD hE hP hQ DB hS2
          go_wp2_with fail
          refine (HD.out _).mono ?_
          rintro e w20 ⟨A7, c7, rfl, hr20, hb20⟩
          have R20 := Lib.hid hr20
          clear hr20
          have B20 := Lib.hid (below_then B2.out hb20)
          clear hb20 B2
          go_wp2_with fail
          refine (HE.out _ _ R20.out).mono ?_
          rintro e w21 ⟨rfl, hb21⟩
          have B21 := Lib.hid (below_then B20.out hb21)
          clear hb21 B20
          go_wp2_with fail
          refine (HP.out _).mono ?_
          rintro e w22 ⟨rfl, hb22⟩
          have B22 := Lib.hid (below_then B21.out hb22)
          clear hb22 B21
          go_wp2_with fail
          refine (HQ.out _).mono ?_
          rintro e w23 ⟨rfl, hb23⟩
          have B23 := Lib.hid (below_then B22.out hb23)
          clear hb23 B22
          go_wp2
          go_ret
          exact ⟨by simp, B23.out⟩
      | true =>
        have HY := Lib.hid (fun W (h : Below w.heap.size w W) => encodeP_len _ l W (HL.out.keep h) (by omega) hr)
        have DE := Puny.dec_enc hr (by omega)
        have E8 := eight_not (Puny.encB_lt hr)
        obtain ⟨X, hX⟩ : ∃ X : ByteArray, X = ⟨(Puny.encB l).toArray⟩ := ⟨_, rfl⟩
        have hXl : X.data.toList = Puny.encB l := by rw [hX]
        have hXs : X.size = (Puny.encB l).length := by rw [← bytes_len, hXl]
        unfold Wrote at HY
        rw [← hXs, ← hX] at HY
        rw [← hXl] at DE E8
        have DEC := Lib.hid DE
        have E8H := Lib.hid E8
        have h4 : l.length ≤ 100 := hn
        clear hr hn hs DE E8 hX hXl hXs
        go_enter Try.func6, Try.ntmps6
        go_wp2_with fail
        refine (small5_any _).mono ?_
        rintro e w1 ⟨rfl, hb1⟩
        have B1 := Lib.hid hb1
        clear hb1
        go_wp2_with fail
        refine (HY.out _ B1.out).mono ?_
        rintro e w2 ⟨⟨rfl, hb2⟩, hsz⟩
        have B2 := Lib.hid (below_then B1.out hb2)
        clear hb2 B1
        have KX := Lib.hid (fun W => decP_at X W (by omega) DEC.out rfl)
        have K8 := Lib.hid (fun W => eight_any X W (by omega))
        rw [E8H.out] at K8
        clear hsz
        go_wp2_with fail
        refine (KX.out _).mono ?_
        rintro e w3 ⟨A3, c3, rfl, hr3, hb3⟩
        have KS := Lib.hid (refSame_any _ _ l l w3 hr3 (HL.out.keep (below_then B2.out hb3)) hlen)
        clear hr3
        have B3 := Lib.hid (below_then B2.out hb3)
        clear hb3 B2
        go_wp2_with fail
        refine (KS.out).mono ?_
        rintro e w4 ⟨rfl, hb4⟩
        have B4 := Lib.hid (below_then B3.out hb4)
        clear hb4 B3
        rw [decide_eq_true (rfl : l = l)]
        go_wp2_with fail
        refine (K8.out _).mono ?_
        rintro e w5 ⟨rfl, rfl⟩
        rcases DB.out with hD | ⟨m, n, S2, T, hD, hE, hP, hQ, hS2⟩
        · have HD := Lib.hid hD
          clear hD DB
          go_wp2_with fail
          refine (HD.out _).mono ?_
          rintro e w20 ⟨A7, c7, rfl, -, hb20⟩
          have B20 := Lib.hid (below_then B4.out hb20)
          clear hb20 B4
          go_wp2
          go_ret
          exact ⟨rfl, B20.out⟩
        · have HD := Lib.hid hD
          have HE := Lib.hid hE
          have HP := Lib.hid (fun W => hP W (by omega))
          have HQ := Lib.hid hQ
          clear hD hE hP hQ DB hS2
          go_wp2_with fail
          refine (HD.out _).mono ?_
          rintro e w20 ⟨A7, c7, rfl, hr20, hb20⟩
          have R20 := Lib.hid hr20
          clear hr20
          have B20 := Lib.hid (below_then B4.out hb20)
          clear hb20 B4
          go_wp2_with fail
          refine (HE.out _ _ R20.out).mono ?_
          rintro e w21 ⟨rfl, hb21⟩
          have B21 := Lib.hid (below_then B20.out hb21)
          clear hb21 B20
          go_wp2_with fail
          refine (HP.out _).mono ?_
          rintro e w22 ⟨rfl, hb22⟩
          have B22 := Lib.hid (below_then B21.out hb22)
          clear hb22 B21
          go_wp2_with fail
          refine (HQ.out _).mono ?_
          rintro e w23 ⟨rfl, hb23⟩
          have B23 := Lib.hid (below_then B22.out hb23)
          clear hb23 B22
          go_wp2
          go_ret
          exact ⟨by simp, B23.out⟩
    · have h1 : ¬ (100 : Int) < (l.length : Int) := by omega
      have h2 : (300 : Int) < (s.size : Int) := by omega
      go_enter Try.func6, Try.ntmps6
      go_wp2_with fail
      refine (small5_any _).mono ?_
      rintro e w1 ⟨rfl, hb1⟩
      have B1 := Lib.hid hb1
      clear hb1
      go_wp2
      go_ret
      exact ⟨rfl, B1.out⟩
  · have h1 : (100 : Int) < (l.length : Int) := by omega
    go_enter Try.func6, Try.ntmps6
    go_wp2_with fail
    refine (small5_any _).mono ?_
    rintro e w1 ⟨rfl, hb1⟩
    have B1 := Lib.hid hb1
    clear hb1
    go_wp2
    go_ret
    exact ⟨rfl, B1.out⟩
end Go.Proofs.Ytkgikkdgfhonlaa
