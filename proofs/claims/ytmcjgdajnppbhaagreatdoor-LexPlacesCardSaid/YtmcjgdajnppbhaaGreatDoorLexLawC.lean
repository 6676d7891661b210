/-
  Proved here: the law LexPlaces, given what the program's functions tell. Conditions: none.
-/
import Derived.Test.YtmcjgdajnppbhaaGreatDoorLexLawB
namespace Go.Proofs.YtmcjgdajnppbhaaGreatDoor
open Go.RowKit Utf
open Lex (Tok)
set_option maxHeartbeats 8000000 in
set_option maxRecDepth 100000 in
theorem places12_walk (B : LexOk) (s : ByteArray) (w : World) : Calls Tryz.prog 5 #[.string s] w fun e w' => e = .returned (.bool true) ∧ Below w.heap.size w w' := by
  have hsl : s.data.toList.length = s.size := by simp
  by_cases h1 : 2500 < s.size
  · have q1 : (2500 : Int) < (s.size : Int) := by omega
    clear h1
    go_enter Tryz.func5, Tryz.ntmps5
    go_wp2_with fail
    refine (small12_any B _).mono ?_
    rintro e w0 ⟨rfl, hb0⟩
    have B0 := Lib.hid hb0
    clear hb0
    go_wp2
    go_ret
    exact ⟨rfl, B0.out⟩
  have q1 : ¬ (2500 : Int) < (s.size : Int) := by omega
  rcases Lex.lex_cases s.data.toList with ⟨h2, hx⟩ | ⟨h2, E, p, hx, hE, hp⟩ | ⟨h2, ts, hx, hcut, -⟩
  · have KL := Lib.hid (fun W => B.lex_at s W (by omega) hx)
    have q2 : decide ((2000 : Int) < (s.size : Int)) = true := decide_eq_true (by omega)
    have q3 : 0 < s.size := by omega
    have q4 : ¬ s = ByteArray.empty := fun h => by rw [h] at q3; exact absurd q3 (by decide)
    clear h1 h2 hx
    go_enter Tryz.func5, Tryz.ntmps5
    go_wp2_with fail
    refine (small12_any B _).mono ?_
    rintro e w0 ⟨rfl, hb0⟩
    have B0 := Lib.hid hb0
    clear hb0
    go_wp2_with fail
    with_reducible refine (KL.out _).mono ?_
    rintro e w1 ⟨A, c, rfl, -, hb1⟩
    have B1 := Lib.hid (below_then B0.out hb1)
    clear hb1
    go_wp2
    go_ret
    exact ⟨rfl, B1.out⟩
  · have KL := Lib.hid (fun W => B.lex_at s W (by omega) hx)
    have q0 : (E == 0) = false := by rcases hE with rfl | rfl | rfl <;> rfl
    have q5 : (E == 5) = false := by rcases hE with rfl | rfl | rfl <;> rfl
    have q2 : decide ((2000 : Int) < (s.size : Int)) = false := decide_eq_false (by omega)
    have q3 : decide ((p : Int) < (s.size : Int)) = true := decide_eq_true (by omega)
    have q3' : decide (p < s.size) = true := decide_eq_true (by omega)
    clear h1 h2 hx hE hp
    go_enter Tryz.func5, Tryz.ntmps5
    go_wp2_with fail
    refine (small12_any B _).mono ?_
    rintro e w0 ⟨rfl, hb0⟩
    have B0 := Lib.hid hb0
    clear hb0
    go_wp2_with fail
    with_reducible refine (KL.out _).mono ?_
    rintro e w1 ⟨A, c, rfl, -, hb1⟩
    have B1 := Lib.hid (below_then B0.out hb1)
    clear hb1
    go_wp2
    go_ret
    exact ⟨rfl, B1.out⟩
  · have KL := Lib.hid (fun W => B.lex_at s W (by omega) hx)
    have hst := Lex.cuts_stand s.data.toList hcut (by rw [List.drop_zero]) (Nat.zero_le _)
    have hfirst := Lex.cuts_first hcut
    have hem : ((ts.length : Int) == 0) = (s.toList == []) := by
      rw [ByteArray.toList_eq]
      rcases hfirst with ⟨h, h'⟩ | ⟨h, h', -⟩
      · rw [h, h']; rfl
      · have e1 : ((ts.length : Int) == 0) = false := by simpa using (by omega : ¬ (ts.length : Int) = 0)
        rw [e1]
        symm
        simpa using h'
    have HST := Lib.hid (And.intro hst hfirst)
    have htl : ts.length ≤ 2500 := by have := (Lex.outs_len hcut).2; omega
    obtain ⟨b0, hb0⟩ : ∃ b, (s.toList == []) = b := ⟨_, rfl⟩
    rw [hb0] at hem
    have hfew : ∀ i, i < ts.length → (Lex.nth ts i).text.length ≤ 2500 := fun i hi => by
      have h := Lex.outs_take_le ts (i + 1)
      rw [Lex.outs_more hi, List.length_append] at h
      have h3 := Lex.src_few (Lex.nth ts i).kind (Lex.nth ts i).text
      have h4 := (Lex.outs_len hcut).1
      omega
    have HFew := Lib.hid hfew
    clear h1 h2 hx hcut hst hfirst hfew
    go_enter Tryz.func5, Tryz.ntmps5
    go_wp2_with fail
    refine (small12_any B _).mono ?_
    rintro e w0 ⟨rfl, hb0'⟩
    have B0 := Lib.hid hb0'
    clear hb0'
    go_wp2_with fail
    with_reducible refine (KL.out _).mono ?_
    rintro e w1 ⟨A, c, rfl, hT, hb1⟩
    have B1 := Lib.hid (below_then B0.out hb1)
    obtain ⟨-, hc, g, o, hform⟩ := hT.form
    have HF := Lib.hid hform
    clear hT hb1 hform
    go_wp2
    go_loopg [7] (ts.length + 1) (fun gk s7 wr => ∃ i : Nat, s7 = .int .i64 i ∧ i ≤ ts.length ∧ ts.length - i < gk ∧ Hid (Below w1.heap.size w1 wr))
    case atStart => exact ⟨0, rfl, Nat.zero_le _, by omega, Lib.hid (Below.refl _ _)⟩
    case round =>
      obtain ⟨i, rfl, hi, hg, HB⟩ := hrel
      by_cases hlt : i < ts.length
      · have hiz : (i : Int) < (ts.length : Int) := by omega
        obtain ⟨rfl, hat⟩ := HF.out (by omega)
        obtain ⟨t0, t1, t2⟩ := hat wr HB.out i hlt
        obtain ⟨-, hs1, hs2, hs3, hs4⟩ := HST.out.1 i hlt
        obtain ⟨a, ha⟩ : ∃ a, (Lex.nth ts i).place = a := ⟨_, rfl⟩
        obtain ⟨b, hb⟩ : ∃ b, Lex.endT ts s.data.toList.length i = b := ⟨_, rfl⟩
        rw [ha, hb] at hs1 hs3 hs4
        rw [hb, hsl] at hs2
        rw [ha] at t2
        have hfirst : i = 0 → a = 0 := fun h0 => by
          rcases HST.out.2 with ⟨h, -⟩ | ⟨-, -, h⟩
          · rw [h] at hlt; exact absurd hlt (Nat.not_lt_zero _)
          · rw [← ha, h0]; exact h
        have hab : (a : Int) < (b : Int) := by omega
        have hbs : (b : Int) ≤ (s.size : Int) := by omega
        have hge : decide ((b : Int) ≤ (a : Int)) = false := decide_eq_false (by omega)
        have hge' : decide (b ≤ a) = false := decide_eq_false (by omega)
        have hfw := HFew.out i hlt
        -- the end of the token
        have hend : (i + 1 < ts.length ∧ wr.cell? ⟨g, o + (i + 1) * 3 + 2, none⟩ = some (.int .i64 b)) ∨ (¬ i + 1 < ts.length ∧ b = s.size) := by
          unfold Lex.endT at hb
          by_cases h : i + 1 < ts.length
          · rw [if_pos h] at hb
            refine .inl ⟨h, ?_⟩
            rw [← hb]
            exact (hat wr HB.out (i + 1) h).2.2
          · rw [if_neg h] at hb
            exact .inr ⟨h, by omega⟩
        have hi0 : ((i : Int) == 0) = false ∨ (((i : Int) == 0) = true ∧ ((a : Int) != 0) = false) := by
          by_cases h : i = 0
          · exact .inr ⟨by simpa using h, by rw [hfirst h]; rfl⟩
          · exact .inl (by simpa using h)
        obtain ⟨k, hk⟩ : ∃ k, (Lex.nth ts i).kind = k := ⟨_, rfl⟩
        rw [hk] at hs3 hs4 t0
        have hext : (s.extract a b).data.toList = (s.data.toList.drop a).take (b - a) := Lex.sub_of s a b
        have hexz : (s.extract a b).size = b - a := by rw [ByteArray.size_extract, Nat.min_eq_left (by omega)]
        by_cases hq : k = 1
        · obtain ⟨h5, h6⟩ := hs4 hq
          have hkn : (k != 1) = false := by simpa using hq
          have hke : (k == 1) = true := by simpa using hq
          have hxz : (⟨(Lex.nth ts i).text.toArray⟩ : ByteArray).size = (Lex.nth ts i).text.length := by show (Lex.nth ts i).text.toArray.size = _; rw [List.size_toArray]
          obtain ⟨t, ht⟩ : ∃ t, s.extract a b = t := ⟨_, rfl⟩
          rw [ht] at hexz hext
          have hl5 : decide ((t.size : Int) < ((⟨(Lex.nth ts i).text.toArray⟩ : ByteArray).size : Int) + 2) = false := decide_eq_false (by rw [hxz, hexz]; omega)
          have hz0 : 0 < t.size := by omega
          have hz0z : (0 : Int) < (t.size : Int) := by omega
          have h34 : t[0].toNat = 34 := by
            have e1 : t.data.toList[0]? = some t[0] := by
              rw [List.getElem?_eq_getElem (by simpa using hz0)]
              rfl
            rw [hext, List.getElem?_take_of_lt (by omega), List.getElem?_drop, Nat.add_zero, h6] at e1
            injection e1 with e1
            rw [← e1]
            rfl
          have h34b : ((t[0].toNat : Int) != 34) = false := by rw [h34]; rfl
          have htz : t.size ≤ 2500 := by omega
          have hxs : (⟨(Lex.nth ts i).text.toArray⟩ : ByteArray).size ≤ 2500 := by rw [hxz]; exact hfw
          generalize (⟨(Lex.nth ts i).text.toArray⟩ : ByteArray) = x at t1 hl5 hxs
          clear hs3 hs4 h5 h6 hk hq hfirst ha hb hat hxz hext h34 hexz
          rcases hend with ⟨hn, t3⟩ | ⟨hn, rfl⟩
          · have hnz : (i : Int) + 1 < (ts.length : Int) := by omega
            rcases hi0 with h0 | ⟨h0, h00⟩
            all_goals
              go_wp2
              go_roundg (ts.length - i)
              case measure => omega
              case rel => exact ⟨i + 1, by go_num, by omega, by omega, HB⟩
          · have hnz : ¬ (i : Int) + 1 < (ts.length : Int) := by omega
            rcases hi0 with h0 | ⟨h0, h00⟩
            all_goals
              go_wp2
              go_roundg (ts.length - i)
              case measure => omega
              case rel => exact ⟨i + 1, by go_num, by omega, by omega, HB⟩
        · have hkn : (k != 1) = true := by simpa using hq
          have hke : (k == 1) = false := by simpa using hq
          have KS := B.source k a ⟨(Lex.nth ts i).text.toArray⟩ wr (by show (Lex.nth ts i).text.toArray.size ≤ _; rw [List.size_toArray]; omega)
          rw [show (⟨(Lex.nth ts i).text.toArray⟩ : ByteArray).data.toList = (Lex.nth ts i).text from rfl, hs3 hq, ← hext, Lex.ba_list] at KS
          generalize (⟨(Lex.nth ts i).text.toArray⟩ : ByteArray) = x at t1 KS
          have KS := Lib.hid KS
          clear hs3 hs4 hk hq hfirst ha hb hat hext
          rcases hend with ⟨hn, t3⟩ | ⟨hn, rfl⟩
          · have hnz : (i : Int) + 1 < (ts.length : Int) := by omega
            rcases hi0 with h0 | ⟨h0, h00⟩
            all_goals
              go_wp2_with fail
              with_reducible refine KS.out.mono ?_
              rintro e w2 ⟨rfl, hb2⟩
              have HB2 := Lib.hid (below_then HB.out hb2)
              clear hb2
              go_wp2
              go_roundg (ts.length - i)
              case measure => omega
              case rel => exact ⟨i + 1, by go_num, by omega, by omega, HB2⟩
          · have hnz : ¬ (i : Int) + 1 < (ts.length : Int) := by omega
            rcases hi0 with h0 | ⟨h0, h00⟩
            all_goals
              go_wp2_with fail
              with_reducible refine KS.out.mono ?_
              rintro e w2 ⟨rfl, hb2⟩
              have HB2 := Lib.hid (below_then HB.out hb2)
              clear hb2
              go_wp2
              go_roundg (ts.length - i)
              case measure => omega
              case rel => exact ⟨i + 1, by go_num, by omega, by omega, HB2⟩
      · obtain rfl : i = ts.length := by omega
        have hiz : ¬ (ts.length : Int) < (ts.length : Int) := by omega
        go_wp2
        go_ret
        exact ⟨rfl, B1.out.trans (HB.out.mono B1.out.size)⟩
end Go.Proofs.YtmcjgdajnppbhaaGreatDoor
