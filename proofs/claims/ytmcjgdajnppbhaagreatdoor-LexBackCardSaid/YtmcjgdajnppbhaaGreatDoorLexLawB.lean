/-
  Proved here: the law LexBack, given what the program's functions tell. Conditions: none.
-/
import Derived.Test.YtmcjgdajnppbhaaGreatDoorLexSmall
import Derived.Test.YtmcjgdajnppbhaaGreatDoorRepSource
import Derived.BigQuiet
namespace Go.Proofs.YtmcjgdajnppbhaaGreatDoor
open Go.RowKit Utf
open Lex (Tok)
/-- Where tokens lie, if there are any. -/
theorem Toks.form {A : Option Addr} {n c : Nat} {ts : List Tok} {w : World} (h : Toks (.slice A n c) ts w) : n = ts.length ∧ n ≤ c ∧ ∃ g o, 0 < ts.length → A = some ⟨g, o, none⟩ ∧ ∀ W, Below w.heap.size w W → ∀ i, i < ts.length → TokAt g (o + i * 3) (Lex.nth ts i) W := by
  obtain ⟨A', c', he, hc, h⟩ := h
  injection he with h1 h2 h3
  subst h1 h2 h3
  by_cases h0 : 0 < ts.length
  · obtain ⟨g, o, rfl, hg, hi⟩ := h h0
    exact ⟨rfl, hc, g, o, fun _ => ⟨rfl, fun W hb i hl => (hi i hl).keep hg hb⟩⟩
  · exact ⟨rfl, hc, 0, 0, fun h => absurd h h0⟩
namespace Lex
theorem src_few (k : Int) (x : List UInt8) : x.length ≤ (srcT k x).length := by
  unfold srcT
  split
  · simp; omega
  · split
    · simp; omega
    · split
      · have := esc_ext x
        simp
        omega
      · exact Nat.le_refl _
theorem nth_at {ts : List Tok} {i : Nat} (h : i < ts.length) : ts[i]? = some (nth ts i) := by
  unfold nth
  rw [List.getD_eq_getElem?_getD, List.getElem?_eq_getElem h]
  rfl
theorem take_tok {ts : List Tok} {i : Nat} (h : i < ts.length) : ts.take (i + 1) = ts.take i ++ [nth ts i] := by
  rw [List.take_add_one, nth_at h]
  rfl
theorem outs_app : ∀ a b : List Tok, outs (a ++ b) = outs a ++ outs b
  | [], _ => rfl
  | k :: a, b => by
    have := outs_app a b
    rw [List.cons_append, outs, outs, this, List.append_assoc]
theorem outs_more {ts : List Tok} {i : Nat} (h : i < ts.length) : outs (ts.take (i + 1)) = outs (ts.take i) ++ srcT (nth ts i).kind (nth ts i).text := by
  rw [take_tok h, outs_app]
  simp [outs]
theorem outs_take_le (ts : List Tok) (i : Nat) : (outs (ts.take i)).length ≤ (outs ts).length := by
  have h := outs_app (ts.take i) (ts.drop i)
  rw [List.take_append_drop] at h
  rw [h, List.length_append]
  omega
/-- Is one of them a quote? -/
def quoted (ts : List Tok) : Bool := ts.any (fun k => k.kind == 1)
theorem quoted_more {ts : List Tok} {i : Nat} (h : i < ts.length) : quoted (ts.take (i + 1)) = (quoted (ts.take i) || (nth ts i).kind == 1) := by
  rw [take_tok h]
  unfold quoted
  simp
theorem says_nth {a b : List Tok} (h : a.map says = b.map says) (i : Nat) (hi : i < a.length) : (nth a i).kind = (nth b i).kind ∧ (nth a i).text = (nth b i).text := by
  have hl : a.length = b.length := by have := congrArg List.length h; simpa using this
  have e := congrArg (fun l => l[i]?) h
  simp only [List.getElem?_map] at e
  rw [nth_at hi, nth_at (hl ▸ hi)] at e
  simp only [Option.map_some, Option.some.injEq] at e
  injection e with e1 e2
  exact ⟨e1, e2⟩
end Lex
set_option maxHeartbeats 8000000 in
set_option maxRecDepth 100000 in
theorem back12_walk (B : LexOk) (s : ByteArray) (w : World) : Calls Tryz.prog 4 #[.string s] w fun e w' => e = .returned (.bool true) ∧ Below w.heap.size w w' := by
  have hsl : s.data.toList.length = s.size := by simp
  by_cases h1 : 900 < s.size
  · have q1 : (900 : Int) < (s.size : Int) := by omega
    clear h1
    go_enter Tryz.func4, Tryz.ntmps4
    go_wp2_with fail
    refine (small12_any B _).mono ?_
    rintro e w0 ⟨rfl, hb0⟩
    have B0 := Lib.hid hb0
    clear hb0
    go_wp2
    go_ret
    exact ⟨rfl, B0.out⟩
  have q1 : ¬ (900 : Int) < (s.size : Int) := by omega
  rcases Lex.lex_cases s.data.toList with ⟨h2, -⟩ | ⟨-, E, p, hx, hE, -⟩ | ⟨-, ts, hx, hcut, -⟩
  · omega
  · have KL := Lib.hid (fun W => B.lex_at s W (by omega) hx)
    have q2 : (E == 0) = false := by rcases hE with rfl | rfl | rfl <;> rfl
    clear h1 hx hE
    go_enter Tryz.func4, Tryz.ntmps4
    go_wp2_with fail
    refine (small12_any B _).mono ?_
    rintro e w0 ⟨rfl, hb0⟩
    have B0 := Lib.hid hb0
    clear hb0
    go_wp2_with fail
    with_reducible refine (KL.out _).mono ?_
    rintro e w1 ⟨A, c, rfl, -, hb1⟩
    have B1 := Lib.hid (below_then B0.out hb1)
    clear hb1
    go_wp2
    go_ret
    exact ⟨rfl, B1.out⟩
  · have KL := Lib.hid (fun W => B.lex_at s W (by omega) hx)
    obtain ⟨ts', hx2, hsays, hplain⟩ := Lex.lex_back hx
    have hol := Lex.outs_len hcut
    rw [hsl] at hol
    have hlen : ts'.length = ts.length := by have := congrArg List.length hsays; simpa using this
    have HS := Lib.hid (And.intro hsays hplain)
    have HO := Lib.hid hol
    have htl : ts.length ≤ 900 := by omega
    clear hx hcut hsays hplain hol
    go_enter Tryz.func4, Tryz.ntmps4
    go_wp2_with fail
    refine (small12_any B _).mono ?_
    rintro e w0 ⟨rfl, hb0⟩
    have B0 := Lib.hid hb0
    clear hb0
    go_wp2_with fail
    with_reducible refine (KL.out _).mono ?_
    rintro e w1 ⟨A, c, rfl, hT, hb1⟩
    have B1 := Lib.hid (below_then B0.out hb1)
    obtain ⟨-, hc, g, o, hform⟩ := hT.form
    have HF := Lib.hid hform
    clear hT hb1 hform
    go_wp2
    go_loopg [7, 8, 9] (ts.length + 1) (fun gk s7 s8 s9 wr => ∃ (i : Nat) (t : ByteArray) (q : Bool), s9 = .int .i64 i ∧ s7 = .string t ∧ s8 = .bool q ∧ i ≤ ts.length ∧ ts.length - i < gk ∧ t.size ≤ 900 ∧ Hid (t = ⟨(Lex.outs (ts.take i)).toArray⟩ ∧ q = Lex.quoted (ts.take i)) ∧ Hid (Below w1.heap.size w1 wr))
    case atStart => exact ⟨0, ⟨#[]⟩, false, rfl, rfl, rfl, Nat.zero_le _, by omega, by decide, Lib.hid ⟨rfl, rfl⟩, Lib.hid (Below.refl _ _)⟩
    case round =>
      obtain ⟨i, t, q, rfl, rfl, rfl, hi, hg, htz, I, HB⟩ := hrel
      by_cases hlt : i < ts.length
      · have hiz : (i : Int) < (ts.length : Int) := by omega
        obtain ⟨rfl, hat⟩ := HF.out (by omega)
        obtain ⟨t0, t1, t2⟩ := hat wr HB.out i hlt
        have hmore := Lex.outs_more hlt
        have hqm := Lex.quoted_more hlt
        have htk := Lex.outs_take_le ts (i + 1)
        have hsf := Lex.src_few (Lex.nth ts i).kind (Lex.nth ts i).text
        rw [hmore, List.length_append] at htk
        have hol := HO.out
        have KS := B.source (Lex.nth ts i).kind (Lex.nth ts i).place ⟨(Lex.nth ts i).text.toArray⟩ wr (by show (Lex.nth ts i).text.toArray.size ≤ _; rw [List.size_toArray]; omega)
        rw [show (⟨(Lex.nth ts i).text.toArray⟩ : ByteArray).data.toList = (Lex.nth ts i).text from rfl] at KS
        have hu2 : (t ++ ⟨(Lex.srcT (Lex.nth ts i).kind (Lex.nth ts i).text).toArray⟩ : ByteArray) = ⟨(Lex.outs (ts.take (i + 1))).toArray⟩ := by rw [I.out.1, Lex.ba_app, hmore]
        have hsz2 : (t ++ ⟨(Lex.srcT (Lex.nth ts i).kind (Lex.nth ts i).text).toArray⟩ : ByteArray).size ≤ 900 := by
          rw [hu2]
          show (Lex.outs (ts.take (i + 1))).toArray.size ≤ _
          rw [List.size_toArray, hmore, List.length_append]
          omega
        have husz : (⟨(Lex.srcT (Lex.nth ts i).kind (Lex.nth ts i).text).toArray⟩ : ByteArray).size ≤ 900 := by
          show (Lex.srcT (Lex.nth ts i).kind (Lex.nth ts i).text).toArray.size ≤ _
          rw [List.size_toArray]
          omega
        have HQ := Lib.hid (show (q || (Lex.nth ts i).kind == 1) = Lex.quoted (ts.take (i + 1)) by rw [hqm, I.out.2])
        obtain ⟨u, hu⟩ : ∃ u : ByteArray, u = ⟨(Lex.srcT (Lex.nth ts i).kind (Lex.nth ts i).text).toArray⟩ := ⟨_, rfl⟩
        rw [← hu] at KS hu2 hsz2 husz
        generalize (⟨(Lex.nth ts i).text.toArray⟩ : ByteArray) = x at KS t1
        obtain ⟨k, hk⟩ : ∃ k, (Lex.nth ts i).kind = k := ⟨_, rfl⟩
        rw [hk] at KS t0 HQ
        have HK := Lib.hid hk
        generalize ((Lex.nth ts i).place : Int) = pl at KS t2
        have HU2 := Lib.hid (And.intro hu2 hsz2)
        have KS := Lib.hid KS
        have HAt := Lib.hid hat
        clear hmore hqm htk hsf hol hu2 hsz2 hu hat I hk
        obtain ⟨kb, hkb⟩ : ∃ kb, (k == 1) = kb := ⟨_, rfl⟩
        rw [hkb] at HQ
        cases q <;> cases kb
        all_goals
          go_wp2_with fail
          with_reducible refine KS.out.mono ?_
          rintro e w2 ⟨rfl, hb2⟩
          have HB2 := Lib.hid (below_then HB.out hb2)
          have t0' : w2.cell? ⟨g, o + i * 3, none⟩ = some (.int .i64 k) := by have := (HAt.out w2 HB2.out i hlt).1; rwa [HK.out] at this
          clear hb2 KS HAt
          have hu2' := HU2.out.2
          go_wp2
          go_roundg (ts.length - i)
          case measure => omega
          case rel => exact ⟨i + 1, _, _, by go_num, rfl, rfl, by omega, by omega, hu2', Lib.hid ⟨HU2.out.1, HQ.out⟩, HB2⟩
      · obtain rfl : i = ts.length := by omega
        have hiz : ¬ (ts.length : Int) < (ts.length : Int) := by omega
        have ht : t = ⟨(Lex.outs ts).toArray⟩ := by have := I.out.1; rwa [List.take_length] at this
        have hq : q = Lex.quoted ts := by have := I.out.2; rwa [List.take_length] at this
        have hx3 : Lex.lexE t.data.toList = (0, 0, ts') := by rw [ht]; exact hx2
        have KL2 := Lib.hid (B.lex_at t wr (by omega) hx3)
        have heq : q = false → t = s := fun hf => by
          rw [ht, HS.out.2 (fun k hk hk1 => by
            rw [hf] at hq
            have hq2 : ts.any (fun k => k.kind == 1) = false := hq.symm
            rw [List.any_eq_false] at hq2
            exact hq2 k hk (by simpa using hk1)), Lex.ba_list]
        have HEQ := Lib.hid heq
        have hnl : ((ts'.length : Int) != (ts.length : Int)) = false := by rw [hlen]; simp
        clear ht hq hx3 heq I
        cases q
        · obtain rfl := HEQ.out rfl
          go_wp2_with fail
          with_reducible refine KL2.out.mono ?_
          rintro e w3 ⟨A2, c2, rfl, hT2, hb3⟩
          have B3 := Lib.hid (below_then HB.out hb3)
          obtain ⟨-, hc2, g2, o2, hform2⟩ := hT2.form
          have HF2 := Lib.hid hform2
          clear hT2 hb3 hform2
          go_wp2
          go_loopg [13] (ts.length + 1) (fun gk s13 wr => ∃ i : Nat, s13 = .int .i64 i ∧ i ≤ ts.length ∧ ts.length - i < gk ∧ Hid (Below w3.heap.size w3 wr))
          case atStart => exact ⟨0, rfl, Nat.zero_le _, by omega, Lib.hid (Below.refl _ _)⟩
          case round =>
            obtain ⟨i, rfl, hi, hg2, HB3⟩ := hrel
            by_cases hlt : i < ts.length
            · have hiz : (i : Int) < (ts.length : Int) := by omega
              have hiz2 : (i : Int) < (ts'.length : Int) := by omega
              obtain ⟨rfl, hat⟩ := HF.out (by omega)
              obtain ⟨rfl, hat2⟩ := HF2.out (by omega)
              obtain ⟨t0, t1, -⟩ := hat wr (B3.out.trans (HB3.out.mono B3.out.size)) i hlt
              obtain ⟨u0, u1, -⟩ := hat2 wr HB3.out i (by omega)
              obtain ⟨e1, e2⟩ := Lex.says_nth HS.out.1 i (by omega)
              rw [e1] at u0
              rw [e2] at u1
              generalize (Lex.nth ts i).kind = k at t0 u0
              generalize (⟨(Lex.nth ts i).text.toArray⟩ : ByteArray) = x at t1 u1
              clear hat hat2 e1 e2
              go_wp2
              go_quiet (fail)
              go_wp2
              go_roundg (ts.length - i)
              case measure => omega
              case rel => exact ⟨i + 1, by go_num, by omega, by omega, Lib.hid (below_drewN HB3.out _)⟩
            · obtain rfl : i = ts.length := by omega
              go_wp2
              go_ret
              exact ⟨rfl, B1.out.trans ((B3.out.trans (HB3.out.mono B3.out.size)).mono B1.out.size)⟩
        · go_wp2_with fail
          with_reducible refine KL2.out.mono ?_
          rintro e w3 ⟨A2, c2, rfl, hT2, hb3⟩
          have B3 := Lib.hid (below_then HB.out hb3)
          obtain ⟨-, hc2, g2, o2, hform2⟩ := hT2.form
          have HF2 := Lib.hid hform2
          clear hT2 hb3 hform2
          go_wp2
          go_loopg [13] (ts.length + 1) (fun gk s13 wr => ∃ i : Nat, s13 = .int .i64 i ∧ i ≤ ts.length ∧ ts.length - i < gk ∧ Hid (Below w3.heap.size w3 wr))
          case atStart => exact ⟨0, rfl, Nat.zero_le _, by omega, Lib.hid (Below.refl _ _)⟩
          case round =>
            obtain ⟨i, rfl, hi, hg2, HB3⟩ := hrel
            by_cases hlt : i < ts.length
            · have hiz : (i : Int) < (ts.length : Int) := by omega
              have hiz2 : (i : Int) < (ts'.length : Int) := by omega
              obtain ⟨rfl, hat⟩ := HF.out (by omega)
              obtain ⟨rfl, hat2⟩ := HF2.out (by omega)
              obtain ⟨t0, t1, -⟩ := hat wr (B3.out.trans (HB3.out.mono B3.out.size)) i hlt
              obtain ⟨u0, u1, -⟩ := hat2 wr HB3.out i (by omega)
              obtain ⟨e1, e2⟩ := Lex.says_nth HS.out.1 i (by omega)
              rw [e1] at u0
              rw [e2] at u1
              generalize (Lex.nth ts i).kind = k at t0 u0
              generalize (⟨(Lex.nth ts i).text.toArray⟩ : ByteArray) = x at t1 u1
              clear hat hat2 e1 e2
              go_wp2
              go_quiet (fail)
              go_wp2
              go_roundg (ts.length - i)
              case measure => omega
              case rel => exact ⟨i + 1, by go_num, by omega, by omega, Lib.hid (below_drewN HB3.out _)⟩
            · obtain rfl : i = ts.length := by omega
              go_wp2
              go_ret
              exact ⟨rfl, B1.out.trans ((B3.out.trans (HB3.out.mono B3.out.size)).mono B1.out.size)⟩
end Go.Proofs.YtmcjgdajnppbhaaGreatDoor
