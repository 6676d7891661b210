/-
  Proved here: LinePieces' walk: in which pieces bytes come does not matter. Conditions: none beyond what can be read; the library's tables are laid.
-/
import Derived.Test.YtkcabnodhdhaaaaDoorLinSmall
import Derived.Test.YtkcabnodhdhaaaaDoorLinRefB
namespace Go.Proofs.YtkcabnodhdhaaaaDoor
open Go.RowKit
/-- v is a slice that reads the numbers l. -/
def Nums (v : Value) (l : List Int) (w : World) : Prop := Row v (l.map (Value.int .i64)) w
theorem Nums.keep {v : Value} {l : List Int} {w w' : World} (h : Nums v l w) (hb : Below w.heap.size w w') : Nums v l w' := Row.keep h hb
theorem Nums.form {v : Value} {l : List Int} {w : World} (h : Nums v l w) : ∃ (A : Option Addr) (c : Nat), v = .slice A l.length c ∧ l.length ≤ c ∧
    (∀ k, k < l.length → ∃ ad, A = some ad ∧ ad.block < w.heap.size ∧ w.cell? (ad.add k) = some (.int .i64 l[k]!)) := by
  obtain ⟨A, c, rfl, hc, -, ha⟩ := h
  simp only [List.length_map] at ha hc ⊢
  refine ⟨A, c, rfl, hc, fun k hk => ?_⟩
  obtain ⟨ad, rfl, hlt, hcell⟩ := ha (by omega)
  refine ⟨ad, rfl, hlt, hcell k _ ?_⟩
  rw [List.getElem?_map, List.getElem?_eq_getElem hk, getElem!_pos l k hk]
  rfl
/-- A framer's row is no framer. -/
theorem FAt.row_ne {base b2 X Y g : Nat} {m n : Int} {vx vy : Value} {rx ry : List UInt8} {w : World} (hx : FAt base X m vx rx w) (hy : FAt b2 Y n vy ry w) (hg : vx.ownBlock = some g) : g ≠ Y := by
  intro e
  subst e
  rcases hx.own.2 with ⟨h0, -⟩ | ⟨g', cap, cur, h0, -, hg', -⟩
  · rw [h0] at hg; cases hg
  · rw [h0] at hg
    change some g' = some g at hg
    injection hg with hg
    subst hg
    rw [hy.blk] at hg'
    injection hg' with hg'
    injection hg' with h1 h2 h3
    cases h2
/-- A framer is as it was where another one is fed. -/
theorem FAt.apart {base b2 X Y : Nat} {m n : Int} {vx vy vy' : Value} {rx ry : List UInt8} {w w' : World} (hx : FAt base X m vx rx w) (hy : FAt b2 Y n vy ry w) (k : Fed Y vy vy' w w') (hXY : X ≠ Y) (hr : ∀ g, vx.ownBlock = some g → some g ≠ vy.ownBlock) : FAt base X m vx rx w' := by
  have hX : some X ≠ vy.ownBlock := fun e => hy.row_ne hx e.symm rfl
  refine ⟨(k.block X hx.lt hXY hX).trans hx.blk, hx.own.1, ?_⟩
  rcases hx.own.2 with h0 | ⟨g, cap, cur, e, h1, hg, h2⟩
  · exact .inl h0
  · have hb : vx.ownBlock = some g := by rw [e]; rfl
    exact .inr ⟨g, cap, cur, e, h1, (k.block g (Array.getElem?_eq_some_iff.1 hg).1 (hx.row_ne hy hb) (hr g hb)).trans hg, h2⟩
theorem FAt.fresh {base B : Nat} {m : Int} {v : Value} {r : List UInt8} {w : World} (h : FAt base B m v r w) : ∀ g, v.ownBlock = some g → g < w.heap.size := fun g hg => (World.ownsRow.lt h.own g hg).2
/-- Rows of lines that lie apart. -/
theorem OwnF.grew_off {b1 N : Nat} {L K K' : Value} {ts us : List Lin.Fr} {w w' : World} (h : OwnF b1 L ts w) (hN : ∀ g, L.ownBlock = some g → g < N) (hK : OwnF N K us w) (g : Grew K K' w w') : OwnF b1 L ts w' :=
  h.same fun b cur hL hg => g.block b (Array.getElem?_eq_some_iff.1 hg).1 fun e => by
    have h1 := hK.off b e.symm
    have h2 := hN b hL
    omega
theorem OwnF.fresh {base : Nat} {v : Value} {ts : List Lin.Fr} {w : World} (h : OwnF base v ts w) : ∀ g, v.ownBlock = some g → g < w.heap.size := fun g hg => (World.ownsRow.lt h g hg).2
namespace Lin
theorem told_step {m : Int} {r l all : List UInt8} {fs : List Fr} {a c : Nat} (hac : a ≤ c) (e : told m [] all = fs ++ told m r (l.drop a)) : told m [] all = (fs ++ told m r ((l.drop a).take (c - a))) ++ told m (rest (r ++ (l.drop a).take (c - a))) (l.drop c) := by
  rw [e]
  conv => lhs; rw [← List.take_append_drop (c - a) (l.drop a), told_app, List.drop_drop, show a + (c - a) = c by omega]
  rw [List.append_assoc]
theorem rest_step {r l all : List UInt8} {a c : Nat} (hac : a ≤ c) (e : rest all = rest (r ++ l.drop a)) : rest all = rest (rest (r ++ (l.drop a).take (c - a)) ++ l.drop c) := by
  rw [e]
  conv => lhs; rw [← List.take_append_drop (c - a) (l.drop a), ← List.append_assoc, rest_app, List.drop_drop, show a + (c - a) = c by omega]
theorem whole_rest (l : List UInt8) : wholes (rest l) = [] := (rest_rest _ l (Nat.le_refl _)).1
theorem cut_le : ∀ (n : Nat) (l : List UInt8), l.length ≤ n → (cut l).1.length + (cut l).2.length ≤ l.length := by
  intro n
  induction n with
  | zero => intro l hl; rw [List.eq_nil_of_length_eq_zero (by omega : l.length = 0)]; exact Nat.le_refl _
  | succ n ih =>
    intro l hl
    match l, hl with
    | [], _ => exact Nat.le_refl _
    | [c], _ => exact Nat.le_refl _
    | c :: d :: t, hl =>
      simp only [List.length_cons] at hl ⊢
      by_cases hc : c.toNat = 13 ∧ d.toNat = 10
      · rw [cut_end t hc]
        have := ih t (by omega)
        simp only [List.length_cons]
        omega
      · rw [cut_on t hc]
        have := ih (d :: t) (by simp only [List.length_cons]; omega)
        generalize cut (d :: t) = C at this ⊢
        obtain ⟨ls, r⟩ := C
        simp only [List.length_cons] at this
        cases ls with
        | nil => simp only [onto, List.length_nil, List.length_cons] at this ⊢; omega
        | cons a b => simp only [onto, List.length_cons] at this ⊢; omega
theorem both_le (m : Int) (r b : List UInt8) : (told m r b).length + (rest (r ++ b)).length ≤ r.length + b.length := by
  unfold told wholes rest
  rw [List.length_map, ← List.length_append]
  exact cut_le _ _ (Nat.le_refl _)
end Lin
/-- Two framers: x was fed at once, y is fed by pieces; what is told of both. -/
structure Two (w : World) (N n3 X Y Bx By : Nat) (m : Int) (vx La : Value) (rx : List UInt8) (TA : List Lin.Fr) (Lb vy : Value) (ry : List UInt8) (ts : List Lin.Fr) (wr : World) : Prop where
  b : OwnF N Lb ts wr
  y : FAt By Y m vy ry wr
  x : FAt Bx X m vx rx wr
  a : OwnF n3 La TA wr
  fv : ∀ g, vy.ownBlock = some g → N ≤ g
  fx : ∀ g, vx.ownBlock = some g → g < N
  fa : ∀ g, La.ownBlock = some g → g < N
  bel : Below w.heap.size w wr
  le : N ≤ wr.heap.size
  whole : Lin.wholes ry = []
  neXY : X ≠ Y
  wY : w.heap.size ≤ Y
  wN : w.heap.size ≤ N
theorem Two.fed {w wr w5 : World} {N n3 X Y Bx By : Nat} {m : Int} {vx La Lb vy vy' : Value} {rx ry ry' : List UInt8} {TA ts : List Lin.Fr} (H : Two w N n3 X Y Bx By m vx La rx TA Lb vy ry ts wr) (hF : FAt By Y m vy' ry' w5) (k : Fed Y vy vy' wr w5) (hw : Lin.wholes ry' = []) : Two w N n3 X Y Bx By m vx La rx TA Lb vy' ry' ts w5 where
  b := H.b.fed H.y k
  y := hF
  x := H.x.apart H.y k H.neXY fun g hg e => by have := H.fv g e.symm; have := H.fx g hg; omega
  a := H.a.fed H.y k
  fv := fun g hg => by
    rcases k.place g hg with h | h
    · exact H.fv g h
    · have := H.le; omega
  fx := H.fx
  fa := H.fa
  bel := H.bel.trans (k.below H.bel.size H.wY fun g hg => by have := H.fv g hg; have := H.wN; omega)
  le := Nat.le_trans H.le k.size
  whole := hw
  neXY := H.neXY
  wY := H.wY
  wN := H.wN
theorem Two.grew {w wr w5 : World} {N n3 X Y Bx By : Nat} {m : Int} {vx La Lb Lb' vy : Value} {rx ry : List UInt8} {TA ts ts' : List Lin.Fr} (H : Two w N n3 X Y Bx By m vx La rx TA Lb vy ry ts wr) (hb : OwnF N Lb' ts' w5) (k : Grew Lb Lb' wr w5) : Two w N n3 X Y Bx By m vx La rx TA Lb' vy ry ts' w5 where
  b := hb
  y := H.y.grew H.b k
  x := H.x.grew H.b k
  a := H.a.grew_off H.fa H.b k
  fv := H.fv
  fx := H.fx
  fa := H.fa
  bel := H.bel.trans (k.below H.bel.size fun g hg => by have := H.b.off g hg; have := H.wN; omega)
  le := Nat.le_trans H.le k.size
  whole := H.whole
  neXY := H.neXY
  wY := H.wY
  wN := H.wN
theorem LT.up {N M : Nat} {w : World} (h : LT N w) (hN : N ≤ M) : LT M w := ⟨h.tabs, Nat.lt_of_lt_of_le h.lt0 hN, Nat.lt_of_lt_of_le h.lt1 hN, Nat.lt_of_lt_of_le h.lt2 hN⟩
set_option maxHeartbeats 4000000 in
set_option maxRecDepth 100000 in
theorem pieces16_walk (most : Int) (s : ByteArray) (v : Value) (l : List Int) (w : World) (hT : LTabs w) (hv : Nums v l w) : Calls Tryd.prog 5 #[.int .i64 most, .string s, v] w fun e w' => e = .returned (.bool true) ∧ Below w.heap.size w w' := by
  obtain ⟨A, c, hve, hc, hcell⟩ := hv.form
  have K1 := Lib.hid (small16_any w hT)
  have HT := Lib.hid hT
  have HC := Lib.hid hcell
  have HV := Lib.hid hv
  clear hT hv hcell
  generalize hlen : l.length = n at *
  have HN := Lib.hid hlen
  clear hlen
  subst hve
  go_enter Tryd.func5, Tryd.ntmps5
  go_wp2_with fail
  refine K1.out.mono ?_
  rintro e w1 ⟨rfl, hb1⟩
  have B1 := Lib.hid hb1
  clear hb1 K1
  go_wp2_with fail
  refine (new_frm most w1).mono ?_
  rintro e w2 ⟨rfl, hF2, hb2⟩
  obtain ⟨m, hm⟩ : ∃ m, max most 0 = m := ⟨_, rfl⟩
  rw [hm] at hF2
  have F2 := Lib.hid hF2
  have B2 := Lib.hid (B1.out.trans (hb2.mono B1.out.size))
  have hX := hF2.lt
  clear hF2 hb2
  go_wp2_with fail
  refine (new_frm most w2).mono ?_
  rintro e w3 ⟨rfl, hF3, hb3⟩
  rw [hm] at hF3
  have F3 := Lib.hid hF3
  have X3 := Lib.hid (F2.out.keep hb3)
  have B3 := Lib.hid (B2.out.trans (hb3.mono B2.out.size))
  have hs1 := B1.out.size
  have hs3 := hb3.size
  clear hF3 hb3 hm F2
  have L0 : Hid (∀ N W, w.heap.size ≤ N → Below w.heap.size w W → LT N W) := Lib.hid fun N W hN hb => ((LT.of HT.out).keep hb).up hN
  by_cases hsz : s.size ≤ 2000
  · have hszz : ¬ (2000 : Int) < (s.size : Int) := by omega
    by_cases hn : n ≤ 100
    · have hnz : ¬ (100 : Int) < (n : Int) := by omega
      go_wp2_with fail
      refine (feed_any w1.heap.size w1.heap.size m _ [] s w3 X3.out (Nat.le_refl _) (by omega) (L0.out _ _ hs1 B3.out) rfl (by simp; omega)).mono ?_
      rintro e w4 ⟨La, vx, rfl, hOa, hFx, hDx⟩
      obtain ⟨TA, hTA⟩ : ∃ TA, Lin.told m [] s.data.toList = TA := ⟨_, rfl⟩
      obtain ⟨rx, hrx⟩ : ∃ rx, Lin.rest ([] ++ s.data.toList) = rx := ⟨_, rfl⟩
      rw [hTA] at hOa
      rw [hrx] at hFx
      have H4 : Hid (Two w w4.heap.size w3.heap.size w1.heap.size w2.heap.size w1.heap.size w2.heap.size m vx La rx TA (.slice none 0 0) (.slice none 0 0) [] [] w4) := Lib.hid {
        b := OwnF.nil _ _
        y := F3.out.apart X3.out hDx (by omega) (fun g hg => by cases hg)
        x := hFx
        a := hOa
        fv := fun g hg => by cases hg
        fx := hFx.fresh
        fa := hOa.fresh
        bel := B3.out.trans (hDx.below B3.out.size hs1 fun g hg => by cases hg)
        le := Nat.le_refl _
        whole := rfl
        neXY := by omega
        wY := by omega
        wN := by have := hDx.size; have := B3.out.size; omega }
      have HTA := Lib.hid hTA
      have HRX := Lib.hid hrx
      have hs4 := hDx.size
      clear hOa hFx hDx hTA hrx F3 X3 B2
      generalize hN4 : w4.heap.size = N4 at *
      generalize hN3 : w3.heap.size = N3 at *
      generalize hN2 : w2.heap.size = N2 at *
      generalize hN1 : w1.heap.size = N1 at *
      clear hN4 hN3 hN2 hN1
      go_wp2_with fail
      go_loopg [11, 12, 13] (n + 1) (fun gk s11 s12 s13 wr => ∃ (k a : Nat) (vy : Value) (ry : List UInt8) (ts : List Lin.Fr), k ≤ n ∧ a ≤ s.size ∧ s12 = .int .i64 a ∧ s13 = .int .i64 k ∧ n - k < gk ∧ ts.length + ry.length ≤ a ∧ Hid (Two w N4 N3 N1 N2 N1 N2 m vx La rx TA s11 vy ry ts wr ∧ Lin.told m [] s.data.toList = ts ++ Lin.told m ry (s.data.toList.drop a) ∧ Lin.rest ([] ++ s.data.toList) = Lin.rest (ry ++ s.data.toList.drop a)))
      case atStart => exact ⟨0, 0, _, [], [], Nat.zero_le _, Nat.zero_le _, rfl, rfl, by omega, Nat.le_refl _, Lib.hid ⟨H4.out, rfl, rfl⟩⟩
      case round =>
        obtain ⟨k, a, vy, ry, ts, hk, ha, rfl, rfl, hg, hrt, I⟩ := hrel
        by_cases hlt : k < n
        · obtain ⟨ad, rfl, hb, hx⟩ := HC.out k hlt
          obtain ⟨z, hz⟩ : ∃ z, z = l[k]! := ⟨_, rfl⟩
          rw [← hz] at hx
          have hx' := (I.out.1.bel.cell (by rw [add_block]; exact hb)).trans hx
          have HXW := Lib.hid (fun W (h : Below w.heap.size w W) => (h.cell (by rw [add_block]; exact hb)).trans hx)
          have hbelt := I.out.1.le
          clear hx hb hz
          by_cases h1 : (a : Int) < z
          · by_cases h2 : z ≤ (s.size : Int)
            · obtain ⟨q, rfl⟩ : ∃ q : Nat, z = q := ⟨z.toNat, by omega⟩
              have haq : a ≤ q := by omega
              have hqs : q ≤ s.size := by omega
              have hpl : (s.extract a q).size = q - a := by rw [← Lin.len_of, Lin.sub_of, List.length_take, List.length_drop, Lin.len_of]; omega
              have FY := Lib.hid (feed_any N2 N2 m vy ry (s.extract a q) wr I.out.1.y (Nat.le_refl _) (by omega) (L0.out _ _ (by omega) I.out.1.bel) I.out.1.whole (by omega))
              clear hpl
              go_wp2_with fail
              refine FY.out.mono ?_
              rintro e w5 ⟨L5, v5, rfl, ho5, hf5, hd5⟩
              rw [Lin.sub_of] at ho5 hf5
              have H5 := Lib.hid (I.out.1.fed hf5 hd5 (Lin.whole_rest _))
              have O5 := Lib.hid ho5
              have hle5 := H5.out.le
              have hbl := Lin.both_le m ry ((s.data.toList.drop a).take (q - a))
              rw [List.length_take] at hbl
              have hmin : min (q - a) (s.data.toList.drop a).length ≤ q - a := Nat.min_le_left _ _
              have htl : (ts ++ Lin.told m ry ((s.data.toList.drop a).take (q - a))).length = ts.length + (Lin.told m ry ((s.data.toList.drop a).take (q - a))).length := List.length_append
              clear ho5 hf5 hd5 FY
              go_wp2_with (at_builtin; refine append_frs w5 N4 _ ts H5.out.b hle5 (by omega) L5 _ O5.out.frs (by omega) rfl _ _ rfl rfl rfl ?_; intro v6 w6 ho6 hg6; have H6 := Lib.hid (H5.out.grew ho6 hg6); have hx6 := HXW.out w6 H6.out.bel; clear ho6 hg6)
              go_roundg (n - k)
              case measure => omega
              case rel => exact ⟨k + 1, q, v5, _, _, by omega, hqs, rfl, by simp, by omega, by omega, Lib.hid ⟨H6.out, Lin.told_step haq I.out.2.1, Lin.rest_step haq I.out.2.2⟩⟩
            · go_wp2_with fail
              go_roundg (n - k)
              case measure => omega
              case rel => exact ⟨k + 1, a, vy, ry, ts, by omega, ha, rfl, by simp, by omega, hrt, Lib.hid I.out⟩
          · go_wp2_with fail
            go_roundg (n - k)
            case measure => omega
            case rel => exact ⟨k + 1, a, vy, ry, ts, by omega, ha, rfl, by simp, by omega, hrt, Lib.hid I.out⟩
        · obtain rfl : k = n := by omega
          have hpl : (s.extract a s.size).size = s.size - a := by rw [← Lin.len_of, Lin.drop_of, List.length_drop, Lin.len_of]
          have hbelt := I.out.1.le
          have FY := Lib.hid (feed_any N2 N2 m vy ry (s.extract a s.size) wr I.out.1.y (Nat.le_refl _) (by omega) (L0.out _ _ (by omega) I.out.1.bel) I.out.1.whole (by omega))
          clear hpl
          go_wp2_with fail
          refine FY.out.mono ?_
          rintro e w5 ⟨L5, v5, rfl, ho5, hf5, hd5⟩
          rw [Lin.drop_of] at ho5 hf5
          have e2 := I.out.2.2
          rw [HRX.out] at e2
          rw [← e2] at hf5
          have H5 := Lib.hid (I.out.1.fed hf5 hd5 (by rw [e2]; exact Lin.whole_rest _))
          have O5 := Lib.hid ho5
          have hle5 := H5.out.le
          have hkl : (Lin.told m ry (s.data.toList.drop a)).length ≤ 4000 := by
            have := Lin.both_le m ry (s.data.toList.drop a)
            rw [List.length_drop, Lin.len_of] at this
            omega
          have e1 := I.out.2.1
          rw [HTA.out] at e1
          have E1 := Lib.hid e1
          have htl : TA.length ≤ 10000 := by
            rw [← HTA.out]
            have := Lin.both_le m [] s.data.toList
            rw [Lin.len_of] at this
            simp at this
            omega
          clear ho5 hf5 hd5 FY e1 e2
          go_wp2_with (at_builtin; refine append_frs w5 N4 _ ts H5.out.b hle5 (by omega) L5 _ O5.out.frs (by omega) rfl _ _ rfl rfl rfl ?_; intro v6 w6 ho6 hg6; have H6 := Lib.hid (H5.out.grew (ts' := TA) (by rw [E1.out]; exact ho6) hg6); have SA := Lib.hid (same16_yes La v6 TA w6 H6.out.a.frs H6.out.b.frs (by omega)); clear ho6 hg6)
          refine SA.out.mono ?_
          rintro e w7 ⟨rfl, hb7⟩
          have B7 := Lib.hid (H6.out.bel.trans (hb7.mono H6.out.bel.size))
          have R1 := Lib.hid (rest_any N1 N1 m vx rx w7 (H6.out.x.keep hb7))
          have R2 := Lib.hid (rest_any N2 N2 m v5 rx w7 (H6.out.y.keep hb7))
          clear hb7
          go_wp2_with fail
          refine R1.out.mono ?_
          rintro e w7' ⟨rfl, rfl⟩
          go_wp2_with fail
          refine R2.out.mono ?_
          rintro e w7' ⟨rfl, rfl⟩
          go_wp2_with fail
          go_ret
          refine ⟨?_, B7.out⟩
          simp
    · have hnz : (100 : Int) < (n : Int) := by omega
      go_wp2_with fail
      go_ret
      exact ⟨rfl, B3.out⟩
  · have hszz : (2000 : Int) < (s.size : Int) := by omega
    go_wp2_with fail
    go_ret
    exact ⟨rfl, B3.out⟩
end Go.Proofs.YtkcabnodhdhaaaaDoor
