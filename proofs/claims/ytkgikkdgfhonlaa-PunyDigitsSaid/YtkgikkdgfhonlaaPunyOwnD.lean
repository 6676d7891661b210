/-
  Proved here: puny's row of the writer's. Conditions: as they stand in each.
-/
import Derived.Test.YtkgikkdgfhonlaaPunyOwnC
import Derived.Test.YtkgikkdgfhonlaaPunyWrite
namespace Go.Proofs.Ytkgikkdgfhonlaa
open Go.RowKit Utf
/-- What a row has come to. -/
def RowPost (base B : Nat) (p : Nat) (l ms : List Int) (m : Int) (X : List UInt8) (w : World) (e : Ending) (w' : World) : Prop :=
  ∃ (bs : List UInt8) (h : Nat) (d b : Int), e = .returned (.tuple #[]) ∧ Writer base B bs p h d b w' ∧ Below base w w' ∧ h = (Puny.lt (m + 1) l).length ∧ X = bs ++ Puny.tailB (Puny.rows l ms (m + 1) (d + 1)) b h ((h : Int) == (p : Int)) ∧ 0 ≤ d ∧ d ≤ 300 ∧ 0 ≤ b ∧ b ≤ 5000000000 ∧ bs.length ≤ 200 + 40 * h
set_option maxHeartbeats 4000000 in
set_option maxRecDepth 100000 in
theorem row_any (w0 : World) (B : Nat) (v : Value) (l ms : List Int) (m : Int) (X bs : List UInt8) (p h : Nat) (d b : Int) (w : World) (hl : Runes v l w0) (hB : Below w0.heap.size w0 w) (hn : l.length ≤ 300)
    (hW : Writer w0.heap.size B bs p h d b w) (hm : 0 ≤ m ∧ m ≤ 1114111) (hph : p ≤ h) (hh : h = (Puny.lt m l).length) (hlow : h < (Puny.lt (m + 1) l).length) (hd : 0 ≤ d ∧ d ≤ 400000000) (hb : 0 ≤ b ∧ b ≤ 5000000000) (hbs : bs.length ≤ 200 + 40 * h)
    (hX : X = bs ++ Puny.tailB (Puny.restOf l ms m l d) b h ((h : Int) == (p : Int))) :
    Calls Try.prog 27 #[.pointer (some ⟨B, 0, none⟩), v, .int .i32 m] w (RowPost w0.heap.size B p l ms m X w) := by
  obtain ⟨A, c, rfl, -, hcell⟩ := hl.form
  have HC := Lib.hid hcell
  have HX := Lib.hid hX
  have HW := Lib.hid hW
  have HB := Lib.hid hB
  have HH := Lib.hid hh
  have HLOW := Lib.hid hlow
  have HD := Lib.hid hd
  have HBB := Lib.hid hb
  have HBS := Lib.hid hbs
  have hhl : h ≤ 300 := by have := Puny.lt_len m l; omega
  obtain ⟨m0, m1⟩ := hm
  clear hl hcell hX hW hB hh hlow hd hb hbs
  go_enter Try.func27, Try.ntmps27
  go_wp2
  go_loopg [7, 10] (l.length + 1) (fun gk _ i wr => ∃ k : Nat, k ≤ l.length ∧ i = .int .i64 k ∧ l.length - k < gk ∧
    Hid (∃ (bs' : List UInt8) (h' : Nat) (d' b' : Int), Writer w0.heap.size B bs' p h' d' b' wr ∧ Below w0.heap.size w wr ∧ h' = (Puny.le m (l.take k)).length + (Puny.lt m (l.drop k)).length ∧ X = bs' ++ Puny.tailB (Puny.restOf l ms m (l.drop k) d') b' h' ((h' : Int) == (p : Int)) ∧ 0 ≤ d' ∧ d' ≤ 400000000 + k ∧ (h < h' → d' ≤ k) ∧ 0 ≤ b' ∧ b' ≤ 5000000000 ∧ bs'.length ≤ 200 + 40 * h' ∧ h ≤ h'))
  case atStart => exact ⟨0, Nat.zero_le _, rfl, by omega, ⟨bs, h, d, b, HW.out, Below.refl _ _, by rw [HH.out]; simp [Puny.le], HX.out, HD.out.1, by have := HD.out.2; omega, fun h => by omega, HBB.out.1, HBB.out.2, HBS.out, Nat.le_refl _⟩⟩
  case round =>
    obtain ⟨k, hk, rfl, hg, I⟩ := hrel
    obtain ⟨bs', h', d', b', i1, i2, i3, i4, d0, d1, d2, b0, b1, i5, i6⟩ := I.out
    have HW2 := Lib.hid i1
    have BI := Lib.hid i2
    have I5 := Lib.hid i5
    have D2 := Lib.hid d2
    obtain ⟨v1, ho1, hne1, hat1⟩ := i1.has
    have e3 := hat1.c3
    have f3 := hat1.fr 3
    clear ho1 hne1 hat1 i1 i2 I i5 d2
    by_cases hlt : k < l.length
    · obtain ⟨ad, rfl, hbk, hx⟩ := HC.out k hlt
      have hx' := ((HB.out.trans BI.out).cell (by rw [add_block]; exact hbk)).trans hx
      obtain ⟨x, hxe⟩ : ∃ x, x = l[k]! := ⟨_, rfl⟩
      rw [← hxe] at hx'
      have ht : l.take (k + 1) = l.take k ++ [x] := by rw [Utf.take_next l k hlt, ← hxe]
      have hdr : l.drop k = x :: l.drop (k + 1) := by rw [hxe, getElem!_pos l k hlt]; exact List.drop_eq_getElem_cons hlt
      have hle : Puny.le m (l.take (k + 1)) = if x ≤ m then Puny.le m (l.take k) ++ [x] else Puny.le m (l.take k) := by rw [ht, Puny.le_snoc]
      have hkz : (k : Int) < (l.length : Int) := by omega
      rw [hdr, Puny.lt_cons] at i3
      rw [hdr] at i4
      clear hx hbk hxe ht hdr
      rcases (show x < m ∨ x = m ∨ m < x by omega) with hc | hc | hc
      · rw [if_pos hc] at i3
        rw [if_pos (by omega)] at hle
        rw [Puny.rest_less hc] at i4
        have J2 : Hid (Writer w0.heap.size B bs' p h' (d' + 1) b' (wr.setCell ⟨B, 3, none⟩ (.int .i64 (d' + 1))) ∧ Below w0.heap.size w (wr.setCell ⟨B, 3, none⟩ (.int .i64 (d' + 1))) ∧ h' = (Puny.le m (l.take (k + 1))).length + (Puny.lt m (l.drop (k + 1))).length ∧ X = bs' ++ Puny.tailB (Puny.restOf l ms m (l.drop (k + 1)) (d' + 1)) b' h' ((h' : Int) == (p : Int))) :=
          ⟨HW2.out.set3 _, BI.out.setCell (p := ⟨B, 3, none⟩) HW2.out.low _, by rw [hle, List.length_append]; simp only [List.length_cons, List.length_nil] at i3 ⊢; omega, i4⟩
        clear i3 i4 hle
        go_wp2
        go_roundg (l.length - k)
        case measure => omega
        case rel => exact ⟨k + 1, by omega, by go_num, by omega, ⟨bs', h', d' + 1, b', J2.out.1, J2.out.2.1, J2.out.2.2.1, J2.out.2.2.2, by omega, by omega, fun hq => by have := D2.out hq; omega, b0, b1, I5.out, i6⟩⟩
      · subst hc
        rw [if_neg (by omega)] at i3
        rw [if_pos (by omega)] at hle
        rw [Puny.rest_same, Puny.tailB_one] at i4
        have h1l := Puny.le_len x (l.take (k + 1))
        have h2l := Puny.lt_len x (l.drop (k + 1))
        rw [List.length_take] at h1l
        rw [List.length_drop] at h2l
        have hh5 : h' + 1 = (Puny.le x (l.take (k + 1))).length + (Puny.lt x (l.drop (k + 1))).length := by rw [hle, List.length_append]; simp only [List.length_cons, List.length_nil]; omega
        have hh6 : h' + 1 ≤ l.length := by omega
        have hI5 := I5.out
        have KN := Lib.hid (numberP_any w0.heap.size B bs' p h' d' b' wr HW2.out (Nat.le_trans HB.out.size BI.out.size) (by omega) (by omega) (by omega) (by omega))
        obtain ⟨n1, n2⟩ := Puny.adapt_bd (delta := d') (count := (h' : Int) + 1) ((h' : Int) == (p : Int)) (by omega) (by omega)
        have hds := Puny.digitsB_short (n := d') 36 b' (by omega)
        obtain ⟨nb, hnb⟩ : ∃ nb, nb = Puny.adapt d' ((h' : Int) + 1) ((h' : Int) == (p : Int)) := ⟨_, rfl⟩
        obtain ⟨dg, hdg⟩ : ∃ dg, dg = Puny.digitsB d' 36 b' := ⟨_, rfl⟩
        rw [← hnb] at KN n1 n2 i4
        rw [← hdg] at KN hds i4
        have hfl : (((h' + 1 : Nat) : Int) == (p : Int)) = false := by rw [beq_eq_false_iff_ne]; omega
        have J2 : Hid (h' + 1 = (Puny.le x (l.take (k + 1))).length + (Puny.lt x (l.drop (k + 1))).length ∧ X = (bs' ++ dg) ++ Puny.tailB (Puny.restOf l ms x (l.drop (k + 1)) 0) nb ((h' + 1 : Nat) : Int) (((h' + 1 : Nat) : Int) == (p : Int)) ∧ (bs' ++ dg).length ≤ 200 + 40 * (h' + 1)) :=
          ⟨hh5, by rw [i4, hfl, List.append_assoc]; rfl, by rw [List.length_append]; omega⟩
        clear i3 i4 hle h1l h2l hh5 hfl hI5 hds hnb hdg
        go_wp2_with fail
        with_reducible refine KN.out.mono ?_
        rintro e9 w3 ⟨rfl, hw9, hb9⟩
        have HW9 := Lib.hid hw9
        have HB9 := Lib.hid hb9
        clear hw9 hb9 KN
        go_wp2
        go_roundg (l.length - k)
        case measure => omega
        case rel => exact ⟨k + 1, by omega, by go_num, by omega, ⟨bs' ++ dg, h' + 1, 0, nb, HW9.out, BI.out.trans HB9.out, J2.out.1, J2.out.2.1, by omega, by omega, fun _ => by omega, n1, n2, J2.out.2.2, by omega⟩⟩
      · rw [if_neg (by omega)] at i3 hle
        rw [Puny.rest_more hc] at i4
        have J2 : Hid (h' = (Puny.le m (l.take (k + 1))).length + (Puny.lt m (l.drop (k + 1))).length ∧ X = bs' ++ Puny.tailB (Puny.restOf l ms m (l.drop (k + 1)) d') b' h' ((h' : Int) == (p : Int))) := ⟨by rw [hle]; exact i3, i4⟩
        have hxne : (x == m) = false := by rw [beq_eq_false_iff_ne]; omega
        have hxl : ¬ x < m := by omega
        clear i3 i4 hle
        go_wp2
        go_roundg (l.length - k)
        case measure => omega
        case rel => exact ⟨k + 1, by omega, by go_num, by omega, ⟨bs', h', d', b', HW2.out, BI.out, J2.out.1, J2.out.2, d0, by omega, fun hq => by have := D2.out hq; omega, b0, b1, I5.out, i6⟩⟩
    · obtain rfl : k = l.length := by omega
      rw [List.take_length, List.drop_length] at i3
      rw [List.drop_length, Puny.rest_end] at i4
      have hh3 : h' = (Puny.lt (m + 1) l).length := by rw [i3, Puny.lt_next]; rfl
      have hlow2 : h < h' := by rw [hh3]; exact HLOW.out
      have he5 := D2.out hlow2
      have R : Hid (h' = (Puny.lt (m + 1) l).length ∧ X = bs' ++ Puny.tailB (Puny.rows l ms (m + 1) (d' + 1)) b' h' ((h' : Int) == (p : Int))) := ⟨hh3, i4⟩
      clear i3 i4 hh3
      go_wp2
      go_end0
      exact ⟨bs', h', d', b', rfl, HW2.out, BI.out, R.out.1, R.out.2, d0, by omega, b0, b1, I5.out⟩
end Go.Proofs.Ytkgikkdgfhonlaa
