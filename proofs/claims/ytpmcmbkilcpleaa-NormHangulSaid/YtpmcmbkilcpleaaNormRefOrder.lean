/-
  Proved here: the document's own 'Order' of layer 3: neighbours are turned till all marks stand in their order. Conditions: the slice can be read, and holds at most 10,000 numbers.
-/
import Derived.Test.YtpmcmbkilcpleaaNormRefOne
import Derived.Test.YtpmcmbkilcpleaaNormBubble
namespace Go.Proofs.Ytpmcmbkilcpleaa
open Go.RowKit Utf
namespace Norm
theorem passes_next : ∀ (n : Nat) (l : List Int), passes (n + 1) l = pass (passes n l)
  | 0, _ => rfl
  | n + 1, l => by
    show passes (n + 1) (pass l) = _
    rw [passes_next n (pass l)]
    rfl
theorem bub_turn {x y : Int} {t : List Int} (h : 0 < clsOf y ∧ clsOf y < clsOf x) : bub x (y :: t) = y :: bub x t := by
  rw [bub, if_pos h]
theorem bub_go {x y : Int} {t : List Int} (h : ¬ (0 < clsOf y ∧ clsOf y < clsOf x)) : bub x (y :: t) = x :: bub y t := by
  rw [bub, if_neg h]
theorem at_done (d : List Int) (x : Int) (t : List Int) : (d ++ x :: t)[d.length]! = x := by simp
theorem at_next (d : List Int) (x y : Int) (t : List Int) : (d ++ x :: y :: t)[d.length + 1]! = y := by
  have : (d ++ x :: y :: t) = (d ++ [x]) ++ y :: t := by simp
  rw [this, show d.length + 1 = (d ++ [x]).length by simp]
  exact at_done _ _ _
theorem set_two (d : List Int) (x y : Int) (t : List Int) : ((d ++ x :: y :: t).set d.length y).set (d.length + 1) x = d ++ y :: x :: t := by
  rw [List.set_append_right _ _ (Nat.le_refl _), List.set_append_right _ _ (by omega), Nat.sub_self, show d.length + 1 - d.length = 1 by omega]
  rfl
end Norm
/-- The state of one pass: what is done, what is carried, what is left. -/
def Going (L d : List Int) (x : Int) (t : List Int) : Prop := Norm.pass L = d ++ Norm.bub x t ∧ L.length = d.length + 1 + t.length
set_option maxHeartbeats 4000000 in
set_option maxRecDepth 100000 in
theorem order3_any (v : Value) (l : List Int) (w : World) (hl : Runes v l w) (hn : l.length ≤ 10000) : Calls Try.prog 17 #[v] w (PiecesPost (Norm.order l) w) := by
  have HL := Lib.hid hl
  clear hl
  go_enter Try.func17, Try.ntmps17
  go_wp2_with (at_builtin; refine append_row (w.alloc (.cells #[] 21)) 22 21 (.int .i32 0) 4 Try.underlying22 info_i32 rfl (by omega) w.heap.size _ _ _ (own_empty w _ (Nat.le_refl _)) (by simp) (by omega) _ _ (HL.out.keep (below_one _ _)) (one_runes _) (by rw [List.length_map]; omega) rfl _ _ rfl rfl rfl ?_; intro v2 w2 ho2 hb2; have hO2 : OwnR w.heap.size v2 l w2 := (OwnR.more (l := []) ho2 rfl (by rw [List.length_map])); obtain ⟨A, c, rfl, hA⟩ := hO2.shape; have O2 := Lib.hid hO2; have HA := Lib.hid hA; have B2 := Lib.hid ((below_one w _).trans hb2); clear ho2 hb2 hO2 hA)
  go_loopg [4] (l.length + 1) (fun gk i wr => ∃ n : Nat, n ≤ l.length ∧ i = .int .i64 n ∧ l.length - n < gk ∧ Hid (OwnR w.heap.size (.slice A l.length c) (Norm.passes n l) wr ∧ Below w.heap.size w wr))
  case atStart => exact ⟨0, Nat.zero_le _, rfl, by omega, ⟨O2.out, B2.out⟩⟩
  case round =>
    obtain ⟨n, hnl, rfl, hg, I⟩ := hrel
    by_cases hlt : n < l.length
    · obtain ⟨g, rfl, hgb, -⟩ := HA.out (by omega)
      have HG := Lib.hid hgb
      clear hgb
      obtain ⟨L, hL⟩ : ∃ L, L = Norm.passes n l := ⟨_, rfl⟩
      have hLl : L.length = l.length := by rw [hL, Norm.passes_len]
      rw [← hL] at I
      have H := Lib.hid hL
      have HLl := Lib.hid hLl
      have hstart : ∃ x t, L = x :: t := by
        cases L with
        | nil => simp at hLl; omega
        | cons x t => exact ⟨x, t, rfl⟩
      have HST := Lib.hid hstart
      clear hL hLl hstart
      go_wp2
      go_loopg [5] (l.length + 1) (fun gk i wr => ∃ (d : List Int) (x : Int) (t : List Int), i = .int .i64 ((d.length : Int) + 1) ∧ t.length < gk ∧ d.length + 1 + t.length = l.length ∧ Hid (Going L d x t ∧ OwnR w.heap.size (.slice (some ⟨g, 0, none⟩) l.length c) (d ++ x :: t) wr ∧ Below w.heap.size w wr))
      case atStart =>
        obtain ⟨x, t, e⟩ := HST.out
        have hh := HLl.out
        rw [e] at hh
        simp only [List.length_cons] at hh
        refine ⟨[], x, t, rfl, by omega, by simp; omega, ⟨⟨by rw [e]; rfl, by rw [e]; simp; omega⟩, ?_, I.out.2⟩⟩
        have := I.out.1
        rw [e] at this
        exact this
      case round =>
        obtain ⟨d, x, t, rfl, hgt, hlen, J⟩ := hrel
        cases t with
        | nil =>
          have hz : ¬ ((d.length : Int) + 1 < (l.length : Int)) := by simp at hlen; omega
          have hd1 : (d ++ [x]).length = l.length := by simp at hlen ⊢; omega
          have I2 : Hid (OwnR w.heap.size (.slice (some ⟨g, 0, none⟩) l.length c) (Norm.passes (n + 1) l) wr ∧ Below w.heap.size w wr) := by
            refine ⟨?_, J.out.2.2⟩
            rw [Norm.passes_next, ← H.out, J.out.1.1]
            exact J.out.2.1
          clear J hd1
          go_wp2
          go_roundg (l.length - n)
          case measure => omega
          case rel => exact ⟨n + 1, by omega, by go_num, by omega, I2⟩
        | cons y t =>
          have hz : (d.length : Int) + 1 < (l.length : Int) := by simp at hlen; omega
          have c1 := J.out.2.1.cell d.length (by simp)
          have c2 := J.out.2.1.cell (d.length + 1) (by simp)
          rw [Norm.at_done] at c1
          rw [Norm.at_next] at c2
          have hbl := J.out.2.2.size
          have k1 := refClass_any x wr
          obtain ⟨a, ha⟩ : ∃ a, a = clsOf x := ⟨_, rfl⟩
          obtain ⟨b, hb⟩ : ∃ b, b = clsOf y := ⟨_, rfl⟩
          rw [← ha] at k1
          have k2 := fun W => refClass_any y W
          rw [← hb] at k2
          have K2 := Lib.hid k2
          have HAa := Lib.hid ha
          have HBb := Lib.hid hb
          clear ha hb k2
          have hlen' : d.length + 1 + (t.length + 1) = l.length := by simpa using hlen
          go_wp2_with fail
          refine k1.mono ?_
          rintro e w3 ⟨rfl, hb3⟩
          have O3 := Lib.hid (J.out.2.1.keep hb3)
          have B3 := Lib.hid (J.out.2.2.trans (hb3.mono J.out.2.2.size))
          have c3 := O3.out.cell (d.length + 1) (by simp)
          rw [Norm.at_next] at c3
          clear hb3 c1 c2 k1
          go_wp2_with fail
          refine (K2.out _).mono ?_
          rintro e w4 ⟨rfl, hb4⟩
          have O4 := Lib.hid (O3.out.keep hb4)
          have B4 := Lib.hid (B3.out.trans (hb4.mono B3.out.size))
          clear hb4 c3 O3 B3
          by_cases hsw : 0 < b ∧ b < a
          · obtain ⟨hb0, hba⟩ := hsw
            have d1 := O4.out.cell d.length (by simp)
            have d2 := O4.out.cell (d.length + 1) (by simp)
            rw [Norm.at_done] at d1
            rw [Norm.at_next] at d2
            have f1 := O4.out.free d.length
            have f2 := O4.out.free (d.length + 1)
            have hG : Going L (d ++ [y]) x t := ⟨by rw [J.out.1.1, Norm.bub_turn (by rw [← HAa.out, ← HBb.out]; exact ⟨hb0, hba⟩), List.append_assoc]; rfl, by have := J.out.1.2; simp at this ⊢; omega⟩
            have J2 : Hid (Going L (d ++ [y]) x t ∧ OwnR w.heap.size (.slice (some ⟨g, 0, none⟩) l.length c) ((d ++ [y]) ++ x :: t) (((w4.setCell ⟨g, d.length, none⟩ (.int .i32 y)).setCell ⟨g, d.length + 1, none⟩ (.int .i32 x)).drew) ∧ Below w.heap.size w (((w4.setCell ⟨g, d.length, none⟩ (.int .i32 y)).setCell ⟨g, d.length + 1, none⟩ (.int .i32 x)).drew)) := by
              refine ⟨hG, ?_, ((B4.out.setCell (p := ⟨g, d.length, none⟩) HG.out _).setCell (p := ⟨g, d.length + 1, none⟩) HG.out _).drew⟩
              have h := (O4.out.put d.length y).put (d.length + 1) x
              rw [Norm.set_two] at h
              rw [List.append_assoc]
              exact h
            clear hG J
            go_wp2
            go_region
            go_wp2
            go_roundg (t.length + 1)
            case measure => simp at hgt; omega
            case rel => exact ⟨d ++ [y], x, t, by simp, by omega, by simp; omega, J2⟩
          · have hG : Going L (d ++ [x]) y t := ⟨by rw [J.out.1.1, Norm.bub_go (by rw [← HAa.out, ← HBb.out]; exact hsw), List.append_assoc]; rfl, by have := J.out.1.2; simp at this ⊢; omega⟩
            have J2 : Hid (Going L (d ++ [x]) y t ∧ OwnR w.heap.size (.slice (some ⟨g, 0, none⟩) l.length c) ((d ++ [x]) ++ y :: t) w4 ∧ Below w.heap.size w w4) := ⟨hG, by simpa using O4.out, B4.out⟩
            have hsw' : ¬ (0 < b) ∨ a ≤ b := by omega
            clear hG hsw J
            by_cases hb0 : 0 < b
            · have hba : a ≤ b := by omega
              clear hsw'
              go_wp2
              go_roundg (t.length + 1)
              case measure => simp at hgt; omega
              case rel => exact ⟨d ++ [x], y, t, by simp, by omega, by simp; omega, J2⟩
            · have hb1 : b ≤ 0 := by omega
              clear hsw' hb0
              go_wp2
              go_roundg (t.length + 1)
              case measure => simp at hgt; omega
              case rel => exact ⟨d ++ [x], y, t, by simp, by omega, by simp; omega, J2⟩
    · obtain rfl : n = l.length := by omega
      go_wp2
      go_ret
      have h := I.out.1
      rw [Norm.passes_order] at h
      exact ⟨_, rfl, h, I.out.2⟩
end Go.Proofs.Ytpmcmbkilcpleaa
