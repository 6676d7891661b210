/-
  Proved here: the law ContextParts, given what the program's Need, All and Needs tell. Conditions: the slice can be read.
-/
import Derived.Test.YtoekkiodhbejpaaCtxSmall
namespace Go.Proofs.Ytoekkiodhbejpaa
open Go.RowKit
namespace Ctx
def isLatin (x : Int) : Bool := (decide (97 ≤ x) && decide (x ≤ 122)) || (decide (48 ≤ x) && decide (x ≤ 57))
/-- The letters and digits among the first k bytes. -/
def latins (s : ByteArray) (k : Nat) : List Int := ((s.data.toList.take k).map fun b => (b.toNat : Int)).filter isLatin
theorem latins_next (s : ByteArray) (k : Nat) (h : k < s.size) : latins s (k + 1) = if isLatin (s[k].toNat : Int) = true then latins s k ++ [(s[k].toNat : Int)] else latins s k := by
  unfold latins
  rw [List.take_succ_eq_append_getElem (by simpa using h), List.map_append, List.filter_append]
  rw [show s.data.toList[k]'(by simpa using h) = s[k] from rfl]
  by_cases hl : isLatin (s[k].toNat : Int) = true
  · rw [if_pos hl]; simp [hl]
  · rw [if_neg hl]; simp [hl]
theorem latins_latin (s : ByteArray) (k : Nat) : latin (latins s k) := fun x hx => by
  unfold latins at hx
  have := (List.mem_filter.1 hx).2
  unfold isLatin at this
  simp at this
  omega
theorem latins_len (s : ByteArray) (k : Nat) : (latins s k).length ≤ k := by
  unfold latins
  have h1 := List.length_filter_le isLatin ((s.data.toList.take k).map fun b => (b.toNat : Int))
  rw [List.length_map, List.length_take] at h1
  omega
theorem isLatin_cases (x : Int) : (isLatin x = true ∧ ((97 ≤ x ∧ x ≤ 122) ∨ (48 ≤ x ∧ x ≤ 57))) ∨ (isLatin x = false ∧ (x < 48 ∨ (57 < x ∧ x < 97) ∨ 122 < x)) := by
  cases h : isLatin x with
  | true =>
    refine .inl ⟨rfl, ?_⟩
    unfold isLatin at h
    simp at h
    omega
  | false =>
    refine .inr ⟨rfl, ?_⟩
    unfold isLatin at h
    simp at h
    omega
end Ctx
set_option maxHeartbeats 8000000 in
set_option maxRecDepth 100000 in
theorem parts7_walk (B : CtxOk) (S7 : Small7) (v : Value) (l : List Int) (s : ByteArray) (w : World) (hl : Runes v l w) : Calls Try.prog 6 #[v, .string s] w fun e w' => e = .returned (.bool true) ∧ Below w.heap.size w w' := by
  have HL := Lib.hid hl
  obtain ⟨A, c, rfl, -, -⟩ := hl.form
  clear hl
  by_cases hn : l.length ≤ 100
  · have hnz : ¬ (100 : Int) < (l.length : Int) := by omega
    by_cases hs : s.size ≤ 100
    · have hsz : ¬ (100 : Int) < (s.size : Int) := by omega
      go_enter Try.func6, Try.ntmps6
      go_wp2_with fail
      refine (S7 _).mono ?_
      rintro e w0 ⟨rfl, hb0⟩
      have B0 := Lib.hid hb0
      clear hb0
      go_wp2_with fail
      refine (new_any _).mono ?_
      rintro e w1 ⟨tt, rfl, hT, hb1⟩
      have hT' := hT
      obtain ⟨b0, b1, b2, b3, rfl, -, -, -, -⟩ := hT'
      have K0 := Lib.hid (kept_new (b0 := b0) (b1 := b1) (b2 := b2) (b3 := b3) (below_then B0.out hb1) hT 29)
      clear hT hb1 B0
      obtain ⟨W0, hW0⟩ : ∃ W0, W0 = w1.alloc (.cells #[.slice (some ⟨b0, 0, none⟩) 74 74, .slice (some ⟨b1, 0, none⟩) 10 10, .slice (some ⟨b2, 0, none⟩) 11 11, .slice (some ⟨b3, 0, none⟩) 42 42] 29) := ⟨_, rfl⟩
      have hN0 : W0.heap.size = w1.heap.size + 1 := by rw [hW0]; simp
      rw [← hW0] at K0
      have HW0 := Lib.hid hW0
      have hown := own_empty W0 W0.heap.size (Nat.le_refl _)
      rw [hN0] at hown
      have OW := Lib.hid hown
      have HN0 := Lib.hid hN0
      clear hW0 hN0 hown
      go_wp2_with (at_builtin; (rw [← HW0.out]); refine append_row (W0.alloc (.cells #[] 21)) 22 21 (.int .i32 0) 4 Try.underlying22 info_i32 rfl (by omega) (w1.heap.size + 1) _ _ _ OW.out (by simp; have := HN0.out; omega) (by omega) _ _ (HL.out.keep (K0.out.next (below_one W0 _)).below) (one_runes _) (by rw [List.length_map]; omega) rfl _ _ rfl rfl rfl ?_; intro v3 w3 ho3 hb3; have O3 : Hid (OwnR (w1.heap.size + 1) v3 l w3) := Lib.hid (OwnR.more (l := []) ho3 rfl (by rw [List.length_map])); have BB3 := Lib.hid ((below_one W0 _).trans (hb3.mono (Nat.le_of_eq HN0.out))); have Z3 : Hid (w1.heap.size + 1 ≤ w3.heap.size) := Lib.hid (by have := hb3.size; simp at this; have := HN0.out; omega); clear ho3 hb3)
      clear HW0 OW
      have BB4 : Hid (Below (w1.heap.size + 1) W0 w3) := by have h := BB3.out; rw [HN0.out] at h; exact h
      go_loopg [7, 8] (s.size + 1) (fun gk s7 i wr => ∃ k : Nat, k ≤ s.size ∧ i = .int .i64 k ∧ s.size - k < gk ∧ Hid (OwnR (w1.heap.size + 1) s7 (l ++ Ctx.latins s k) wr ∧ Below (w1.heap.size + 1) W0 wr ∧ w1.heap.size + 1 ≤ wr.heap.size))
      case atStart => exact ⟨0, Nat.zero_le _, rfl, by omega, ⟨by rw [show Ctx.latins s 0 = [] from rfl, List.append_nil]; exact O3.out, BB4.out, Z3.out⟩⟩
      case round =>
        obtain ⟨k, hk2, rfl, hg, I0⟩ := hrel
        obtain ⟨i1, i2, i3⟩ := I0.out
        have IO := Lib.hid i1
        have IB := Lib.hid i2
        have IZ := Lib.hid i3
        have I : Hid (Kept w w1.heap.size b0 b1 b2 b3 wr) := Lib.hid (K0.out.next (by rw [HN0.out]; exact i2))
        clear I0 i1 i2 i3
        by_cases hlt : k < s.size
        · have hkz : (k : Int) < (s.size : Int) := by omega
          have hub : s[k].toNat < 256 := s[k].toNat_lt
          have hA := Ctx.latins_next s k hlt
          have hle : (l ++ Ctx.latins s k).length ≤ 1000000 := by
            have h1 := Ctx.latins_len s k
            rw [List.length_append]
            omega
          obtain ⟨x, hx⟩ : ∃ x : Int, (s[k].toNat : Int) = x := ⟨_, rfl⟩
          have x0 : 0 ≤ x := by omega
          have x1 : x ≤ 255 := by omega
          rw [hx] at hA
          clear hub
          rcases Ctx.isLatin_cases x with ⟨hp, hc⟩ | ⟨hp, hc⟩
          · rw [if_pos hp] at hA
            have HA := Lib.hid hA
            clear hA hp
            rcases hc with hc | hc
            · have f0 : 97 ≤ x := by omega
              have f1 : x ≤ 122 := by omega
              clear hc
              go_wp2_with (at_builtin; refine append_cells wr 22 21 (.int .i32 0) 4 Try.underlying22 info_i32 rfl (by omega) (w1.heap.size + 1) _ _ _ IO.out IZ.out hle 1 (by omega) _ rfl rfl rfl _ _ rfl rfl rfl ?_; intro v6 w6 ho6 hb6; have HO := Lib.hid ho6; have HB6 := Lib.hid hb6; clear ho6 hb6)
              go_roundg (s.size - k)
              case measure => omega
              case rel => exact ⟨k + 1, by omega, by go_num, by omega, ⟨by rw [HA.out, ← List.append_assoc]; exact OwnR.more HO.out rfl rfl, IB.out.trans HB6.out, Nat.le_trans IZ.out HB6.out.size⟩⟩
            · have f0 : ¬ 97 ≤ x := by omega
              have f1 : 48 ≤ x := by omega
              have f2 : x ≤ 57 := by omega
              clear hc
              go_wp2_with (at_builtin; refine append_cells wr 22 21 (.int .i32 0) 4 Try.underlying22 info_i32 rfl (by omega) (w1.heap.size + 1) _ _ _ IO.out IZ.out hle 1 (by omega) _ rfl rfl rfl _ _ rfl rfl rfl ?_; intro v6 w6 ho6 hb6; have HO := Lib.hid ho6; have HB6 := Lib.hid hb6; clear ho6 hb6)
              go_roundg (s.size - k)
              case measure => omega
              case rel => exact ⟨k + 1, by omega, by go_num, by omega, ⟨by rw [HA.out, ← List.append_assoc]; exact OwnR.more HO.out rfl rfl, IB.out.trans HB6.out, Nat.le_trans IZ.out HB6.out.size⟩⟩
          · rw [if_neg (by rw [hp]; decide)] at hA
            have HA := Lib.hid hA
            clear hA hp
            rcases hc with hc | hc | hc
            · have f0 : ¬ 97 ≤ x := by omega
              have f1 : ¬ 48 ≤ x := by omega
              clear hc
              go_wp2
              go_roundg (s.size - k)
              case measure => omega
              case rel => exact ⟨k + 1, by omega, by go_num, by omega, ⟨by rw [HA.out]; exact IO.out, IB.out, IZ.out⟩⟩
            · have f0 : ¬ 97 ≤ x := by omega
              have f1 : 48 ≤ x := by omega
              have f2 : ¬ x ≤ 57 := by omega
              clear hc
              go_wp2
              go_roundg (s.size - k)
              case measure => omega
              case rel => exact ⟨k + 1, by omega, by go_num, by omega, ⟨by rw [HA.out]; exact IO.out, IB.out, IZ.out⟩⟩
            · have f0 : 97 ≤ x := by omega
              have f1 : ¬ x ≤ 122 := by omega
              have f2 : 48 ≤ x := by omega
              have f3 : ¬ x ≤ 57 := by omega
              clear hc
              go_wp2
              go_roundg (s.size - k)
              case measure => omega
              case rel => exact ⟨k + 1, by omega, by go_num, by omega, ⟨by rw [HA.out]; exact IO.out, IB.out, IZ.out⟩⟩
        · obtain rfl : k = s.size := by omega
          obtain ⟨hS, c0, c1, c2, c3⟩ := I.out.held
          have io := IO.out
          have hML : (l ++ Ctx.latins s s.size).length ≤ 1000 := by
            have h1 := Ctx.latins_len s s.size
            rw [List.length_append]
            omega
          have hP := Ctx.parts (l := l) (Ctx.latins_latin s s.size)
          obtain ⟨M, hM⟩ : ∃ M, M = l ++ Ctx.latins s s.size := ⟨_, rfl⟩
          rw [← hM] at io hML hP
          obtain ⟨A6, c6, hv6, -⟩ := io.shape
          obtain ⟨nM, hnM⟩ : ∃ nM, nM = M.length := ⟨_, rfl⟩
          rw [← hnM] at hv6
          subst hv6
          have RM0 := Lib.hid io.runes
          have HML := Lib.hid hML
          cases hal : Ctx.all l with
          | false =>
            have KL := Lib.hid (B.all_at (.agg #[.slice (some ⟨b0, 0, none⟩) 74 74, .slice (some ⟨b1, 0, none⟩) 10 10, .slice (some ⟨b2, 0, none⟩) 11 11, .slice (some ⟨b3, 0, none⟩) 42 42]) _ l wr I.out.table (HL.out.keep I.out.below) (by omega) hal)
            clear io hM hnM hML hP hal
            go_wp2_with fail
            refine KL.out.mono ?_
            rintro e w5 ⟨rfl, hb5⟩
            have K5 := Lib.hid (I.out.next hb5)
            clear hb5
            go_wp2
            go_ret
            exact ⟨rfl, K5.out.below⟩
          | true =>
            have KL := Lib.hid (B.all_at (.agg #[.slice (some ⟨b0, 0, none⟩) 74 74, .slice (some ⟨b1, 0, none⟩) 10 10, .slice (some ⟨b2, 0, none⟩) 11 11, .slice (some ⟨b3, 0, none⟩) 42 42]) _ l wr I.out.table (HL.out.keep I.out.below) (by omega) hal)
            have HP := Lib.hid (hP hal)
            clear io hM hnM hML hP hal
            go_wp2_with fail
            refine KL.out.mono ?_
            rintro e w5 ⟨rfl, hb5⟩
            have K5 := Lib.hid (I.out.next hb5)
            have RM5 := Lib.hid (RM0.out.keep hb5)
            clear hb5 hS c0 c1 c2 c3
            obtain ⟨hS, c0, c1, c2, c3⟩ := K5.out.held
            go_wp2_with fail
            refine (B.all_at (.agg #[.slice (some ⟨b0, 0, none⟩) 74 74, .slice (some ⟨b1, 0, none⟩) 10 10, .slice (some ⟨b2, 0, none⟩) 11 11, .slice (some ⟨b3, 0, none⟩) 42 42]) _ M _ K5.out.table RM5.out HML.out HP.out).mono ?_
            rintro e w6 ⟨rfl, hb6⟩
            have K6 := Lib.hid (K5.out.next hb6)
            clear hb6
            go_wp2
            go_ret
            exact ⟨rfl, K6.out.below⟩
    · have hsz : (100 : Int) < (s.size : Int) := by omega
      go_enter Try.func6, Try.ntmps6
      go_wp2_with fail
      refine (S7 _).mono ?_
      rintro e w0 ⟨rfl, hb0⟩
      have B0 := Lib.hid hb0
      clear hb0
      go_wp2
      go_ret
      exact ⟨rfl, B0.out⟩
  · have hnz : (100 : Int) < (l.length : Int) := by omega
    go_enter Try.func6, Try.ntmps6
    go_wp2_with fail
    refine (S7 _).mono ?_
    rintro e w0 ⟨rfl, hb0⟩
    have B0 := Lib.hid hb0
    clear hb0
    go_wp2
    go_ret
    exact ⟨rfl, B0.out⟩
end Go.Proofs.Ytoekkiodhbejpaa
