/-
  Proved here: 'Eight' of package utf, and of the document's own answer, is the place of the first byte that is 80 or more; 'Same' of the document's own answer tells whether two slices read alike. Conditions: the slices can be read.
-/
import Derived.Test.YtkgikkdgfhonlaaUtfRefStr
import Derived.Deep.QuietTactic
import Derived.BigQuiet
namespace Go.Proofs.Ytkgikkdgfhonlaa
open Go.RowKit Utf
namespace Utf
def eightFrom : List UInt8 → Nat → Int
  | [], _ => -1
  | b :: t, k => if b.toNat < 128 then eightFrom t (k + 1) else k
/-- The place of the first byte that is 80 or more; -1, if there is none. -/
def eightOf (s : List UInt8) : Int := eightFrom s 0
theorem drop_next (s : ByteArray) (k : Nat) (h : k < s.size) : s.data.toList.drop k = s[k] :: s.data.toList.drop (k + 1) := by
  rw [List.drop_eq_getElem_cons (by simpa using h)]
  rfl
theorem eight_step (s : ByteArray) (k : Nat) (h : k < s.size) : eightFrom (s.data.toList.drop k) k = if s[k].toNat < 128 then eightFrom (s.data.toList.drop (k + 1)) (k + 1) else k := by
  rw [drop_next s k h]
  rfl
theorem eight_end (s : ByteArray) : eightFrom (s.data.toList.drop s.size) s.size = -1 := by
  rw [List.drop_of_length_le (by simp)]
  rfl
end Utf
set_option maxHeartbeats 1000000 in
set_option maxRecDepth 100000 in
theorem eight_any (s : ByteArray) (w : World) (hs : s.size ≤ 100000) : Calls Try.prog 21 #[.string s] w fun e w' => e = .returned (.int .i64 (eightOf s.data.toList)) ∧ w = w' := by
  go_enter Try.func21, Try.ntmps21
  go_wp2
  go_loop [6] (fun i => ∃ k : Nat, k ≤ s.size ∧ i = .int .i64 k ∧ Hid (eightFrom (s.data.toList.drop k) k = eightOf s.data.toList)) (fun i => s.size - (intOf i).toNat)
  case atStart => exact ⟨0, Nat.zero_le _, rfl, (rfl : eightFrom (s.data.toList.drop 0) 0 = eightOf s.data.toList)⟩
  case round =>
    obtain ⟨k, hk, rfl, I⟩ := hrel
    by_cases hlt : k < s.size
    · have hst := eight_step s k hlt
      by_cases hb : s[k].toNat < 128
      · have I2 : Hid (eightFrom (s.data.toList.drop (k + 1)) (k + 1) = eightOf s.data.toList) := by
          rw [if_pos hb] at hst
          exact hst.symm.trans I.out
        clear hst I
        go_wp2
        go_round
        case rel => exact ⟨k + 1, by omega, by go_num, I2⟩
        case measure => simp [intOf]; omega
      · have I2 : Hid ((k : Int) = eightOf s.data.toList) := by
          rw [if_neg hb] at hst
          exact hst.symm.trans I.out
        have hb' : 128 ≤ s[k].toNat := by omega
        clear hst I hb
        go_wp2
        go_ret
        exact ⟨ret_one I2.out, rfl⟩
    · obtain rfl : k = s.size := by omega
      have I2 : Hid (-1 = eightOf s.data.toList) := (eight_end s).symm.trans I.out
      clear I
      go_wp2
      go_ret
      exact ⟨ret_one I2.out, rfl⟩
theorem same_of {a b : List Int} (hl : a.length = b.length) (h : ∀ j, j < a.length → a[j]! = b[j]!) : a = b := by
  apply List.ext_getElem hl
  intro i h1 h2
  have := h i h1
  rw [getElem!_pos a i h1, getElem!_pos b i h2] at this
  exact this
def SamePost (a b : List Int) (w : World) (e : Ending) (w' : World) : Prop := e = .returned (.bool (decide (a = b))) ∧ Below w.heap.size w w'
set_option maxHeartbeats 2000000 in
set_option maxRecDepth 100000 in
theorem refSame_any (x y : Value) (a b : List Int) (w : World) (hx : Runes x a w) (hy : Runes y b w) (hn : a.length ≤ 100000) : Calls Try.prog 20 #[x, y] w (SamePost a b w) := by
  obtain ⟨A, c, rfl, -, hA⟩ := hx.form
  obtain ⟨B, d, rfl, -, hB⟩ := hy.form
  have HA := Lib.hid hA
  have HB := Lib.hid hB
  clear hx hy hA hB
  by_cases hl : a.length = b.length
  · have HL := Lib.hid hl
    have hle : b.length = a.length := hl.symm
    rw [hle]
    clear hl hle
    go_enter Try.func20, Try.ntmps20
    go_wp2
    go_loopg [5] (a.length + 1) (fun gk i wr => ∃ k : Nat, k ≤ a.length ∧ i = .int .i64 k ∧ a.length - k < gk ∧ Hid ((∀ j, j < k → a[j]! = b[j]!) ∧ Below w.heap.size w wr))
    case atStart => exact ⟨0, Nat.zero_le _, rfl, by omega, ⟨fun j hj => absurd hj (by omega), Below.refl _ _⟩⟩
    case round =>
      obtain ⟨k, hk, rfl, hg, I⟩ := hrel
      by_cases hlt : k < a.length
      · obtain ⟨ad, rfl, h1, hc1⟩ := HA.out k hlt
        obtain ⟨bd, rfl, h2, hc2⟩ := HB.out k (by rw [← HL.out]; exact hlt)
        have c1 := (I.out.2.cell (by rw [add_block]; exact h1)).trans hc1
        have c2 := (I.out.2.cell (by rw [add_block]; exact h2)).trans hc2
        obtain ⟨p, hp⟩ : ∃ p, p = a[k]! := ⟨_, rfl⟩
        obtain ⟨q, hq⟩ : ∃ q, q = b[k]! := ⟨_, rfl⟩
        rw [← hp] at c1
        rw [← hq] at c2
        have HP := Lib.hid hp
        have HQ := Lib.hid hq
        clear hp hq hc1 hc2 h1 h2
        have hkz : (k : Int) < (a.length : Int) := by omega
        by_cases he : p = q
        · have I2 : Hid ((∀ j, j < k + 1 → a[j]! = b[j]!) ∧ Below w.heap.size w wr) := ⟨fun j hj => (by
            rcases (show j < k ∨ j = k by omega) with h | rfl
            · exact I.out.1 j h
            · rw [← HP.out, ← HQ.out]; exact he), I.out.2⟩
          subst he
          have hne : (p != p) = false := by simp
          clear I
          go_wp2
          go_quiet (fail)
          go_wp2
          go_roundg (a.length - k)
          case measure => omega
          case rel => exact ⟨k + 1, by omega, by go_num, by omega, ⟨I2.out.1, below_drewN I2.out.2 _⟩⟩
        · have hne : (p != q) = true := by simpa using he
          have HE := Lib.hid he
          clear he
          go_wp2
          go_quiet (fail)
          go_wp2
          go_ret
          refine ⟨?_, below_drewN I.out.2 _⟩
          rw [decide_eq_false (fun e => HE.out (by rw [HP.out, HQ.out, e]))]
          rfl
      · obtain rfl : k = a.length := by omega
        go_wp2
        go_ret
        refine ⟨?_, I.out.2⟩
        rw [decide_eq_true (same_of HL.out I.out.1)]
        rfl
  · have hne : ((a.length : Int) != (b.length : Int)) = true := by simpa using (by omega : ¬ (a.length : Int) = (b.length : Int))
    have HL := Lib.hid hl
    clear hl
    go_enter Try.func20, Try.ntmps20
    go_wp2
    go_ret
    refine ⟨?_, Below.refl _ _⟩
    rw [decide_eq_false (fun e => HL.out (by rw [e]))]
    rfl
end Go.Proofs.Ytkgikkdgfhonlaa
