/-
  Proved here: 'String' of package utf writes all characters of a slice, or nothing if one is none. Conditions: the slice can be read, and holds at most 20,000 numbers.
-/
import Derived.Test.YtpmcmbkilcpleaaUtfPut
import Derived.Test.YtpmcmbkilcpleaaUtfMem
import Derived.Laws.BytesArg
import Derived.Deep.LoopGhost
namespace Go.Proofs.Ytpmcmbkilcpleaa
open Go.RowKit Utf
namespace Utf
def encZ (l : List Int) : List UInt8 := l.flatMap fun r => enc r.toNat
def rightsZ (l : List Int) : Bool := l.all rightZ
theorem encZ_snoc (l : List Int) (r : Int) : encZ (l ++ [r]) = encZ l ++ enc r.toNat := by simp [encZ]
theorem rightsZ_snoc (l : List Int) (r : Int) : rightsZ (l ++ [r]) = (rightsZ l && rightZ r) := by simp [rightsZ]
theorem encZ_len (l : List Int) : (encZ l).length ≤ 4 * l.length := by
  induction l with
  | nil => simp [encZ]
  | cons r l ih =>
    have := enc_le r.toNat
    simp only [encZ, List.flatMap_cons, List.length_append, List.length_cons] at ih ⊢
    omega
theorem take_next (l : List Int) (k : Nat) (h : k < l.length) : l.take (k + 1) = l.take k ++ [l[k]!] := by
  rw [List.take_succ_eq_append_getElem h, getElem!_pos l k h]
theorem rightsZ_take {l : List Int} {k : Nat} (h : k < l.length) (hr : rightZ l[k]! = false) : rightsZ l = false := by
  unfold rightsZ
  rw [List.all_eq_false]
  exact ⟨l[k]!, by rw [getElem!_pos l k h]; exact List.getElem_mem h, by rw [hr]; simp⟩
end Utf
def StrPost (l : List Int) (w : World) (e : Ending) (w' : World) : Prop :=
  e = .returned (if rightsZ l then .tuple #[.string ⟨(encZ l).toArray⟩, .bool true] else .tuple #[.string ⟨#[]⟩, .bool false]) ∧ Below w.heap.size w w'
set_option maxHeartbeats 2000000 in
set_option maxRecDepth 100000 in
theorem string_any (v : Value) (l : List Int) (w : World) (hl : Runes v l w) (hn : l.length ≤ 20000) : Calls Try.prog 26 #[v] w (StrPost l w) := by
  obtain ⟨A, c, rfl, hc, hcell⟩ := hl.form
  have HC := Lib.hid hcell
  clear hl hcell
  go_enter Try.func26, Try.ntmps26
  go_wp2
  refine wp_ahead 0 rfl ?_
  go_wp2
  go_loopg [4, 9] (l.length + 1) (fun gk v i wr => ∃ k : Nat, k ≤ l.length ∧ i = .int .i64 k ∧ l.length - k < gk ∧ Hid (rightsZ (l.take k) = true ∧ OwnB w.heap.size v (encZ (l.take k)) wr ∧ Below w.heap.size w wr))
  case atStart => exact ⟨0, Nat.zero_le _, rfl, by omega, ⟨rfl, OwnB.nil _ _, Below.refl _ _⟩⟩
  case round =>
    obtain ⟨k, hk, rfl, hg, I⟩ := hrel
    by_cases hlt : k < l.length
    · obtain ⟨ad, rfl, hb, hx⟩ := HC.out k hlt
      have hx' := (I.out.2.2.cell (by rw [add_block]; exact hb)).trans hx
      obtain ⟨x, hxe⟩ : ∃ x, x = l[k]! := ⟨_, rfl⟩
      rw [← hxe] at hx'
      have HX := Lib.hid hxe
      have hR := right_any x wr
      clear hx hb hxe
      cases hr : rightZ x with
      | false =>
        rw [hr] at hR
        have HR := Lib.hid hr
        clear hr
        go_wp2_with (go_at_call 47; ((with_reducible refine hR.mono ?_); rintro e w' ⟨rfl, rfl⟩))
        go_step3
        refine ⟨rfl, ?_⟩
        go_wp2
        rw [Exit.noGoto_ret]
        go_ret2
        exact ⟨by rw [rightsZ_take hlt (by rw [← HX.out]; exact HR.out)]; rfl, I.out.2.2⟩
      | true =>
        rw [hr] at hR
        have HR := Lib.hid hr
        clear hr
        go_wp2_with (go_at_call 47; ((with_reducible refine hR.mono ?_); rintro e w' ⟨rfl, rfl⟩))
        refine (put_any w.heap.size u4 _ x wr HR.out I.out.2.1 I.out.2.2.size (by have := encZ_len (l.take k); rw [List.length_take] at this; omega)).mono ?_
        rintro e w2 ⟨v2, rfl, ho2, hb2⟩
        have I2 : Hid (rightsZ (l.take (k + 1)) = true ∧ OwnB w.heap.size v2 (encZ (l.take (k + 1))) w2 ∧ Below w.heap.size w w2) := by
          refine ⟨?_, ?_, I.out.2.2.trans hb2⟩
          · rw [take_next l k hlt, rightsZ_snoc, ← HX.out, I.out.1, HR.out]; rfl
          · rw [take_next l k hlt, encZ_snoc, ← HX.out]; exact ho2
        clear hR ho2 hb2 hx' I HX
        go_wp2
        go_roundg (l.length - k)
        case measure => omega
        case rel => exact ⟨k + 1, by omega, by go_num, by omega, I2⟩
    · obtain rfl : k = l.length := by omega
      have hconv := string_of I.out.2.1.bytes
      go_wp2
      go_ret2
      refine ⟨?_, I.out.2.2⟩
      have hr := I.out.1
      rw [List.take_length] at hr
      rw [hr]
      rfl
end Go.Proofs.Ytpmcmbkilcpleaa
