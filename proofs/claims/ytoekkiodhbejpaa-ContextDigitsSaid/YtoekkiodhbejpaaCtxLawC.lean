/-
  Proved here: the law ContextDigits, given what the program's Need, All and Needs tell. Conditions: the slice can be read, and holds bytes with a sign.
-/
import Derived.Test.YtoekkiodhbejpaaCtxSmall
import Derived.BigRegion
namespace Go.Proofs.Ytoekkiodhbejpaa
open Go.RowKit
/-- A slice of bytes with a sign that can be read. -/
def Tinies (v : Value) (l : List Int) (w : World) : Prop := Row v (l.map fun x => .int .i8 x) w
theorem Tinies.form {v : Value} {l : List Int} {w : World} (h : Tinies v l w) : ∃ (A : Option Addr) (c : Nat), v = .slice A l.length c ∧ l.length ≤ c ∧
    (∀ k, k < l.length → ∃ ad, A = some ad ∧ ad.block < w.heap.size ∧ w.cell? (ad.add k) = some (.int .i8 l[k]!)) := by
  obtain ⟨A, c, rfl, hc, -, ha⟩ := h
  simp only [List.length_map] at ha hc ⊢
  refine ⟨A, c, rfl, hc, fun k hk => ?_⟩
  obtain ⟨ad, rfl, hlt, hcell⟩ := ha (by omega)
  refine ⟨ad, rfl, hlt, hcell k _ ?_⟩
  rw [List.getElem?_map, List.getElem?_eq_getElem hk, getElem!_pos l k hk]
  rfl
namespace Ctx
/-- The digit of one of the two kinds of Arabic. -/
def digitOf (x : Int) : Int := if x < 0 then 1632 + x % 8 else 1776 + x % 8
def low (l : List Int) : Bool := l.any fun x => decide (x < 0)
def high (l : List Int) : Bool := l.any fun x => decide (0 ≤ x)
theorem digitOf_in (x : Int) : (1632 ≤ digitOf x ∧ digitOf x ≤ 1641) ∨ (1776 ≤ digitOf x ∧ digitOf x ≤ 1785) := by unfold digitOf; split <;> omega
theorem take_snoc7 (l : List Int) (k : Nat) (h : k < l.length) : l.take (k + 1) = l.take k ++ [l[k]!] := by
  rw [getElem!_pos l k h]
  exact List.take_succ_eq_append_getElem h
theorem low_next (l : List Int) (k : Nat) (h : k < l.length) : low (l.take (k + 1)) = (low (l.take k) || decide (l[k]! < 0)) := by
  unfold low
  rw [take_snoc7 l k h, List.any_append]
  simp
theorem high_next (l : List Int) (k : Nat) (h : k < l.length) : high (l.take (k + 1)) = (high (l.take k) || decide (0 ≤ l[k]!)) := by
  unfold high
  rw [take_snoc7 l k h, List.any_append]
  simp
theorem made_next (l : List Int) (k : Nat) (h : k < l.length) : (l.take (k + 1)).map digitOf = (l.take k).map digitOf ++ [digitOf l[k]!] := by rw [take_snoc7 l k h, List.map_append]; rfl
theorem made_all (l : List Int) : all (l.map digitOf) = !(low l && high l) := by
  rw [digits fun x hx => by obtain ⟨y, -, rfl⟩ := List.mem_map.1 hx; exact digitOf_in y]
  have h1 : among (l.map digitOf) 1632 1641 = low l := by
    unfold among low
    rw [List.any_map]
    congr 1
    funext x
    show (decide (1632 ≤ digitOf x) && decide (digitOf x ≤ 1641)) = decide (x < 0)
    unfold digitOf
    by_cases hx : x < 0
    · rw [if_pos hx, decide_eq_true (by omega), decide_eq_true (by omega), decide_eq_true hx]; rfl
    · rw [if_neg hx, decide_eq_true (by omega), decide_eq_false (by omega), decide_eq_false hx]; rfl
  have h2 : among (l.map digitOf) 1776 1785 = high l := by
    unfold among high
    rw [List.any_map]
    congr 1
    funext x
    show (decide (1776 ≤ digitOf x) && decide (digitOf x ≤ 1785)) = decide (0 ≤ x)
    unfold digitOf
    by_cases hx : x < 0
    · rw [if_pos hx, decide_eq_false (p := 1776 ≤ 1632 + x % 8) (by omega), decide_eq_false (p := 0 ≤ x) (by omega)]; rfl
    · rw [if_neg hx, decide_eq_true (by omega), decide_eq_true (by omega), decide_eq_true (by omega)]; rfl
  rw [h1, h2]
theorem bits_rows : ∀ i ∈ List.range 256, bits .and .i32 ((i : Nat) - 128 : Int) 7 = ((i : Nat) - 128 : Int) % 8 := by decide +kernel
theorem bits_at {x : Int} (h0 : -128 ≤ x) (h1 : x ≤ 127) : bits .and .i32 x 7 = x % 8 := by
  have := bits_rows (x + 128).toNat (by rw [List.mem_range]; omega)
  rwa [show (((x + 128).toNat : Nat) : Int) - 128 = x by omega] at this
end Ctx
set_option maxHeartbeats 8000000 in
set_option maxRecDepth 100000 in
theorem digits7_walk (B : CtxOk) (S7 : Small7) (v : Value) (l : List Int) (w : World) (hl : Tinies v l w) (hbd : ∀ x ∈ l, -128 ≤ x ∧ x ≤ 127) : Calls Try.prog 5 #[v] w fun e w' => e = .returned (.bool true) ∧ Below w.heap.size w w' := by
  obtain ⟨A, c, rfl, -, hcell⟩ := hl.form
  have HC := Lib.hid hcell
  have HBD := Lib.hid hbd
  clear hl hcell hbd
  by_cases hn : l.length ≤ 100
  · have hnz : ¬ (100 : Int) < (l.length : Int) := by omega
    go_enter Try.func5, Try.ntmps5
    go_wp2_with fail
    refine (S7 _).mono ?_
    rintro e w0 ⟨rfl, hb0⟩
    have B0 := Lib.hid hb0
    clear hb0
    go_wp2
    go_loopg [4, 5, 6, 7, 8] (l.length + 1) (fun gk s4 s5 s6 s7 _ wr => ∃ (k : Nat) (one two : Bool), s5 = .bool one ∧ s6 = .bool two ∧ k ≤ l.length ∧ s7 = .int .i64 k ∧ l.length - k < gk ∧ Hid (OwnR w.heap.size s4 ((l.take k).map Ctx.digitOf) wr ∧ Ctx.low (l.take k) = one ∧ Ctx.high (l.take k) = two ∧ Below w.heap.size w wr))
    case atStart => exact ⟨0, false, false, rfl, rfl, Nat.zero_le _, rfl, by omega, ⟨OwnR.nil _ _, rfl, rfl, B0.out⟩⟩
    case round =>
      obtain ⟨k, one, two, rfl, rfl, hk, rfl, hg, I⟩ := hrel
      by_cases hlt : k < l.length
      · have hkz : (k : Int) < (l.length : Int) := by omega
        obtain ⟨ad, rfl, hb, hx⟩ := HC.out k hlt
        have hx' := (I.out.2.2.2.cell (by rw [add_block]; exact hb)).trans hx
        have hle : ((l.take k).map Ctx.digitOf).length ≤ 1000000 := by rw [List.length_map, List.length_take]; omega
        have h1 := Ctx.low_next l k hlt
        have h2 := Ctx.high_next l k hlt
        have h3 := Ctx.made_next l k hlt
        have hbx : -128 ≤ l[k]! ∧ l[k]! ≤ 127 := HBD.out _ (by rw [getElem!_pos l k hlt]; exact List.getElem_mem hlt)
        rw [I.out.2.1] at h1
        rw [I.out.2.2.1] at h2
        obtain ⟨x, hxe⟩ : ∃ x, l[k]! = x := ⟨_, rfl⟩
        rw [hxe] at hx' h1 h2 h3 hbx
        obtain ⟨hb1, hb2⟩ := hbx
        clear hx hb hxe
        have hbits := Ctx.bits_at hb1 hb2
        obtain ⟨d, hd⟩ : ∃ d, x % 8 = d := ⟨_, rfl⟩
        rw [hd] at hbits
        have d0 : 0 ≤ d := by omega
        have d1 : d ≤ 7 := by omega
        by_cases hneg : x < 0
        · rw [decide_eq_true hneg, Bool.or_true] at h1
          rw [decide_eq_false (by omega), Bool.or_false] at h2
          rw [show Ctx.digitOf x = 1632 + d by unfold Ctx.digitOf; rw [if_pos hneg, hd]] at h3
          clear hd
          have H1 := Lib.hid h1
          have H2 := Lib.hid h2
          have H3 := Lib.hid h3
          clear h1 h2 h3
          go_wp2_with (at_builtin; refine append_cells wr 22 21 (.int .i32 0) 4 Try.underlying22 info_i32 rfl (by omega) w.heap.size _ _ _ I.out.1 I.out.2.2.2.size hle 1 (by omega) _ rfl rfl rfl _ _ rfl rfl rfl ?_; intro v6 w6 ho6 hb6; have HO := Lib.hid ho6; have HB6 := Lib.hid (I.out.2.2.2.trans hb6); clear ho6 hb6)
          go_roundg (l.length - k)
          case measure => omega
          case rel => exact ⟨k + 1, _, _, rfl, rfl, by omega, by go_num, by omega, ⟨by rw [H3.out]; exact OwnR.more HO.out rfl rfl, H1.out, H2.out, HB6.out⟩⟩
        · rw [decide_eq_false hneg, Bool.or_false] at h1
          rw [decide_eq_true (by omega), Bool.or_true] at h2
          rw [show Ctx.digitOf x = 1776 + d by unfold Ctx.digitOf; rw [if_neg hneg, hd]] at h3
          clear hd
          have H1 := Lib.hid h1
          have H2 := Lib.hid h2
          have H3 := Lib.hid h3
          clear h1 h2 h3
          go_wp2_with (at_builtin; refine append_cells wr 22 21 (.int .i32 0) 4 Try.underlying22 info_i32 rfl (by omega) w.heap.size _ _ _ I.out.1 I.out.2.2.2.size hle 1 (by omega) _ rfl rfl rfl _ _ rfl rfl rfl ?_; intro v6 w6 ho6 hb6; have HO := Lib.hid ho6; have HB6 := Lib.hid (I.out.2.2.2.trans hb6); clear ho6 hb6)
          go_roundg (l.length - k)
          case measure => omega
          case rel => exact ⟨k + 1, _, _, rfl, rfl, by omega, by go_num, by omega, ⟨by rw [H3.out]; exact OwnR.more HO.out rfl rfl, H1.out, H2.out, HB6.out⟩⟩
      · obtain rfl : k = l.length := by omega
        have h := I.out
        rw [List.take_length] at h
        obtain ⟨ho, h1, h2, hb⟩ := h
        have hall := Ctx.made_all l
        rw [h1, h2] at hall
        have HALL := Lib.hid hall
        have RO := Lib.hid ho.runes
        have BI := Lib.hid hb
        have hlen : (l.map Ctx.digitOf).length ≤ 1000 := by rw [List.length_map]; omega
        clear ho h1 h2 hb hall I
        go_wp2_with fail
        refine (new_any _).mono ?_
        rintro e w5 ⟨tt, rfl, hT, hb5⟩
        have HT := Lib.hid hT
        have B5 := Lib.hid (below_then BI.out hb5)
        have R5 := Lib.hid (RO.out.keep hb5)
        clear hT hb5 RO BI
        go_wp2_with fail
        refine (B.all_at _ _ _ _ HT.out R5.out hlen HALL.out).mono ?_
        rintro e w6 ⟨rfl, hb6⟩
        have B6 := Lib.hid (below_then B5.out hb6)
        clear hb6
        cases one <;> cases two
        all_goals
          go_wp2
          go_ret
          exact ⟨rfl, B6.out⟩
  · have hnz : (100 : Int) < (l.length : Int) := by omega
    go_enter Try.func5, Try.ntmps5
    go_wp2_with fail
    refine (S7 _).mono ?_
    rintro e w0 ⟨rfl, hb0⟩
    have B0 := Lib.hid hb0
    clear hb0
    go_wp2
    go_ret
    exact ⟨rfl, B0.out⟩
end Go.Proofs.Ytoekkiodhbejpaa
