/-
  Proved here: slices.ContainsFunc at a row of characters and any function value that tells of a character and leaves what lay in memory as it was; context's three rules of a whole row; how the first one behind a place that is not Clear joins. Conditions: the row can be read, and holds at most 1000 numbers.
-/
import Derived.Test.YtoekkiodhbejpaaCtxRow
import Derived.Test.YtoekkiodhbejpaaPair
namespace Go.Proofs.Ytoekkiodhbejpaa
open Go.RowKit
def RIndexPost (p : Int → Bool) (l : List Int) (w : World) (e : Ending) (w' : World) : Prop :=
  ∃ k : Nat, k ≤ l.length ∧ (∀ j, j < k → p l[j]! = false) ∧ ((k < l.length ∧ p l[k]! = true ∧ e = .returned (.int .i64 k)) ∨ (k = l.length ∧ e = .returned (.int .i64 (-1)))) ∧ Below w.heap.size w w'
set_option maxHeartbeats 2000000 in
set_option maxRecDepth 100000 in
theorem rindex_any (g : Nat) (cb : Array Value) (v : Value) (l : List Int) (p : Int → Bool) (w : World) (hl : Runes v l w) (hn : l.length ≤ 1000)
    (eg : ∀ args w, (callFunc g args).run Try.prog w = .ok (.enter g args) w)
    (hf : ∀ (W : World) (x : Int), Below w.heap.size w W → Calls Try.prog g (#[.int .i32 x] ++ cb) W fun e w' => e = .returned (.bool (p x)) ∧ Below W.heap.size W w') :
    Calls Try.prog 57 #[v, .func (.func g) #[] cb] w (RIndexPost p l w) := by
  have HF := Lib.hid hf
  obtain ⟨A, c, rfl, hc, hx⟩ := hl.form
  have HX := Lib.hid hx
  clear hf hl hx hc
  obtain ⟨n, hnn⟩ : ∃ n, n = l.length := ⟨_, rfl⟩
  rw [← hnn]
  have HN := Lib.hid hnn
  rw [← hnn] at hn
  clear hnn
  go_enter Try.func57, Try.ntmps57
  go_wp2
  go_loopg [5, 8] n (fun gg _ s8 wr => ∃ k : Nat, k ≤ n ∧ n - k ≤ gg ∧ s8 = .int .i64 k ∧ Hid (Below w.heap.size w wr) ∧ Hid (∀ j, j < k → p l[j]! = false))
  case atStart => exact ⟨0, Nat.zero_le _, by omega, rfl, Below.refl _ w, fun j hj => absurd hj (Nat.not_lt_zero _)⟩
  case round =>
    obtain ⟨k, hk, hg, rfl, BW, A⟩ := hrel
    by_cases hlt : k < n
    · have hkz : (k : Int) < (n : Int) := by omega
      obtain ⟨ad, rfl, hb, hcell⟩ := HX.out k (by have := HN.out; omega)
      have hcell' := (BW.out.cell (by rw [add_block]; exact hb)).trans hcell
      have hcall := HF.out wr l[k]! BW.out
      generalize hy : l[k]! = y at hcell' hcall
      have HY := Lib.hid hy
      clear hy hcell hb
      cases hp : p y with
      | true =>
        rw [hp] at hcall
        have HP := Lib.hid hp
        have HC := Lib.hid hcall
        clear hp hcall
        go_wp2_with fail
        refine HC.out.mono ?_
        rintro e w2 ⟨rfl, hb'⟩
        have HB2 := Lib.hid (BW.out.trans (hb'.mono BW.out.size))
        clear hb' hcell'
        go_wp2
        go_ret
        exact ⟨k, by have := HN.out; omega, A.out, .inl ⟨by have := HN.out; omega, by rw [HY.out]; exact HP.out, rfl⟩, HB2.out⟩
      | false =>
        rw [hp] at hcall
        have HP := Lib.hid hp
        have HC := Lib.hid hcall
        clear hp hcall
        go_wp2_with fail
        refine HC.out.mono ?_
        rintro e w2 ⟨rfl, hb'⟩
        have HB2 := Lib.hid (BW.out.trans (hb'.mono BW.out.size))
        clear hb' hcell'
        go_wp2
        go_roundg (n - (k + 1))
        case measure => omega
        case rel =>
          refine ⟨k + 1, by omega, by omega, by go_num, HB2, (show Hid _ from fun j hj => ?_)⟩
          by_cases e : j = k
          · subst e
            rw [HY.out]; exact HP.out
          · exact A.out j (by omega)
    · have hkz : ¬ (k : Int) < (n : Int) := by omega
      go_wp2
      go_ret
      exact ⟨k, by have := HN.out; omega, A.out, .inr ⟨by have := HN.out; omega, rfl⟩, BW.out⟩
theorem any_hit {p : Int → Bool} {l : List Int} {k : Nat} (hk : k < l.length) (h : p l[k]! = true) : l.any p = true :=
  List.any_eq_true.2 ⟨l[k]!, by rw [getElem!_pos l k hk]; exact List.getElem_mem hk, h⟩
theorem any_miss {p : Int → Bool} {l : List Int} (h : ∀ j, j < l.length → p l[j]! = false) : l.any p = false := by
  rw [List.any_eq_false]
  intro x hx
  obtain ⟨j, hj, rfl⟩ := List.getElem_of_mem hx
  have := h j hj
  rw [getElem!_pos l j hj] at this
  rw [this]; exact Bool.noConfusion
set_option maxHeartbeats 2000000 in
set_option maxRecDepth 100000 in
theorem rcontains_any (g : Nat) (cb : Array Value) (v : Value) (l : List Int) (p : Int → Bool) (w : World) (hl : Runes v l w) (hn : l.length ≤ 1000)
    (eg : ∀ args w, (callFunc g args).run Try.prog w = .ok (.enter g args) w)
    (hf : ∀ (W : World) (x : Int), Below w.heap.size w W → Calls Try.prog g (#[.int .i32 x] ++ cb) W fun e w' => e = .returned (.bool (p x)) ∧ Below W.heap.size W w') :
    Calls Try.prog 50 #[v, .func (.func g) #[] cb] w fun e w' => e = .returned (.bool (l.any p)) ∧ Below w.heap.size w w' := by
  have K := Lib.hid (rindex_any g cb v l p w hl hn eg hf)
  clear hl hn eg hf
  obtain ⟨r, hr⟩ : ∃ r, r = l.any p := ⟨_, rfl⟩
  rw [← hr]
  have HR := Lib.hid hr
  clear hr
  go_enter Try.func50, Try.ntmps50
  go_wp2_with fail
  refine K.out.mono ?_
  rintro e w2 ⟨k, hk, hm, ⟨h1, h2, rfl⟩ | ⟨h1, rfl⟩, hb⟩
  · have R := Lib.hid (HR.out.trans (any_hit h1 h2))
    have HB := Lib.hid hb
    clear hm h1 h2 hb hk
    go_wp2
    go_ret
    exact ⟨by rw [R.out]; rfl, HB.out⟩
  · have R := Lib.hid (HR.out.trans (any_miss (fun j hj => hm j (by omega))))
    have HB := Lib.hid hb
    clear hm h1 hb hk
    go_wp2
    go_ret
    exact ⟨by rw [R.out]; rfl, HB.out⟩
set_option maxHeartbeats 2000000 in
set_option maxRecDepth 100000 in
theorem hasNoEastern_any (g : Nat) (t v : Value) (l : List Int) (w : World) (hR : RowIs g t v l w) (hn : l.length ≤ 1000) :
    Calls Try.prog 33 #[.pointer (some ⟨g, 0, none⟩)] w fun e w' => e = .returned (.bool (!Ctx.among l 1776 1785)) ∧ Below w.heap.size w w' := by
  have eg : ∀ args w, (callFunc 36 args).run Try.prog w = .ok (.enter 36 args) w := enters_of Try.func36 (by kernel_rfl) rfl
  have K := rcontains_any 36 #[] v l (fun x => decide (1776 ≤ x) && decide (x ≤ 1785)) w hR.2.1 hn eg (fun W x _ => (isEastern_any x W).mono fun e w' ⟨h1, h2⟩ => ⟨h1, h2 ▸ Below.refl _ _⟩)
  change Calls _ _ _ _ fun e w' => e = .returned (.bool (Ctx.among l 1776 1785)) ∧ _ at K
  generalize Ctx.among l 1776 1785 = r at K ⊢
  obtain ⟨b0, b1, b2, b3, A, c, rfl, rfl, hc, hg, ⟨c0, c1, c2, c3, c4⟩, -⟩ := hR.form
  have K := Lib.hid K
  clear hR hn hc eg
  cases r
  all_goals
    go_enter Try.func33, Try.ntmps33
    go_wp2_with fail
    refine K.out.mono ?_
    rintro e w2 ⟨rfl, hb⟩
    have HB := Lib.hid hb
    clear hb
    go_wp2
    go_ret
    exact ⟨rfl, HB.out⟩
set_option maxHeartbeats 2000000 in
set_option maxRecDepth 100000 in
theorem hasNoArabic_any (g : Nat) (t v : Value) (l : List Int) (w : World) (hR : RowIs g t v l w) (hn : l.length ≤ 1000) :
    Calls Try.prog 34 #[.pointer (some ⟨g, 0, none⟩)] w fun e w' => e = .returned (.bool (!Ctx.among l 1632 1641)) ∧ Below w.heap.size w w' := by
  have eg : ∀ args w, (callFunc 35 args).run Try.prog w = .ok (.enter 35 args) w := enters_of Try.func35 (by kernel_rfl) rfl
  have K := rcontains_any 35 #[] v l (fun x => decide (1632 ≤ x) && decide (x ≤ 1641)) w hR.2.1 hn eg (fun W x _ => (isArabic_any x W).mono fun e w' ⟨h1, h2⟩ => ⟨h1, h2 ▸ Below.refl _ _⟩)
  change Calls _ _ _ _ fun e w' => e = .returned (.bool (Ctx.among l 1632 1641)) ∧ _ at K
  generalize Ctx.among l 1632 1641 = r at K ⊢
  obtain ⟨b0, b1, b2, b3, A, c, rfl, rfl, hc, hg, ⟨c0, c1, c2, c3, c4⟩, -⟩ := hR.form
  have K := Lib.hid K
  clear hR hn hc eg
  cases r
  all_goals
    go_enter Try.func34, Try.ntmps34
    go_wp2_with fail
    refine K.out.mono ?_
    rintro e w2 ⟨rfl, hb⟩
    have HB := Lib.hid hb
    clear hb
    go_wp2
    go_ret
    exact ⟨rfl, HB.out⟩
set_option maxHeartbeats 2000000 in
set_option maxRecDepth 100000 in
theorem kanaClosure (g B : Nat) (t v : Value) (l : List Int) (x : Int) (w : World) (hR : RowIs g t v l w) (hB : w.cell? ⟨B, 0, none⟩ = some (.pointer (some ⟨g, 0, none⟩))) :
    Calls Try.prog 51 #[.int .i32 x, .pointer (some ⟨B, 0, none⟩)] w fun e w' => e = .returned (.bool (scriptOf x == 7 || scriptOf x == 8)) ∧ Below w.heap.size w w' := by
  have K := script_any t x w hR.1
  generalize scriptOf x = y at K ⊢
  obtain ⟨b0, b1, b2, b3, A, c, rfl, rfl, hc, hg, ⟨c0, c1, c2, c3, c4⟩, -⟩ := hR.form
  have K := Lib.hid K
  clear hR hc
  cases h1 : (y == 7) <;> cases h2 : (y == 8)
  all_goals
    go_enter Try.func51, Try.ntmps51
    go_wp2_with fail
    refine K.out.mono ?_
    rintro e w2 ⟨rfl, hb⟩
    have HB := Lib.hid hb
    clear hb c0 c1 c2 c3 c4 hB
    go_wp2
    go_ret
    exact ⟨rfl, HB.out⟩
set_option maxHeartbeats 2000000 in
set_option maxRecDepth 100000 in
theorem hasKanaOrHan_any (g : Nat) (t v : Value) (l : List Int) (w : World) (hR : RowIs g t v l w) (hn : l.length ≤ 1000) :
    Calls Try.prog 32 #[.pointer (some ⟨g, 0, none⟩)] w fun e w' => e = .returned (.bool (Ctx.asian l)) ∧ Below w.heap.size w w' := by
  have eg : ∀ args w, (callFunc 51 args).run Try.prog w = .ok (.enter 51 args) w := enters_of Try.func51 (by kernel_rfl) rfl
  have hW : Below w.heap.size w (w.alloc (.cells #[.pointer (some ⟨g, 0, none⟩)] 50)) := below_one _ _
  have K := rcontains_any 51 #[.pointer (some ⟨w.heap.size, 0, none⟩)] v l (fun x => scriptOf x == 7 || scriptOf x == 8) _ (hR.keep hW).2.1 hn eg
    (fun W x hb => kanaClosure g w.heap.size t v l x W ((hR.keep hW).keep hb) ((hb.cell (p := ⟨w.heap.size, 0, none⟩) (by simp)).trans (cell_new1 w _ _)))
  change Calls _ _ _ _ fun e w' => e = .returned (.bool (Ctx.asian l)) ∧ _ at K
  generalize Ctx.asian l = r at K ⊢
  obtain ⟨b0, b1, b2, b3, A, c, rfl, rfl, hc, hg, ⟨c0, c1, c2, c3, c4⟩, -⟩ := hR.form
  have K := Lib.hid K
  have HW := Lib.hid hW
  clear hR hn hc eg hW
  go_enter Try.func32, Try.ntmps32
  go_wp2_with fail
  refine K.out.mono ?_
  rintro e w2 ⟨rfl, hb⟩
  have HB := Lib.hid (below_then HW.out hb)
  clear hb
  go_wp2
  go_ret
  exact ⟨rfl, HB.out⟩
/-- How the first one that is not Clear joins. -/
def joinsOf : Option Int → Int
  | some x => joinOf x
  | none => 0
theorem joined_is (l : List Int) (k : Nat) : (joinsOf (Ctx.ahead l k) == 1 && (joinsOf (Ctx.behind l (k + 1)) == 1 || joinsOf (Ctx.behind l (k + 1)) == 2)) = Ctx.joined l k := by
  unfold Ctx.joined Ctx.both joinsOf
  cases Ctx.ahead l k <;> cases Ctx.behind l (k + 1) <;> simp
theorem behind_step {l : List Int} {k : Nat} (hk : k < l.length) : Ctx.behind l k = if joinOf l[k]! = 3 then Ctx.behind l (k + 1) else some l[k]! := by
  unfold Ctx.behind
  rw [List.drop_eq_getElem_cons hk, ← getElem!_pos l k hk]
  by_cases h : joinOf l[k]! = 3
  · rw [if_pos h, List.find?_cons_of_neg (by unfold Ctx.hard; rw [h]; decide)]
  · rw [if_neg h, List.find?_cons_of_pos (by unfold Ctx.hard; exact bne_iff_ne.2 h)]
theorem behind_end {l : List Int} {k : Nat} (hk : l.length ≤ k) : Ctx.behind l k = none := by
  unfold Ctx.behind
  rw [List.drop_of_length_le hk]; rfl
set_option maxHeartbeats 4000000 in
set_option maxRecDepth 100000 in
theorem joinBehind_any (g : Nat) (t v : Value) (l : List Int) (k : Nat) (w : World) (hR : RowIs g t v l w) (hn : l.length ≤ 1000) (hk : k < l.length) :
    Calls Try.prog 45 #[.pointer (some ⟨g, 0, none⟩), .int .i64 k] w fun e w' => e = .returned (.int .i64 (joinsOf (Ctx.behind l (k + 1)))) ∧ Below w.heap.size w w' := by
  have KJ := Lib.hid (fun W (h : Below w.heap.size w W) x => join_any t x W (hR.1.below h))
  obtain ⟨b0, b1, b2, b3, A, c, rfl, rfl, hc, hg, ⟨c0, c1, c2, c3, c4⟩, hx⟩ := hR.form
  obtain ⟨ad, rfl, hb, -⟩ := hx k hk
  have HX : Hid (∀ j, j < l.length → w.cell? (ad.add j) = some (.int .i32 l[j]!)) := Lib.hid (fun j hj => by obtain ⟨ad', e, -, h⟩ := hx j hj; obtain rfl : ad = ad' := (by injection e); exact h)
  clear hR hx
  obtain ⟨n, hnn⟩ : ∃ n, n = l.length := ⟨_, rfl⟩
  rw [← hnn] at hn hk hc c4
  have HN := Lib.hid hnn
  clear hnn
  have C0 := Lib.hid (show ∀ W, Below w.heap.size w W → W.cell? ⟨g, 0, none⟩ = some (.slice (some ⟨b0, 0, none⟩) 74 74) ∧ W.cell? ⟨g, 1, none⟩ = some (.slice (some ⟨b1, 0, none⟩) 10 10) ∧ W.cell? ⟨g, 2, none⟩ = some (.slice (some ⟨b2, 0, none⟩) 11 11) ∧ W.cell? ⟨g, 3, none⟩ = some (.slice (some ⟨b3, 0, none⟩) 42 42) from fun W h => ⟨(h.cell (p := ⟨g, 0, none⟩) hg).trans c0, (h.cell (p := ⟨g, 1, none⟩) hg).trans c1, (h.cell (p := ⟨g, 2, none⟩) hg).trans c2, (h.cell (p := ⟨g, 3, none⟩) hg).trans c3⟩)
  clear c0 c1 c2 c3
  have hkz : (k : Int) + 1 ≤ (n : Int) := by omega
  have hcz : (n : Int) ≤ (c : Int) := by omega
  by_cases hcc : c = k + 1
  · have hB : Ctx.behind l (k + 1) = none := behind_end (by have := HN.out; omega)
    rw [hB]
    obtain rfl : n = k + 1 := by omega
    subst hcc
    clear hB
    go_enter Try.func45, Try.ntmps45
    go_wp2
    go_loopg [6, 7, 16] 1 (fun gk _ _ i wr => i = .int .i64 0 ∧ 0 < gk ∧ w = wr)
    case atStart => exact ⟨rfl, by omega, rfl⟩
    case round =>
      obtain ⟨rfl, hg0, rfl⟩ := hrel
      go_wp2
      go_ret
      exact ⟨rfl, Below.refl _ _⟩
  · have hcz2 : ((c : Int) == (k : Int) + 1) = false := by rw [beq_eq_false_iff_ne]; omega
    have hcc2 : ¬ c = k + 1 := hcc
    clear hcc
    go_enter Try.func45, Try.ntmps45
    go_wp2
    go_loopg [6, 7, 16] (n + 1) (fun gk _ _ i wr => ∃ j : Nat, j ≤ n - (k + 1) ∧ i = .int .i64 j ∧ n - j < gk ∧ Hid (Ctx.behind l (k + 1) = Ctx.behind l (k + 1 + j) ∧ Below w.heap.size w wr))
    case atStart => exact ⟨0, Nat.zero_le _, rfl, by omega, ⟨rfl, Below.refl _ w⟩⟩
    case round =>
      obtain ⟨j, hj, rfl, hg0, I⟩ := hrel
      by_cases hlt : j < n - (k + 1)
      · obtain ⟨x, hxe⟩ : ∃ x, x = l[k + 1 + j]! := ⟨_, rfl⟩
        have hcell : w.cell? ⟨ad.block, ad.off + (k + 1) + j, none⟩ = some (.int .i32 x) := by
          have h := HX.out (k + 1 + j) (by have := HN.out; omega)
          rw [← hxe] at h
          rw [← h]
          unfold Addr.add
          rw [if_neg (by omega), Nat.add_assoc]
        have hcell' := (I.out.2.cell (p := ⟨ad.block, ad.off + (k + 1) + j, none⟩) hb).trans hcell
        obtain ⟨d0, d1, d2, d3⟩ := C0.out wr I.out.2
        have hs : Ctx.behind l (k + 1) = if joinOf x = 3 then Ctx.behind l (k + 1 + (j + 1)) else some x := by
          rw [I.out.1, behind_step (show k + 1 + j < l.length by have := HN.out; omega), ← hxe]
          rfl
        have hy : ∃ y, y = joinOf x := ⟨_, rfl⟩
        obtain ⟨y, hy⟩ := hy
        have K := KJ.out wr I.out.2 x
        rw [← hy] at K hs
        have HY := Lib.hid hy
        have HS := Lib.hid hs
        have K := Lib.hid K
        have hjz : (j : Int) < ((n - (k + 1) : Nat) : Int) := by omega
        clear hcell hxe hs hy
        by_cases h3 : y = 3
        · have R := Lib.hid (show Ctx.behind l (k + 1) = Ctx.behind l (k + 1 + (j + 1)) by rw [HS.out, if_pos h3])
          clear HY
          subst h3
          go_wp2_with fail
          refine K.out.mono ?_
          rintro e w5 ⟨rfl, hb5⟩
          have B5 := Lib.hid (I.out.2.trans (hb5.mono I.out.2.size))
          clear hb5 d0 d1 d2 d3 hcell'
          go_wp2
          go_roundg (n - j)
          case measure => omega
          case rel => exact ⟨j + 1, by omega, by go_num, by omega, ⟨R.out, B5.out⟩⟩
        · have R := Lib.hid (show joinsOf (Ctx.behind l (k + 1)) = y by rw [HS.out, if_neg h3]; exact HY.out.symm)
          have e3 : (y == 3) = false := by simpa using h3
          clear h3
          go_wp2_with fail
          refine K.out.mono ?_
          rintro e w5 ⟨rfl, hb5⟩
          have B5 := Lib.hid (I.out.2.trans (hb5.mono I.out.2.size))
          clear hb5 d0 d1 d2 d3 hcell'
          go_wp2
          go_ret
          exact ⟨by rw [R.out]; rfl, B5.out⟩
      · have R := Lib.hid (show joinsOf (Ctx.behind l (k + 1)) = 0 by rw [I.out.1, behind_end (by have := HN.out; omega)]; rfl)
        have hjz : ¬ (j : Int) < ((n - (k + 1) : Nat) : Int) := by omega
        go_wp2
        go_ret
        exact ⟨by rw [R.out]; rfl, I.out.2⟩
end Go.Proofs.Ytoekkiodhbejpaa
