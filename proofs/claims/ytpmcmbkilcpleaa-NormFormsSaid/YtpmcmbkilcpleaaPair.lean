/-
  Proved here: ucd.Table's Pair, called on what New answers, tells the character that is made of two others by the tables, and whether there is one. Conditions: the table is one that New made.
-/
import Derived.Test.YtpmcmbkilcpleaaUcd
namespace Go.Proofs.Ytpmcmbkilcpleaa
open Go.RowKit
set_option maxHeartbeats 1000000 in
theorem pairClosure (ba bb : Nat) (a b : Int) (y : Sp) (W : World) (ha : W.cell? ⟨ba, 0, none⟩ = some (.int .i32 a)) (hb : W.cell? ⟨bb, 0, none⟩ = some (.int .i32 b)) (la : ba < W.heap.size) (lb : bb < W.heap.size) :
    Calls Try.prog 72 (#[.agg (encSp y).toArray] ++ #[.pointer (some ⟨ba, 0, none⟩), .pointer (some ⟨bb, 0, none⟩)]) W fun e w' => e = .returned (.bool (makes a b y)) ∧ Below W.heap.size W w' := by
  obtain ⟨v0, v1, v2, v3, v4⟩ := y
  unfold makes
  simp only [encSp]
  show Calls Try.prog 72 #[.agg #[.int .i32 v0, .int .i32 v1, .int .i32 v2, .bool v3, .bool v4], .pointer (some ⟨ba, 0, none⟩), .pointer (some ⟨bb, 0, none⟩)] W _
  cases v3 <;> cases v4 <;> cases h1 : (v1 == a) <;> cases h2 : (v2 == b)
  all_goals
    go_enter Try.func72, Try.ntmps72
    go_wp2
    go_ret
    exact ⟨rfl, below_new (Below.refl _ _) (Nat.le_refl _) _⟩
def IndexPost (p : Sp → Bool) (n : Nat) (rows : List Sp) (w : World) (e : Ending) (w' : World) : Prop :=
  ∃ k : Nat, k ≤ n ∧ (∀ j, j < k → p rows[j]! = false) ∧ ((k < n ∧ p rows[k]! = true ∧ e = .returned (.int .i64 k)) ∨ (k = n ∧ e = .returned (.int .i64 (-1)))) ∧ Below w.heap.size w w'
set_option maxHeartbeats 2000000 in
theorem index_any (g : Nat) (cb : Array Value) (b n : Nat) (rows : List Sp) (p : Sp → Bool) (w : World) (hn : n = rows.length) (hl : Lies encSp 5 rows b w) (hsz : n < 4611686018427387904)
    (eg : ∀ args w, (callFunc g args).run Try.prog w = .ok (.enter g args) w)
    (hf : ∀ (W : World) (y : Sp), Below w.heap.size w W → Calls Try.prog g (#[.agg (encSp y).toArray] ++ cb) W fun e w' => e = .returned (.bool (p y)) ∧ Below W.heap.size W w') :
    Calls Try.prog 71 #[.slice (some ⟨b, 0, none⟩) n n, .func (.func g) #[] cb] w (IndexPost p n rows w) := by
  have HF := Lib.hid hf
  have HL := Lib.hid hl
  have HN := Lib.hid hn
  clear hf hl hn
  go_enter Try.func71, Try.ntmps71
  go_wp2
  go_loopg [5, 8] n (fun gg _ s8 wr => ∃ k : Nat, k ≤ n ∧ n - k ≤ gg ∧ s8 = .int .i64 k ∧ Hid (Below w.heap.size w wr) ∧ Hid (∀ j, j < k → p rows[j]! = false))
  case atStart => exact ⟨0, Nat.zero_le _, by omega, rfl, Below.refl _ w, fun j hj => absurd hj (Nat.not_lt_zero _)⟩
  case round =>
    obtain ⟨k, hk, hg, rfl, BW, A⟩ := hrel
    by_cases hlt : k < n
    · have hkz : (k : Int) < (n : Int) := by omega
      obtain ⟨e0, e1, e2, e3, e4⟩ := rowSp (HL.out.below BW.out) k (by have := HN.out; omega) rows[k]! rfl
      have hcall := HF.out wr rows[k]! BW.out
      generalize hy : rows[k]! = y at e0 e1 e2 e3 e4 hcall
      have HY := Lib.hid hy
      clear hy
      obtain ⟨v0, v1, v2, v3, v4⟩ := y
      simp only [encSp] at hcall e0 e1 e2 e3 e4
      cases hp : p ⟨v0, v1, v2, v3, v4⟩ with
      | true =>
        rw [hp] at hcall
        have HP := Lib.hid hp
        have HC := Lib.hid hcall
        clear hp hcall
        go_wp2_with fail
        refine HC.out.mono ?_
        rintro e w2 ⟨rfl, hb'⟩
        have HB2 := Lib.hid (BW.out.trans (hb'.mono BW.out.size))
        clear hb'
        go_wp2
        go_ret
        exact ⟨k, hk, A.out, .inl ⟨hlt, by rw [HY.out]; exact HP.out, rfl⟩, HB2.out⟩
      | false =>
        rw [hp] at hcall
        have HP := Lib.hid hp
        have HC := Lib.hid hcall
        clear hp hcall
        go_wp2_with fail
        refine HC.out.mono ?_
        rintro e w2 ⟨rfl, hb'⟩
        have HB2 := Lib.hid (BW.out.trans (hb'.mono BW.out.size))
        clear hb'
        go_wp2
        go_roundg (n - (k + 1))
        case measure => omega
        case rel =>
          refine ⟨k + 1, by omega, by omega, by go_num, HB2, (show Hid _ from fun j hj => ?_)⟩
          by_cases e : j = k
          · subst e
            rw [HY.out]; exact HP.out
          · exact A.out j (by omega)
    · have hkz : ¬ (k : Int) < (n : Int) := by omega
      go_wp2
      go_ret
      exact ⟨k, hk, A.out, .inr ⟨by omega, rfl⟩, BW.out⟩
theorem find_hit {α : Type} [Inhabited α] (p : α → Bool) : ∀ (l : List α) (k : Nat), k < l.length → (∀ j, j < k → p l[j]! = false) → p l[k]! = true → l.find? p = some l[k]!
  | [], _, h, _, _ => by simp at h
  | x :: t, 0, _, _, h => by simp only [List.getElem!_cons_zero] at h ⊢; simp [h]
  | x :: t, k + 1, hk, h0, h1 => by
    have hx := h0 0 (by omega)
    simp only [List.getElem!_cons_zero, List.getElem!_cons_succ] at hx h1 ⊢
    rw [List.find?_cons_of_neg (by simp [hx])]
    exact find_hit p t k (by simpa using hk) (fun j hj => by have := h0 (j + 1) (by omega); simpa using this) h1
theorem find_miss {α : Type} [Inhabited α] (p : α → Bool) : ∀ (l : List α), (∀ j, j < l.length → p l[j]! = false) → l.find? p = none
  | [], _ => rfl
  | x :: t, h => by
    have hx := h 0 (by simp)
    simp only [List.getElem!_cons_zero] at hx
    rw [List.find?_cons_of_neg (by simp [hx])]
    exact find_miss p t (fun j hj => by have := h (j + 1) (by simpa using hj); simpa using this)
def TellsRune (o : Option Int) (w : World) (e : Ending) (w' : World) : Prop :=
  e = .returned (.tuple #[.int .i32 (o.getD 0), .bool o.isSome]) ∧ Below w.heap.size w w'
theorem below_three (w : World) (a b c : Obj) : Below w.heap.size w (((w.alloc a).alloc b).alloc c) := (((Below.refl _ w).alloc (Nat.le_refl _) _).alloc (by simp) _).alloc (by simp; omega) _
set_option maxHeartbeats 2000000 in
theorem pair_any (t : Value) (a b : Int) (w : World) (hT : Table w t) :
    Calls Try.prog 54 #[t, .int .i32 a, .int .i32 b] w (TellsRune (pairOf a b) w) := by
  obtain ⟨b0, b1, b2, b3, rfl, -, -, -, l3⟩ := hT
  unfold pairOf
  by_cases hb0 : b = 0
  · rw [if_pos hb0]
    subst hb0
    clear l3
    go_enter Try.func54, Try.ntmps54
    go_wp2
    go_ret2
    exact ⟨rfl, below_three _ _ _ _⟩
  · rw [if_neg hb0]
    have hbb : (b == 0) = false := by simpa using hb0
    obtain ⟨W0, hW0⟩ : ∃ W0, W0 = ((w.alloc (.cells #[.slice (some ⟨b0, 0, none⟩) 74 74, .slice (some ⟨b1, 0, none⟩) 10 10, .slice (some ⟨b2, 0, none⟩) 11 11, .slice (some ⟨b3, 0, none⟩) 42 42] 30)).alloc (.cells #[.int .i32 a] 21)).alloc (.cells #[.int .i32 b] 21) := ⟨_, rfl⟩
    have hB0 : Below w.heap.size w W0 := by rw [hW0]; exact below_three _ _ _ _
    have hS : W0.heap.size = w.heap.size + 1 + 1 + 1 := by rw [hW0]; simp
    have c0 : W0.cell? ⟨w.heap.size, 3, none⟩ = some (.slice (some ⟨b3, 0, none⟩) 42 42) := by rw [hW0]; go_simp
    have c1 : W0.cell? ⟨w.heap.size + 1, 0, none⟩ = some (.int .i32 a) := by rw [hW0]; go_simp
    have c2 : W0.cell? ⟨w.heap.size + 1 + 1, 0, none⟩ = some (.int .i32 b) := by rw [hW0]; go_simp
    have eg : ∀ args w, (callFunc 72 args).run Try.prog w = .ok (.enter 72 args) w := enters_of Try.func72 (by kernel_rfl) rfl
    have hI := index_any 72 #[.pointer (some ⟨w.heap.size + 1, 0, none⟩), .pointer (some ⟨w.heap.size + 1 + 1, 0, none⟩)] b3 42 splits (makes a b) W0 rfl (l3.below hB0) (by omega) eg
      (fun W y hb => pairClosure (w.heap.size + 1) (w.heap.size + 1 + 1) a b y W ((hb.cell (p := ⟨w.heap.size + 1, 0, none⟩) (show w.heap.size + 1 < W0.heap.size by omega)).trans c1) ((hb.cell (p := ⟨w.heap.size + 1 + 1, 0, none⟩) (show w.heap.size + 1 + 1 < W0.heap.size by omega)).trans c2) (by have := hb.size; omega) (by have := hb.size; omega))
    have HL := Lib.hid (l3.below hB0)
    have HB0 := Lib.hid hB0
    have C0 := Lib.hid c0
    have HS := Lib.hid hS
    have HI := Lib.hid hI
    clear l3 hB0 hS c0 c1 c2 eg hI
    go_enter Try.func54, Try.ntmps54
    go_wp2_with fail
    rw [← hW0]
    clear hW0
    refine HI.out.mono ?_
    rintro e w1 ⟨k, hk, k1, k2, hb1⟩
    have a0 := (hb1.cell (p := ⟨w.heap.size, 3, none⟩) (show w.heap.size < W0.heap.size by have := HS.out; omega)).trans C0.out
    have HB1 := Lib.hid hb1
    rcases k2 with ⟨hlt, kp, rfl⟩ | ⟨rfl, rfl⟩
    · have HK := Lib.hid (find_hit (makes a b) splits k hlt k1 kp)
      obtain ⟨e0, -⟩ := rowSp (HL.out.below hb1) k hlt splits[k]! rfl
      clear k1 kp hb1
      generalize splits[k]! = y at HK e0
      obtain ⟨v0, v1, v2, v3, v4⟩ := y
      simp only at e0
      go_wp2
      go_ret2
      refine ⟨?_, HB0.out.trans (HB1.out.mono HB0.out.size)⟩
      rw [HK.out]
      rfl
    · have HK := Lib.hid (find_miss (makes a b) splits k1)
      clear k1 hb1
      go_wp2
      go_ret2
      refine ⟨?_, HB0.out.trans (HB1.out.mono HB0.out.size)⟩
      rw [HK.out]
      rfl
end Go.Proofs.Ytpmcmbkilcpleaa
