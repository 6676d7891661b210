/-
  Proved here: what label's encode asks, closure by closure; which characters may stand in a wide label. Conditions: the variables that a closure names lie where it is told.
-/
import Derived.Test.YtmbammhkkcnoaaaGreatLabPart
import Derived.Test.YtmbammhkkcnoaaaGreatLabFine
import Derived.Test.YtmbammhkkcnoaaaGreatNorm
import Derived.Test.YtmbammhkkcnoaaaGreatCtxEnd
import Derived.Test.YtmbammhkkcnoaaaGreatPunyD
import Derived.BigQuiet
namespace Go.Proofs.YtmbammhkkcnoaaaGreat
open Go.RowKit Utf
/-- An ask that when made, in blocks n and n + 1. -/
def AskAt (n : Nat) (x : Int) (g : Nat) (cb : Array Value) (w : World) : Prop :=
  w.cell? ⟨n, 0, none⟩ = some (.int .i64 x) ∧ w.cell? ⟨n + 1, 0, none⟩ = some (.func (.func g) #[] cb) ∧ n + 1 < w.heap.size
theorem AskAt.same {n : Nat} {x : Int} {g : Nat} {cb : Array Value} {w w' : World} (h : AskAt n x g cb w) (hs : w.heap.size ≤ w'.heap.size) (h0 : w'.heap[n]? = w.heap[n]?) (h1 : w'.heap[n + 1]? = w.heap[n + 1]?) : AskAt n x g cb w' :=
  ⟨(World.cell?_of_block (a := ⟨n, 0, none⟩) h0).trans h.1, (World.cell?_of_block (a := ⟨n + 1, 0, none⟩) h1).trans h.2.1, Nat.lt_of_lt_of_le h.2.2 hs⟩
theorem AskAt.keep {n : Nat} {x : Int} {g : Nat} {cb : Array Value} {w w' : World} (h : AskAt n x g cb w) (hb : Below w.heap.size w w') : AskAt n x g cb w' :=
  h.same hb.size (hb.block n (by have := h.2.2; omega)) (hb.block (n + 1) h.2.2)
theorem WhenPost.ask {n : Nat} {x : Int} {g : Nat} {cb : Array Value} {e : Ending} {w w' : World} (h : WhenPost n x g cb e w w') : AskAt n x g cb w' := by
  obtain ⟨-, h1, h2, h3, -⟩ := h
  exact ⟨h2, h3, by omega⟩
/-- An ask that changes nothing of what was. -/
theorem AskAt.calls {n : Nat} {x : Int} {g : Nat} {cb : Array Value} {w : World} {b : Bool} (h : AskAt n x g cb w) (eg : ∀ args w, (callFunc g args).run Tryz.prog w = .ok (.enter g args) w)
    (hf : Calls Tryz.prog g cb w fun e w' => e = .returned (.bool b) ∧ Below w.heap.size w w') {y : Int} (hy : (if b then x else 0) = y) :
    Calls Tryz.prog 128 #[.pointer (some ⟨n + 1, 0, none⟩), .pointer (some ⟨n, 0, none⟩)] w fun e w' => e = .returned (.int .i64 y) ∧ Below w.heap.size w w' := by
  subst hy
  exact when1_any n g cb x b (fun w' => Below w.heap.size w w') w h.2.1 eg hf (fun w' hb => (hb.cell (p := ⟨n, 0, none⟩) (show n < _ by have := h.2.2; omega)).trans h.1)
set_option maxHeartbeats 2000000 in
set_option maxRecDepth 100000 in
theorem enc1_any (g : Nat) (z : Int) (w : World) (hc : w.cell? ⟨g, 0, none⟩ = some (.int .i64 z)) :
    Calls Tryz.prog 83 #[.pointer (some ⟨g, 0, none⟩)] w fun e w' => e = .returned (.bool (decide (0 ≤ z))) ∧ Below w.heap.size w w' := by
  cases hz : decide (0 ≤ z)
  all_goals
    go_enter Tryz.func83, Tryz.ntmps83
    go_wp2
    go_ret
    exact ⟨rfl, Below.refl _ _⟩
set_option maxHeartbeats 2000000 in
set_option maxRecDepth 100000 in
theorem enc2_any (gs gt b0 b1 b2 b3 : Nat) (s : ByteArray) (nf : Bool) (w : World) (hs : s.size ≤ 100000) (hc : w.cell? ⟨gs, 0, none⟩ = some (.string s)) (hH : Held gt b0 b1 b2 b3 w)
    (KI : Calls Tryz.prog 85 #[.agg #[.slice (some ⟨b0, 0, none⟩) 74 74, .slice (some ⟨b1, 0, none⟩) 10 10, .slice (some ⟨b2, 0, none⟩) 11 11, .slice (some ⟨b3, 0, none⟩) 42 42], .string s] w fun e w' => e = .returned (.bool nf) ∧ Below w.heap.size w w') :
    Calls Tryz.prog 84 #[.pointer (some ⟨gs, 0, none⟩), .pointer (some ⟨gt, 0, none⟩)] w fun e w' => e = .returned (.bool (decide (eightOf s.data.toList < 0) || !nf)) ∧ Below w.heap.size w w' := by
  have KE := Lib.hid (eight_any s w hs)
  have KI := Lib.hid KI
  obtain ⟨-, c0, c1, c2, c3⟩ := hH
  generalize eightOf s.data.toList = z at KE ⊢
  clear hs
  cases hz : decide (z < 0) <;> cases nf
  all_goals
    go_enter Tryz.func84, Tryz.ntmps84
    go_wp2_with (first
      | (go_at_call 18; (with_reducible refine KE.out.mono ?_); rintro e w3 ⟨rfl, rfl⟩)
      | (go_at_call 85; (with_reducible refine KI.out.mono ?_); rintro e w4 ⟨rfl, hb⟩; have HB := Lib.hid hb; clear hb))
    go_ret
    first | exact ⟨rfl, Below.refl _ _⟩ | exact ⟨rfl, HB.out⟩
set_option maxHeartbeats 2000000 in
set_option maxRecDepth 100000 in
theorem enc3_any (gs : Nat) (s : ByteArray) (w : World) (hs : s.size ≤ 100000) (hc : w.cell? ⟨gs, 0, none⟩ = some (.string s)) :
    Calls Tryz.prog 86 #[.pointer (some ⟨gs, 0, none⟩)] w fun e w' => e = .returned (.bool (Lab.dashed s.data.toList)) ∧ Below w.heap.size w w' := by
  have KE := Lib.hid (hasBadDash_any s w hs)
  clear hs
  go_enter Tryz.func86, Tryz.ntmps86
  go_wp2_with fail
  refine KE.out.mono ?_
  rintro e w3 ⟨rfl, rfl⟩
  go_wp2
  go_ret
  exact ⟨rfl, Below.refl _ _⟩
set_option maxHeartbeats 4000000 in
set_option maxRecDepth 100000 in
theorem enc4_any (gt gl b0 b1 b2 b3 : Nat) (A : Option Addr) (c : Nat) (l : List Int) (w : World) (hT : Table w (.agg #[.slice (some ⟨b0, 0, none⟩) 74 74, .slice (some ⟨b1, 0, none⟩) 10 10, .slice (some ⟨b2, 0, none⟩) 11 11, .slice (some ⟨b3, 0, none⟩) 42 42]))
    (hH : Held gt b0 b1 b2 b3 w) (hc : w.cell? ⟨gl, 0, none⟩ = some (.slice A l.length c)) (hgl : gl < w.heap.size) (hl : Runes (.slice A l.length c) l w) (h0 : 0 < l.length) :
    Calls Tryz.prog 88 #[.pointer (some ⟨gt, 0, none⟩), .pointer (some ⟨gl, 0, none⟩)] w fun e w' => e = .returned (.bool (catOf l[0]! == 4)) ∧ Below w.heap.size w w' := by
  obtain ⟨A', c', hform, -, hx⟩ := hl.form
  obtain ⟨rfl, -, rfl⟩ : A = A' ∧ l.length = l.length ∧ c = c' := by injection hform with h1 h2 h3; exact ⟨h1, h2, h3⟩
  obtain ⟨ad, rfl, hb, hcell⟩ := hx 0 h0
  rw [show ad.add 0 = ad by unfold Addr.add; rw [if_pos rfl]] at hcell
  obtain ⟨n, hn⟩ : ∃ n, n = l.length := ⟨_, rfl⟩
  obtain ⟨x, hxe⟩ : ∃ x, x = l[0]! := ⟨_, rfl⟩
  rw [← hn] at hc h0
  rw [← hxe] at hcell ⊢
  have h0z : (0 : Int) < (n : Int) := by omega
  have HH := Lib.hid hH
  have K := Lib.hid (fun W (h : Below w.heap.size w W) => cat_any _ x W (hT.below h))
  obtain ⟨hS, c0, c1, c2, c3⟩ := hH
  generalize catOf x = y at K ⊢
  have HC := Lib.hid hcell
  have HL := Lib.hid hc
  clear hform hl hx hxe hn hT
  cases h4 : (y == 4)
  all_goals
    go_enter Tryz.func88, Tryz.ntmps88
    go_wp2
    go_region_held3 (fun w' => w'.cell? ad = some (.int .i32 x) ∧ w'.cell? ⟨gl, 0, none⟩ = some (.slice (some ad) n c) ∧ w'.cell? ⟨gt, 0, none⟩ = some (.slice (some ⟨b0, 0, none⟩) 74 74) ∧ w'.cell? ⟨gt, 1, none⟩ = some (.slice (some ⟨b1, 0, none⟩) 10 10) ∧ w'.cell? ⟨gt, 2, none⟩ = some (.slice (some ⟨b2, 0, none⟩) 11 11) ∧ w'.cell? ⟨gt, 3, none⟩ = some (.slice (some ⟨b3, 0, none⟩) 42 42)) (go_keep) ((go_at_call 71; (with_reducible refine (K.out _ (Below.refl _ _).drew).mono ?_); rintro e w5 ⟨rfl, hb5⟩; have hB5 := below_of_drew hb5; have hx5 := (hB5.cell hb).trans HC.out; have hx6 := (hB5.cell (p := ⟨gl, 0, none⟩) hgl).trans HL.out; have BX := Lib.hid hB5; obtain ⟨hS5, d0, d1, d2, d3⟩ := HH.out.below hB5; clear hb5 hB5))
    go_wp2
    go_ret
    exact ⟨rfl, BX.out⟩
set_option maxHeartbeats 4000000 in
set_option maxRecDepth 100000 in
theorem mayOne_any (gt b0 b1 b2 b3 : Nat) (x : Int) (w : World) (hT : Table w (.agg #[.slice (some ⟨b0, 0, none⟩) 74 74, .slice (some ⟨b1, 0, none⟩) 10 10, .slice (some ⟨b2, 0, none⟩) 11 11, .slice (some ⟨b3, 0, none⟩) 42 42]))
    (hH : Held gt b0 b1 b2 b3 w) : Calls Tryz.prog 131 #[.int .i32 x, .pointer (some ⟨gt, 0, none⟩)] w fun e w' => e = .returned (.bool (!Lab.charOk x && !Ctx.needs x)) ∧ Below w.heap.size w w' := by
  have K := Lib.hid (charL_any _ x w hT)
  have KN := Lib.hid (fun W => needs7_prog x W)
  obtain ⟨hS, c0, c1, c2, c3⟩ := hH
  generalize Lab.charOk x = y at K ⊢
  generalize Ctx.needs x = z at KN ⊢
  clear hT
  cases y <;> cases z
  all_goals
    go_enter Tryz.func131, Tryz.ntmps131
    go_wp2_with (first
      | (go_at_call 38; (with_reducible refine K.out.mono ?_); rintro e w3 ⟨rfl, hb⟩; have HB := Lib.hid hb; clear hb)
      | (go_at_call 33; (with_reducible refine (KN.out _).mono ?_); rintro e w4 ⟨rfl, hb⟩; have HB2 := Lib.hid (below_then HB.out hb); clear hb))
    go_ret
    first | exact ⟨rfl, HB2.out⟩ | exact ⟨rfl, HB.out⟩
theorem may_bad (l : List Int) : (!(!(l.any fun x => !Lab.charOk x && !Ctx.needs x) && Ctx.all l)) = Lab.badAt l := by
  rw [Bool.not_and, Bool.not_not, Bool.eq_iff_iff]
  unfold Lab.badAt
  rw [Bool.or_eq_true, List.any_eq_true, List.any_eq_true, Bool.not_eq_true', ← Bool.not_eq_true, Ctx.all_iff]
  constructor
  · rintro (⟨x, hx, h⟩ | h)
    · obtain ⟨k, hk, rfl⟩ := List.getElem_of_mem hx
      refine ⟨k, List.mem_range.2 hk, ?_⟩
      rw [← getElem!_pos l k hk] at h
      simp only [Bool.and_eq_true, Bool.not_eq_true'] at h
      rw [Ctx.need_in hk, if_neg (by rw [h.2]; decide), h.1]
      rfl
    · have ⟨k, h2⟩ := Classical.not_forall.1 h
      have ⟨hk, h3⟩ := Classical.not_forall.1 h2
      have ⟨hn, hm⟩ := Classical.not_forall.1 h3
      refine ⟨k, List.mem_range.2 hk, ?_⟩
      rw [Ctx.need_in hk, if_pos hn, if_neg hm]
      rfl
  · rintro ⟨k, hk, h⟩
    have hk := List.mem_range.1 hk
    rw [Ctx.need_in hk] at h
    by_cases hn : Ctx.needs l[k]! = true
    · refine .inr (fun ha => ?_)
      rw [if_pos hn, if_pos (ha k hk hn)] at h
      exact absurd h (by simp)
    · rw [if_neg hn] at h
      refine .inl ⟨l[k], List.getElem_mem hk, ?_⟩
      rw [← getElem!_pos l k hk]
      simp only [Bool.not_eq_true] at hn
      rw [hn]
      simpa using h
set_option maxHeartbeats 4000000 in
set_option maxRecDepth 100000 in
theorem mayStand_any (t : Value) (v : Value) (l : List Int) (w : World) (hT : Table w t) (hl : Runes v l w) (hn : l.length ≤ 1000) :
    Calls Tryz.prog 90 #[t, v] w fun e w' => e = .returned (.bool (!(l.any fun x => !Lab.charOk x && !Ctx.needs x) && Ctx.all l)) ∧ Below w.heap.size w w' := by
  have eg : ∀ args w, (callFunc 131 args).run Tryz.prog w = .ok (.enter 131 args) w := enters_of Tryz.func131 (by kernel_rfl) rfl
  have hT0 := hT
  obtain ⟨b0, b1, b2, b3, rfl, -, -, -, -⟩ := hT0
  have hW := below_one w (.cells #[.slice (some ⟨b0, 0, none⟩) 74 74, .slice (some ⟨b1, 0, none⟩) 10 10, .slice (some ⟨b2, 0, none⟩) 11 11, .slice (some ⟨b3, 0, none⟩) 42 42] 28)
  have hH := held_new w b0 b1 b2 b3 28
  have K := rcontains_any 131 #[.pointer (some ⟨w.heap.size, 0, none⟩)] v l (fun x => !Lab.charOk x && !Ctx.needs x) _ (hl.keep hW) hn eg
    (fun W x hb => mayOne_any w.heap.size b0 b1 b2 b3 x W ((hT.below hW).below hb) (hH.below hb))
  have KA := Lib.hid (fun W (h : Below w.heap.size w W) => all7_prog _ v l W (hT.below h) (hl.keep h) hn)
  generalize (l.any fun x => !Lab.charOk x && !Ctx.needs x) = r at K ⊢
  generalize Ctx.all l = q at KA ⊢
  obtain ⟨A, c, rfl, -, -⟩ := hl.form
  have K := Lib.hid K
  clear hT hl hn eg hW hH
  cases r
  · cases q
    all_goals
      go_enter Tryz.func90, Tryz.ntmps90
      go_wp2_with fail
      refine K.out.mono ?_
      rintro e w2 ⟨rfl, hb2⟩
      have BX := Lib.hid (boxT hb2)
      obtain ⟨hS5, d0, d1, d2, d3⟩ := BX.out.2
      clear hb2
      go_wp2_with fail
      refine (KA.out w2 BX.out.1).mono ?_
      rintro e w3 ⟨rfl, hb3⟩
      have HB := Lib.hid (below_then BX.out.1 hb3)
      clear hb3
      go_wp2
      go_ret
      exact ⟨rfl, HB.out⟩
  · go_enter Tryz.func90, Tryz.ntmps90
    go_wp2_with fail
    refine K.out.mono ?_
    rintro e w2 ⟨rfl, hb2⟩
    have BX := Lib.hid (boxT hb2)
    clear hb2
    go_wp2
    go_ret
    exact ⟨rfl, BX.out.1⟩
set_option maxHeartbeats 4000000 in
set_option maxRecDepth 100000 in
theorem enc5_any (gt gl b0 b1 b2 b3 : Nat) (A : Option Addr) (c : Nat) (l : List Int) (w : World) (hT : Table w (.agg #[.slice (some ⟨b0, 0, none⟩) 74 74, .slice (some ⟨b1, 0, none⟩) 10 10, .slice (some ⟨b2, 0, none⟩) 11 11, .slice (some ⟨b3, 0, none⟩) 42 42]))
    (hH : Held gt b0 b1 b2 b3 w) (hc : w.cell? ⟨gl, 0, none⟩ = some (.slice A l.length c)) (hl : Runes (.slice A l.length c) l w) (hn : l.length ≤ 1000) :
    Calls Tryz.prog 89 #[.pointer (some ⟨gt, 0, none⟩), .pointer (some ⟨gl, 0, none⟩)] w fun e w' => e = .returned (.bool (Lab.badAt l)) ∧ Below w.heap.size w w' := by
  have K := mayStand_any _ _ l w hT hl hn
  rw [← may_bad]
  generalize (!(l.any fun x => !Lab.charOk x && !Ctx.needs x) && Ctx.all l) = q at K ⊢
  have K := Lib.hid K
  obtain ⟨hS, c0, c1, c2, c3⟩ := hH
  clear hT hl hn
  go_enter Tryz.func89, Tryz.ntmps89
  go_wp2_with fail
  refine K.out.mono ?_
  rintro e w2 ⟨rfl, hb2⟩
  have BX := Lib.hid hb2
  clear hb2
  go_wp2
  go_ret
  exact ⟨rfl, BX.out⟩
set_option maxHeartbeats 4000000 in
set_option maxRecDepth 100000 in
theorem enc6_any (gt gl b0 b1 b2 b3 : Nat) (A : Option Addr) (c : Nat) (l : List Int) (w : World) (hT : Table w (.agg #[.slice (some ⟨b0, 0, none⟩) 74 74, .slice (some ⟨b1, 0, none⟩) 10 10, .slice (some ⟨b2, 0, none⟩) 11 11, .slice (some ⟨b3, 0, none⟩) 42 42]))
    (hH : Held gt b0 b1 b2 b3 w) (hc : w.cell? ⟨gl, 0, none⟩ = some (.slice A l.length c)) (hgl : gl < w.heap.size) (hl : Runes (.slice A l.length c) l w) (hn : l.length ≤ 1000) :
    Calls Tryz.prog 91 #[.pointer (some ⟨gt, 0, none⟩), .pointer (some ⟨gl, 0, none⟩)] w fun e w' => e = .returned (.bool (Bidi.has l && !Bidi.rule l)) ∧ Below w.heap.size w w' := by
  have K := Lib.hid (bidiHas_any _ _ l w hT hl hn)
  have KR := Lib.hid (fun W (h : Below w.heap.size w W) => bidiRule_any _ _ l W (hT.below h) (hl.keep h) hn)
  generalize Bidi.has l = p at K ⊢
  generalize Bidi.rule l = q at KR ⊢
  have HH := Lib.hid hH
  have HL := Lib.hid hc
  obtain ⟨hS, c0, c1, c2, c3⟩ := hH
  clear hT hl hn
  cases p
  · go_enter Tryz.func91, Tryz.ntmps91
    go_wp2_with fail
    refine K.out.mono ?_
    rintro e w2 ⟨rfl, hb2⟩
    have BX := Lib.hid hb2
    clear hb2
    go_wp2
    go_ret
    exact ⟨rfl, BX.out⟩
  · cases q
    all_goals
      go_enter Tryz.func91, Tryz.ntmps91
      go_wp2_with fail
      refine K.out.mono ?_
      rintro e w2 ⟨rfl, hb2⟩
      have BX := Lib.hid hb2
      have hx6 := (hb2.cell (p := ⟨gl, 0, none⟩) hgl).trans HL.out
      obtain ⟨hS5, d0, d1, d2, d3⟩ := HH.out.below hb2
      clear hb2
      go_wp2_with fail
      refine (KR.out w2 BX.out).mono ?_
      rintro e w3 ⟨rfl, hb3⟩
      have HB := Lib.hid (below_then BX.out hb3)
      clear hb3
      go_wp2
      go_ret
      exact ⟨rfl, HB.out⟩
/-- What is as it was, but for the two variables in blocks C + 2 and C + 3. -/
def EncI (C : Nat) (code : ByteArray) (is : Bool) (w0 W : World) : Prop :=
  Below (C + 2) w0 W ∧ (∀ j, C + 4 ≤ j → j < w0.heap.size → W.heap[j]? = w0.heap[j]?) ∧ W.heap[C + 2]? = some (.cells #[.string code] 9 (0, 0)) ∧ W.heap[C + 3]? = some (.cells #[.bool is] 4 (0, 0))
theorem EncI.lt {C : Nat} {code : ByteArray} {is : Bool} {w0 W : World} (h : EncI C code is w0 W) : C + 3 < W.heap.size := (Array.getElem?_eq_some_iff.1 h.2.2.2).1
theorem EncI.keep {C : Nat} {code : ByteArray} {is : Bool} {w0 W W' : World} (h : EncI C code is w0 W) (hb : Below W.heap.size W W') : EncI C code is w0 W' := by
  have hlt := h.lt
  have hs := h.1.size
  exact ⟨h.1.trans (hb.mono (by omega)), fun j h1 h2 => (hb.block j (by omega)).trans (h.2.1 j h1 h2), (hb.block _ (by omega)).trans h.2.2.1, (hb.block _ hlt).trans h.2.2.2⟩
set_option maxHeartbeats 4000000 in
set_option maxRecDepth 100000 in
theorem enc7_any (C : Nat) (A : Option Addr) (n c : Nat) (code0 : ByteArray) (is0 : Bool) (bs : List UInt8) (ok : Bool) (w : World) (hc : w.cell? ⟨C, 0, none⟩ = some (.slice A n c))
    (h2 : w.heap[C + 2]? = some (.cells #[.string code0] 9 (0, 0))) (h3 : w.heap[C + 3]? = some (.cells #[.bool is0] 4 (0, 0)))
    (KE : Calls Tryz.prog 93 #[.slice A n c] w (Wrote bs ok w)) :
    Calls Tryz.prog 92 #[.pointer (some ⟨C, 0, none⟩), .pointer (some ⟨C + 2, 0, none⟩), .pointer (some ⟨C + 3, 0, none⟩)] w fun e w' => e = .returned (.bool (!ok)) ∧ EncI C ⟨bs.toArray⟩ ok w w' := by
  have KE := Lib.hid KE
  have H2 := Lib.hid h2
  have H3 := Lib.hid h3
  have hlt : C + 3 < w.heap.size := (Array.getElem?_eq_some_iff.1 h3).1
  have k2 : w.cell? ⟨C + 2, 0, none⟩ = some (.string code0) := by simp [World.cell?, h2]
  have k3 : w.cell? ⟨C + 3, 0, none⟩ = some (.bool is0) := by simp [World.cell?, h3]
  clear h2 h3
  go_enter Tryz.func92, Tryz.ntmps92
  go_wp2_with fail
  refine KE.out.mono ?_
  rintro e w2 ⟨rfl, hb⟩
  have HB := Lib.hid hb
  have d1 := (hb.cell (p := ⟨C + 2, 0, none⟩) (show C + 2 < w.heap.size by omega)).trans k2
  have d2 := (hb.cell (p := ⟨C + 3, 0, none⟩) hlt).trans k3
  have f1 : w2.frozen? ⟨C + 2, 0, none⟩ = false := by have := (hb.block (C + 2) (by omega)).trans H2.out; simp [World.frozen?, this]
  have f2 : w2.frozen? ⟨C + 3, 0, none⟩ = false := by have := (hb.block (C + 3) (by omega)).trans H3.out; simp [World.frozen?, this]
  clear hb k2 k3
  go_wp2
  go_ret
  have hB := HB.out
  have g2 := (hB.block (C + 2) (by omega)).trans H2.out
  have g3 := (hB.block (C + 3) (by omega)).trans H3.out
  refine ⟨rfl, ?_, fun j hj hlt => ?_, ?_, ?_⟩
  · exact ((hB.mono (show C + 2 ≤ w.heap.size by omega)).setCell (p := ⟨C + 2, 0, none⟩) (show C + 2 ≤ C + 2 by omega) _).setCell (p := ⟨C + 3, 0, none⟩) (show C + 2 ≤ C + 3 by omega) _
  · rw [← hB.block j hlt]
    simp [World.setCell, Array.getElem?_modify, show C + 2 ≠ j by omega, show C + 3 ≠ j by omega]
  · simp [World.setCell, Array.getElem?_modify, g2]
  · simp [World.setCell, Array.getElem?_modify, g3]
set_option maxHeartbeats 2000000 in
set_option maxRecDepth 100000 in
theorem enc8_any (g : Nat) (s : ByteArray) (w : World) (hc : w.cell? ⟨g, 0, none⟩ = some (.string s)) :
    Calls Tryz.prog 94 #[.pointer (some ⟨g, 0, none⟩)] w fun e w' => e = .returned (.bool (decide (59 < s.size))) ∧ Below w.heap.size w w' := by
  by_cases hz : 59 < s.size
  · have hzz : (59 : Int) < (s.size : Int) := by omega
    rw [decide_eq_true hz]
    go_enter Tryz.func94, Tryz.ntmps94
    go_wp2
    go_ret
    exact ⟨rfl, Below.refl _ _⟩
  · have hzz : ¬ (59 : Int) < (s.size : Int) := by omega
    rw [decide_eq_false hz]
    go_enter Tryz.func94, Tryz.ntmps94
    go_wp2
    go_ret
    exact ⟨rfl, Below.refl _ _⟩
end Go.Proofs.YtmbammhkkcnoaaaGreat
