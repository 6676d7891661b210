/-
  Proved here: the program's Need, All and Needs of layer 7. Conditions: the slice can be read, and holds at most 1000 numbers.
-/
import Derived.Test.YtoekkiodhbejpaaCtxOnce
import Derived.Test.YtoekkiodhbejpaaCtxSmall
import Derived.Deep.RegionWith
namespace Go.Proofs.Ytoekkiodhbejpaa
open Go.RowKit
def isKind (d : Int) : Bool := d == 8204 || d == 8205 || d == 183 || d == 885 || d == 1523 || d == 12539 || d == 1632 || d == 1776
/-- What the rule of a kind tells of a place. -/
def ruleOf (l : List Int) (k : Nat) (d : Int) : Bool :=
  if d = 8205 then Ctx.virama l k else if d = 8204 then Ctx.virama l k || Ctx.joined l k
  else if d = 183 then Ctx.at0 l ((k : Int) - 1) == 108 && Ctx.at0 l ((k : Int) + 1) == 108
  else if d = 885 then scriptOf (Ctx.at0 l ((k : Int) + 1)) == 2
  else if d = 1523 then scriptOf (Ctx.at0 l ((k : Int) - 1)) == 4
  else if d = 12539 then Ctx.asian l
  else if d = 1632 then !Ctx.among l 1776 1785 else !Ctx.among l 1632 1641
theorem kind_cases (r : Int) : (r = 1524 ∧ kindOf r = 1523) ∨ (r ≠ 1524 ∧ 1632 ≤ r ∧ r ≤ 1641 ∧ kindOf r = 1632) ∨ (r ≠ 1524 ∧ 1776 ≤ r ∧ r ≤ 1785 ∧ kindOf r = 1776) ∨ (r ≠ 1524 ∧ ¬ (1632 ≤ r ∧ r ≤ 1641) ∧ ¬ (1776 ≤ r ∧ r ≤ 1785) ∧ kindOf r = r) := by
  unfold kindOf
  by_cases h1 : r = 1524
  · exact .inl ⟨h1, by rw [if_pos h1]⟩
  · rw [if_neg h1]
    by_cases h2 : 1632 ≤ r ∧ r ≤ 1641
    · exact .inr (.inl ⟨h1, h2.1, h2.2, by rw [if_pos h2]⟩)
    · rw [if_neg h2]
      by_cases h3 : 1776 ≤ r ∧ r ≤ 1785
      · exact .inr (.inr (.inl ⟨h1, h3.1, h3.2, by rw [if_pos h3]⟩))
      · exact .inr (.inr (.inr ⟨h1, h2, h3, by rw [if_neg h3]⟩))
theorem needs_kind (r : Int) : Ctx.needs r = isKind (kindOf r) := by
  rw [Bool.eq_iff_iff]
  unfold Ctx.needs isKind
  rcases kind_cases r with ⟨rfl, h⟩ | ⟨h1, h2, h3, h⟩ | ⟨h1, h2, h3, h⟩ | ⟨h1, h2, h3, h⟩ <;> rw [h]
  · decide
  · simp [h2, h3]
  · simp [h2, h3]
  · simp only [Bool.or_eq_true, Bool.and_eq_true, beq_iff_eq, decide_eq_true_eq]
    omega
theorem met_kind (l : List Int) (k : Nat) (hn : Ctx.needs l[k]! = true) : Ctx.met l k = ruleOf l k (kindOf l[k]!) := by
  rw [needs_kind] at hn
  unfold Ctx.met ruleOf
  generalize l[k]! = r at hn ⊢
  rcases kind_cases r with ⟨rfl, h⟩ | ⟨h1, h2, h3, h⟩ | ⟨h1, h2, h3, h⟩ | ⟨h1, h2, h3, h⟩
  · rw [h]; rfl
  · rw [h, if_neg (show ¬ r = 8205 by omega), if_neg (show ¬ r = 8204 by omega), if_neg (show ¬ r = 183 by omega), if_neg (show ¬ r = 885 by omega), if_neg (show ¬ (r = 1523 ∨ r = 1524) by omega), if_neg (show ¬ r = 12539 by omega), if_pos (show r < 1700 by omega)]
    rfl
  · rw [h, if_neg (show ¬ r = 8205 by omega), if_neg (show ¬ r = 8204 by omega), if_neg (show ¬ r = 183 by omega), if_neg (show ¬ r = 885 by omega), if_neg (show ¬ (r = 1523 ∨ r = 1524) by omega), if_neg (show ¬ r = 12539 by omega), if_neg (show ¬ r < 1700 by omega)]
    rfl
  · rw [h] at hn ⊢
    unfold isKind at hn
    simp only [Bool.or_eq_true, beq_iff_eq] at hn
    have hc : r = 8204 ∨ r = 8205 ∨ r = 183 ∨ r = 885 ∨ r = 1523 ∨ r = 12539 := by omega
    rcases hc with rfl | rfl | rfl | rfl | rfl | rfl <;> rfl
/-- The rules stand in block B, each of them as it was made, or with its answer, and no memory that was there before has changed. -/
structure Ruled (B g c1 c2 c3 : Nat) (t v : Value) (l : List Int) (w0 w : World) : Prop where
  below : Below B w0 w
  base : B = w0.heap.size
  row : RowIs g t v l w0
  o1 : B < c1
  o2 : c1 + 2 < c2
  o3 : c2 + 2 < c3
  rules : RulesAt B g c1 c2 c3 w
  q1 : OnceAt c1 g 32 (Ctx.asian l) w
  q2 : OnceAt c2 g 33 (!Ctx.among l 1776 1785) w
  q3 : OnceAt c3 g 34 (!Ctx.among l 1632 1641) w
section
variable {B g c1 c2 c3 : Nat} {t v : Value} {l : List Int} {w0 w w' : World}
theorem Ruled.lt (h : Ruled B g c1 c2 c3 t v l w0 w) : B < w.heap.size := (Array.getElem?_eq_some_iff.1 h.rules).1
theorem Ruled.keep (h : Ruled B g c1 c2 c3 t v l w0 w) (hb : Below w.heap.size w w') : Ruled B g c1 c2 c3 t v l w0 w' :=
  ⟨h.below.trans (hb.mono (Nat.le_of_lt h.lt)), h.base, h.row, h.o1, h.o2, h.o3, (hb.block _ h.lt).trans h.rules, h.q1.keep hb, h.q2.keep hb, h.q3.keep hb⟩
theorem Ruled.now (h : Ruled B g c1 c2 c3 t v l w0 w) : RowIs g t v l w := h.row.keep (by have := h.below; rwa [h.base] at this)
theorem Ruled.all (h : Ruled B g c1 c2 c3 t v l w0 w) : Below w0.heap.size w0 w := by have := h.below; rwa [h.base] at this
/-- One of them has been asked. -/
theorem Ruled.asked (h : Ruled B g c1 c2 c3 t v l w0 w) {c : Nat} (hc : c = c1 ∨ c = c2 ∨ c = c3) (hb : Below c w w') (hs : ∀ j, c + 2 < j → j < w.heap.size → w'.heap[j]? = w.heap[j]?)
    (h1 : c = c1 → OnceAt c1 g 32 (Ctx.asian l) w') (h2 : c = c2 → OnceAt c2 g 33 (!Ctx.among l 1776 1785) w') (h3 : c = c3 → OnceAt c3 g 34 (!Ctx.among l 1632 1641) w') : Ruled B g c1 c2 c3 t v l w0 w' := by
  have p1 := h.o1
  have p2 := h.o2
  have p3 := h.o3
  have l1 := h.q1.lt
  have l2 := h.q2.lt
  have l3 := h.q3.lt
  refine ⟨h.below.trans (hb.mono (by omega)), h.base, h.row, p1, p2, p3, (hb.block B (by omega)).trans h.rules, ?_, ?_, ?_⟩
  · by_cases e : c = c1
    · exact h1 e
    · exact h.q1.same (hb.block _ (by omega)) (hb.block _ (by omega)) (hb.block _ (by omega))
  · by_cases e : c = c2
    · exact h2 e
    · by_cases e3 : c = c3
      · exact h.q2.same (hb.block _ (by omega)) (hb.block _ (by omega)) (hb.block _ (by omega))
      · exact h.q2.same (hs _ (by omega) (by omega)) (hs _ (by omega) (by omega)) (hs _ (by omega) (by omega))
  · by_cases e : c = c3
    · exact h3 e
    · exact h.q3.same (hs _ (by omega) (by omega)) (hs _ (by omega) (by omega)) (hs _ (by omega) (by omega))
end
theorem find_none (g c1 c2 c3 : Nat) {d : Int} (h : isKind d = false) : Instr.findNow (.int .i32) (.int .i32 d) (rulesOf g c1 c2 c3) 0 = some none := by
  unfold isKind at h
  simp only [Bool.or_eq_false_iff] at h
  obtain ⟨⟨⟨⟨⟨⟨⟨h1, h2⟩, h3⟩, h4⟩, h5⟩, h6⟩, h7⟩, h8⟩ := h
  simp [rulesOf, Instr.findNow, Instr.sameNow, h1, h2, h3, h4, h5, h6, h7, h8]
/-- What tells of a place by a rule of the map. -/
def Tells (B g c1 c2 c3 : Nat) (t v : Value) (l : List Int) (w0 : World) (d : Int) (f : Nat) (args : Int → Array Value) : Prop :=
  ∀ (k : Nat) (w : World), k < l.length → Ruled B g c1 c2 c3 t v l w0 w → Calls Try.prog f (args k) w fun e w' => e = .returned (.bool (ruleOf l k d)) ∧ Ruled B g c1 c2 c3 t v l w0 w'
theorem find_some (B g c1 c2 c3 : Nat) (t v : Value) (l : List Int) (w0 : World) (hn : l.length ≤ 1000) {d : Int} (h : isKind d = true) :
    (∃ i f, Instr.findNow (.int .i32) (.int .i32 d) (rulesOf g c1 c2 c3) 0 = some (some (i, .func (.func f) #[.pointer (some ⟨g, 0, none⟩)] #[])) ∧ (∀ args w, (callFunc f args).run Try.prog w = .ok (.enter f args) w) ∧ Tells B g c1 c2 c3 t v l w0 d f (fun k => #[.pointer (some ⟨g, 0, none⟩), .int .i64 k])) ∨
    (∃ i c, Instr.findNow (.int .i32) (.int .i32 d) (rulesOf g c1 c2 c3) 0 = some (some (i, .func (.func 49) #[] #[.pointer (some ⟨c + 1, 0, none⟩), .pointer (some ⟨c, 0, none⟩), .pointer (some ⟨c + 2, 0, none⟩)])) ∧ Tells B g c1 c2 c3 t v l w0 d 49 (fun k => #[.int .i64 k, .pointer (some ⟨c + 1, 0, none⟩), .pointer (some ⟨c, 0, none⟩), .pointer (some ⟨c + 2, 0, none⟩)])) := by
  unfold isKind at h
  simp only [Bool.or_eq_true, beq_iff_eq] at h
  rcases h with ((((((rfl | rfl) | rfl) | rfl) | rfl) | rfl) | rfl) | rfl
  · exact .inl ⟨_, _, rfl, enters_of Try.func26 (by kernel_rfl) rfl, fun k w hk h => (parts_any g t v l k w h.now hn hk).mono fun e w' ⟨h1, h2⟩ => ⟨h1, h.keep h2⟩⟩
  · exact .inl ⟨_, _, rfl, enters_of Try.func27 (by kernel_rfl) rfl, fun k w hk h => (joins_any g t v l k w h.now hn hk).mono fun e w' ⟨h1, h2⟩ => ⟨h1, h.keep h2⟩⟩
  · exact .inl ⟨_, _, rfl, enters_of Try.func28 (by kernel_rfl) rfl, fun k w hk h => (isBetween_any g t v l k w h.now hn hk).mono fun e w' ⟨h1, h2⟩ => ⟨h1, h.keep h2⟩⟩
  · exact .inl ⟨_, _, rfl, enters_of Try.func29 (by kernel_rfl) rfl, fun k w hk h => (isAheadOfGreek_any g t v l k w h.now hn hk).mono fun e w' ⟨h1, h2⟩ => ⟨h1, h.keep h2⟩⟩
  · exact .inl ⟨_, _, rfl, enters_of Try.func30 (by kernel_rfl) rfl, fun k w hk h => (isBehindHebrew_any g t v l k w h.now hn hk).mono fun e w' ⟨h1, h2⟩ => ⟨h1, h.keep h2⟩⟩
  · exact .inr ⟨_, c1, rfl, fun k w hk h => (onceIn_any c1 g _ _ k w h.q1 (enters_of Try.func32 (by kernel_rfl) rfl) (hasKanaOrHan_any g t v l w h.now hn)).mono fun e w' ⟨h1, h2, h3, h4⟩ => ⟨h1, h.asked (.inl rfl) h3 h4 (fun _ => h2) (fun e => absurd e (by have := h.o2; omega)) (fun e => absurd e (by have := h.o2; have := h.o3; omega))⟩⟩
  · exact .inr ⟨_, c2, rfl, fun k w hk h => (onceIn_any c2 g _ _ k w h.q2 (enters_of Try.func33 (by kernel_rfl) rfl) (hasNoEastern_any g t v l w h.now hn)).mono fun e w' ⟨h1, h2, h3, h4⟩ => ⟨h1, h.asked (.inr (.inl rfl)) h3 h4 (fun e => absurd e (by have := h.o2; omega)) (fun _ => h2) (fun e => absurd e (by have := h.o3; omega))⟩⟩
  · exact .inr ⟨_, c3, rfl, fun k w hk h => (onceIn_any c3 g _ _ k w h.q3 (enters_of Try.func34 (by kernel_rfl) rfl) (hasNoArabic_any g t v l w h.now hn)).mono fun e w' ⟨h1, h2, h3, h4⟩ => ⟨h1, h.asked (.inr (.inr rfl)) h3 h4 (fun e => absurd e (by have := h.o2; have := h.o3; omega)) (fun e => absurd e (by have := h.o3; omega)) (fun _ => h2)⟩⟩
theorem zeroRule (w : World) : (zeroValue 46).run Try.prog w = .ok .nilFunc w := by kernel_rfl
set_option maxHeartbeats 2000000 in
set_option maxRecDepth 100000 in
theorem needs7_prog (r : Int) (w : World) : Calls Try.prog 14 #[.int .i32 r] w fun e w' => e = .returned (.bool (Ctx.needs r)) ∧ Below w.heap.size w w' := by
  rw [needs_kind]
  have KK := fun W => kind_any r W
  generalize kindOf r = d at KK ⊢
  have KK := Lib.hid KK
  have KR := Lib.hid (fun B W h => rules_any w.heap.size B W h)
  have hw : Below w.heap.size w (w.alloc (.cells #[.slice none 0 0, .slice none 0 0, .slice none 0 0, .slice none 0 0, .slice none 0 0] 52)) := below_one _ _
  have HW := Lib.hid hw
  clear hw
  cases hd : isKind d
  · have HD := Lib.hid hd
    clear hd
    go_enter Try.func14, Try.ntmps14
    go_wp2_with fail
    refine (KR.out (w.heap.size + 1) _ (by simp)).mono ?_
    rintro e w2 ⟨c1, c2, c3, rfl, hb, -, -, -, hr, -, -, -⟩
    have hl := look_none w2 Try.underlying48 Try.underlying21 (zeroRule w2) hr d (find_none _ _ _ _ HD.out)
    have HB := Lib.hid (below_then HW.out hb)
    clear hb hr
    go_wp2_with fail
    refine (KK.out w2).mono ?_
    rintro e w3 ⟨rfl, rfl⟩
    go_wp2
    go_ret
    exact ⟨rfl, HB.out⟩
  · have HD := Lib.hid hd
    clear hd
    go_enter Try.func14, Try.ntmps14
    go_wp2_with fail
    refine (KR.out (w.heap.size + 1) _ (by simp)).mono ?_
    rintro e w2 ⟨c1, c2, c3, rfl, hb, -, -, -, hr, -, -, -⟩
    have hl : ∃ V, (Instr.lookup 48 (.map (some (w.heap.size + 1))) (.int .i32 d) true).run Try.prog w2 = .ok (.tuple #[V, .bool true]) w2 := by
      rcases find_some 0 w.heap.size c1 c2 c3 .nilFunc .nilFunc [] w (by simp) HD.out with ⟨i, f, hf, -⟩ | ⟨i, f, hf, -⟩
      · exact ⟨_, look_some w2 Try.underlying48 Try.underlying21 hr d _ hf⟩
      · exact ⟨_, look_some w2 Try.underlying48 Try.underlying21 hr d _ hf⟩
    obtain ⟨V, hl⟩ := hl
    have HB := Lib.hid (below_then HW.out hb)
    clear hb hr
    go_wp2_with fail
    refine (KK.out w2).mono ?_
    rintro e w3 ⟨rfl, rfl⟩
    go_wp2
    go_ret
    exact ⟨rfl, HB.out⟩
theorem rowIs_new {t v : Value} {l : List Int} {W : World} (g : Nat) (hg : g = W.heap.size) (hT : Table W t) (hl : Runes v l W) {b0 b1 b2 b3 c : Nat} {A : Option Addr} (e1 : t = .agg #[.slice (some ⟨b0, 0, none⟩) 74 74, .slice (some ⟨b1, 0, none⟩) 10 10, .slice (some ⟨b2, 0, none⟩) 11 11, .slice (some ⟨b3, 0, none⟩) 42 42]) (e2 : v = .slice A l.length c) :
    RowIs g t v l (W.alloc (.cells #[.slice (some ⟨b0, 0, none⟩) 74 74, .slice (some ⟨b1, 0, none⟩) 10 10, .slice (some ⟨b2, 0, none⟩) 11 11, .slice (some ⟨b3, 0, none⟩) 42 42, .slice A l.length c] 52)) := by
  subst hg
  exact ⟨hT.below (below_one W _), hl.keep (below_one W _), b0, b1, b2, b3, A, c, e1, e2, heap_alloc_new W _⟩
theorem ruled_new {B g : Nat} {t v : Value} {l : List Int} {w0 : World} {e : Ending} {w' : World} (hB : B = w0.heap.size) (hR : RowIs g t v l w0) (h : RulesPost g B w0 e w') : e = .returned (.map (some B)) ∧ ∃ c1 c2 c3, Ruled B g c1 c2 c3 t v l w0 w' := by
  obtain ⟨c1, c2, c3, rfl, hb, h1, h2, h3, hr, q1, q2, q3⟩ := h
  exact ⟨rfl, c1, c2, c3, hB ▸ hb, hB, hR, h1, h2, h3, hr, q1 _, q2 _, q3 _⟩
/-- Nobody ahead of a place misses what it needs. -/
def Good (l : List Int) (k : Nat) : Prop := ∀ j, j < k → Ctx.needs l[j]! = true → Ctx.met l j = true
theorem Good.next {l : List Int} {k : Nat} (h : Good l k) (hx : Ctx.needs l[k]! = true → Ctx.met l k = true) : Good l (k + 1) := fun j hj => by
  by_cases e : j = k
  · subst e; exact hx
  · exact h j (by omega)
set_option maxHeartbeats 8000000 in
set_option maxRecDepth 100000 in
theorem all7_prog (t v : Value) (l : List Int) (w : World) (hT : Table w t) (hl : Runes v l w) (hn : l.length ≤ 1000) :
    Calls Try.prog 12 #[t, v] w fun e w' => e = .returned (.bool (Ctx.all l)) ∧ Below w.heap.size w w' := by
  have hT0 := hT
  have hl0 := hl
  obtain ⟨b0, b1, b2, b3, rfl, -, -, -, -⟩ := hT0
  obtain ⟨A, c, rfl, hc, hx⟩ := hl0.form
  have hB1 := below_one w (.cells #[.slice (some ⟨b0, 0, none⟩) 74 74, .slice (some ⟨b1, 0, none⟩) 10 10, .slice (some ⟨b2, 0, none⟩) 11 11, .slice (some ⟨b3, 0, none⟩) 42 42] 29)
  have hrow := rowIs_new (w.heap.size + 1) (by simp) (hT.below hB1) (hl.keep hB1) (b0 := b0) (b1 := b1) (b2 := b2) (b3 := b3) (c := c) (A := A) rfl rfl
  have hB2 : Below w.heap.size w ((w.alloc (.cells #[.slice (some ⟨b0, 0, none⟩) 74 74, .slice (some ⟨b1, 0, none⟩) 10 10, .slice (some ⟨b2, 0, none⟩) 11 11, .slice (some ⟨b3, 0, none⟩) 42 42] 29)).alloc (.cells #[.slice (some ⟨b0, 0, none⟩) 74 74, .slice (some ⟨b1, 0, none⟩) 10 10, .slice (some ⟨b2, 0, none⟩) 11 11, .slice (some ⟨b3, 0, none⟩) 42 42, .slice A l.length c] 52)) := below_pair _ _ _
  have HX := Lib.hid (fun W (h : Below w.heap.size w W) k (hk : k < l.length) => by
    obtain ⟨ad, e, hb, hcell⟩ := hx k hk
    exact (⟨ad, e, (h.cell (p := ad.add k) (by rw [add_block]; exact hb)).trans hcell⟩ : ∃ ad, A = some ad ∧ W.cell? (ad.add k) = some (.int .i32 l[k]!)))
  have KK := Lib.hid (fun r W => kind_any r W)
  have hra := rules_any (w.heap.size + 1) (w.heap.size + 1 + 1) ((w.alloc (.cells #[.slice (some ⟨b0, 0, none⟩) 74 74, .slice (some ⟨b1, 0, none⟩) 10 10, .slice (some ⟨b2, 0, none⟩) 11 11, .slice (some ⟨b3, 0, none⟩) 42 42] 29)).alloc (.cells #[.slice (some ⟨b0, 0, none⟩) 74 74, .slice (some ⟨b1, 0, none⟩) 10 10, .slice (some ⟨b2, 0, none⟩) 11 11, .slice (some ⟨b3, 0, none⟩) 42 42, .slice A l.length c] 52)) (by simp)
  have HR := Lib.hid (fun e w' h => ruled_new (e := e) (w' := w') (show w.heap.size + 1 + 1 = ((w.alloc (.cells #[.slice (some ⟨b0, 0, none⟩) 74 74, .slice (some ⟨b1, 0, none⟩) 10 10, .slice (some ⟨b2, 0, none⟩) 11 11, .slice (some ⟨b3, 0, none⟩) 42 42] 29)).alloc (.cells #[.slice (some ⟨b0, 0, none⟩) 74 74, .slice (some ⟨b1, 0, none⟩) 10 10, .slice (some ⟨b2, 0, none⟩) 11 11, .slice (some ⟨b3, 0, none⟩) 42 42, .slice A l.length c] 52)).heap.size by simp) hrow h)
  generalize hW0 : (w.alloc (.cells #[.slice (some ⟨b0, 0, none⟩) 74 74, .slice (some ⟨b1, 0, none⟩) 10 10, .slice (some ⟨b2, 0, none⟩) 11 11, .slice (some ⟨b3, 0, none⟩) 42 42] 29)).alloc (.cells #[.slice (some ⟨b0, 0, none⟩) 74 74, .slice (some ⟨b1, 0, none⟩) 10 10, .slice (some ⟨b2, 0, none⟩) 11 11, .slice (some ⟨b3, 0, none⟩) 42 42, .slice A l.length c] 52) = W0 at *
  have HA := Lib.hid hra
  have HB2 := Lib.hid hB2
  have HW0 := Lib.hid hW0
  obtain ⟨r, hr⟩ : ∃ r, r = Ctx.all l := ⟨_, rfl⟩
  rw [← hr]
  have HRes := Lib.hid hr
  have HN := Lib.hid hn
  clear hT hl hx hc hB1 hrow hB2 hra hW0 hr
  go_enter Try.func12, Try.ntmps12
  go_wp2_with fail
  rw [HW0.out]
  refine HA.out.mono ?_
  rintro e w2 hpost
  obtain ⟨rfl, c1, c2, c3, hru⟩ := HR.out e w2 hpost
  have HRu := Lib.hid hru
  have FS := Lib.hid (fun d h => find_some (w.heap.size + 1 + 1) (w.heap.size + 1) c1 c2 c3 (.agg #[.slice (some ⟨b0, 0, none⟩) 74 74, .slice (some ⟨b1, 0, none⟩) 10 10, .slice (some ⟨b2, 0, none⟩) 11 11, .slice (some ⟨b3, 0, none⟩) 42 42]) (.slice A l.length c) l W0 hn (d := d) h)
  clear hpost hru HA HR
  go_wp2
  go_loopg [6, 7, 8, 9, 17] (l.length + 1) (fun gk _ _ _ _ i wr => ∃ k : Nat, k ≤ l.length ∧ i = .int .i64 k ∧ l.length - k < gk ∧ Hid (Good l k ∧ Ruled (w.heap.size + 1 + 1) (w.heap.size + 1) c1 c2 c3 (.agg #[.slice (some ⟨b0, 0, none⟩) 74 74, .slice (some ⟨b1, 0, none⟩) 10 10, .slice (some ⟨b2, 0, none⟩) 11 11, .slice (some ⟨b3, 0, none⟩) 42 42]) (.slice A l.length c) l W0 wr))
  case atStart => exact ⟨0, Nat.zero_le _, rfl, by omega, ⟨fun j hj => absurd hj (Nat.not_lt_zero _), HRu.out⟩⟩
  case round =>
    obtain ⟨k, hk, rfl, hg0, I⟩ := hrel
    by_cases hlt : k < l.length
    · have BW := Lib.hid (below_then HB2.out I.out.2.all)
      obtain ⟨ad, rfl, hcell⟩ := HX.out wr BW.out k hlt
      obtain ⟨x, hxe⟩ : ∃ x, x = l[k]! := ⟨_, rfl⟩
      rw [← hxe] at hcell
      have hnk := needs_kind x
      have hmk : Ctx.needs x = true → Ctx.met l k = ruleOf l k (kindOf x) := fun h => by rw [hxe] at h ⊢; exact met_kind l k h
      have K := KK.out x wr
      generalize kindOf x = d at hnk hmk K
      have HXE := Lib.hid hxe
      have HNK := Lib.hid hnk
      have HMK := Lib.hid hmk
      have K := Lib.hid K
      have hkz : (k : Int) < (l.length : Int) := by omega
      clear hxe hnk hmk
      cases hd : isKind d
      · have hl := look_none wr Try.underlying48 Try.underlying21 (zeroRule wr) I.out.2.rules d (find_none _ _ _ _ hd)
        have I2 := Lib.hid (show Good l (k + 1) from I.out.1.next (fun h => by rw [← HXE.out, HNK.out, hd] at h; cases h))
        clear hd
        go_wp2_with fail
        refine K.out.mono ?_
        rintro e w3 ⟨rfl, rfl⟩
        go_wp2
        go_roundg (l.length - k)
        case measure => omega
        case rel => exact ⟨k + 1, by omega, by go_num, by omega, ⟨I2.out, I.out.2⟩⟩
      · have HD := Lib.hid hd
        clear hd
        have hneed : Hid (Ctx.needs l[k]! = true) := Lib.hid (by rw [← HXE.out, HNK.out, HD.out])
        have hmet : Hid (Ctx.met l k = ruleOf l k d) := Lib.hid (HMK.out (by rw [HNK.out, HD.out]))
        rcases FS.out d HD.out with ⟨i, f, hf, eg, ht⟩ | ⟨i, c', hf, ht⟩
        · have hl := look_some wr Try.underlying48 Try.underlying21 I.out.2.rules d _ hf
          have HC := ht k wr hlt I.out.2
          generalize ruleOf l k d = b at HC hmet
          have HC := Lib.hid HC
          clear hf ht
          cases b
          · have R := Lib.hid (HRes.out.trans (Ctx.all_no hlt hneed.out hmet.out))
            go_wp2_with fail
            refine K.out.mono ?_
            rintro e w3 ⟨rfl, rfl⟩
            go_wp2_with fail
            refine HC.out.mono ?_
            rintro e w4 ⟨rfl, hru4⟩
            have B4 := Lib.hid (below_then HB2.out hru4.all)
            clear hru4 hcell hl
            go_wp2
            go_ret
            exact ⟨by rw [R.out]; rfl, B4.out⟩
          · have I2 := Lib.hid (show Good l (k + 1) from I.out.1.next (fun _ => hmet.out))
            go_wp2_with fail
            refine K.out.mono ?_
            rintro e w3 ⟨rfl, rfl⟩
            go_wp2_with fail
            refine HC.out.mono ?_
            rintro e w4 ⟨rfl, hru4⟩
            have HR4 := Lib.hid hru4
            clear hru4 hcell hl
            go_wp2
            go_roundg (l.length - k)
            case measure => omega
            case rel => exact ⟨k + 1, by omega, by go_num, by omega, ⟨I2.out, HR4.out⟩⟩
        · have hl := look_some wr Try.underlying48 Try.underlying21 I.out.2.rules d _ hf
          have HC := ht k wr hlt I.out.2
          generalize ruleOf l k d = b at HC hmet
          have HC := Lib.hid HC
          clear hf ht
          cases b
          · have R := Lib.hid (HRes.out.trans (Ctx.all_no hlt hneed.out hmet.out))
            go_wp2_with fail
            refine K.out.mono ?_
            rintro e w3 ⟨rfl, rfl⟩
            go_wp2_with fail
            refine HC.out.mono ?_
            rintro e w4 ⟨rfl, hru4⟩
            have B4 := Lib.hid (below_then HB2.out hru4.all)
            clear hru4 hcell hl
            go_wp2
            go_ret
            exact ⟨by rw [R.out]; rfl, B4.out⟩
          · have I2 := Lib.hid (show Good l (k + 1) from I.out.1.next (fun _ => hmet.out))
            go_wp2_with fail
            refine K.out.mono ?_
            rintro e w3 ⟨rfl, rfl⟩
            go_wp2_with fail
            refine HC.out.mono ?_
            rintro e w4 ⟨rfl, hru4⟩
            have HR4 := Lib.hid hru4
            clear hru4 hcell hl
            go_wp2
            go_roundg (l.length - k)
            case measure => omega
            case rel => exact ⟨k + 1, by omega, by go_num, by omega, ⟨I2.out, HR4.out⟩⟩
    · obtain rfl : k = l.length := by omega
      have R := Lib.hid (HRes.out.trans ((Ctx.all_iff l).2 I.out.1))
      have hkz : ¬ (l.length : Int) < (l.length : Int) := by omega
      go_wp2
      go_ret
      exact ⟨by rw [R.out]; rfl, below_then HB2.out I.out.2.all⟩
def EntryIs (B g c1 c2 c3 : Nat) (t v : Value) (l : List Int) (w0 : World) (d : Int) (V : Value) : Prop :=
  (∃ f, V = .func (.func f) #[.pointer (some ⟨g, 0, none⟩)] #[] ∧ (∀ args w, (callFunc f args).run Try.prog w = .ok (.enter f args) w) ∧ Tells B g c1 c2 c3 t v l w0 d f (fun k => #[.pointer (some ⟨g, 0, none⟩), .int .i64 k])) ∨
    (∃ c, V = .func (.func 49) #[] #[.pointer (some ⟨c + 1, 0, none⟩), .pointer (some ⟨c, 0, none⟩), .pointer (some ⟨c + 2, 0, none⟩)] ∧ Tells B g c1 c2 c3 t v l w0 d 49 (fun k => #[.int .i64 k, .pointer (some ⟨c + 1, 0, none⟩), .pointer (some ⟨c, 0, none⟩), .pointer (some ⟨c + 2, 0, none⟩)]))
theorem entry_at {B g c1 c2 c3 : Nat} {t v : Value} {l : List Int} {w0 w : World} (h : Ruled B g c1 c2 c3 t v l w0 w) (hn : l.length ≤ 1000) {d : Int} (hd : isKind d = true) :
    ∃ V, (Instr.lookup 48 (.map (some B)) (.int .i32 d) true).run Try.prog w = .ok (.tuple #[V, .bool true]) w ∧ EntryIs B g c1 c2 c3 t v l w0 d V := by
  rcases find_some B g c1 c2 c3 t v l w0 hn hd with ⟨i, f, hf, eg, ht⟩ | ⟨i, c', hf, ht⟩
  · exact ⟨_, look_some w Try.underlying48 Try.underlying21 h.rules d _ hf, .inl ⟨f, rfl, eg, ht⟩⟩
  · exact ⟨_, look_some w Try.underlying48 Try.underlying21 h.rules d _ hf, .inr ⟨c', rfl, ht⟩⟩
theorem need_out {l : List Int} {i : Int} (h : i < 0 ∨ l.length ≤ i) : Ctx.need l i = 0 := by unfold Ctx.need; rw [if_neg (by omega)]
set_option maxHeartbeats 8000000 in
set_option maxRecDepth 100000 in
theorem need7_prog (t v : Value) (l : List Int) (i : Int) (w : World) (hT : Table w t) (hl : Runes v l w) (hn : l.length ≤ 1000) :
    Calls Try.prog 10 #[t, v, .int .i64 i] w fun e w' => e = .returned (.int .i64 (Ctx.need l i)) ∧ Below w.heap.size w w' := by
  have hT0 := hT
  have hl0 := hl
  obtain ⟨b0, b1, b2, b3, rfl, -, -, -, -⟩ := hT0
  obtain ⟨A, c, rfl, hc, hx⟩ := hl0.form
  by_cases hi0 : i < 0
  · rw [need_out (.inl hi0)]
    clear hT hl hl0 hx
    go_enter Try.func10, Try.ntmps10
    go_wp2
    go_ret
    exact ⟨rfl, below_one _ _⟩
  obtain ⟨k, rfl⟩ : ∃ k : Nat, i = k := ⟨i.toNat, by omega⟩
  by_cases hk : k < l.length
  case neg =>
    rw [need_out (.inr (by omega))]
    have hkz : (l.length : Int) ≤ (k : Int) := by omega
    clear hT hl hl0 hx
    go_enter Try.func10, Try.ntmps10
    go_wp2
    go_ret
    exact ⟨rfl, below_one _ _⟩
  obtain ⟨ad, rfl, hb, hcell⟩ := hx k hk
  obtain ⟨x, hxe⟩ : ∃ x, x = l[k]! := ⟨_, rfl⟩
  rw [← hxe] at hcell
  have hnk := needs_kind x
  have hmk : Ctx.needs x = true → Ctx.met l k = ruleOf l k (kindOf x) := fun h => by rw [hxe] at h ⊢; exact met_kind l k h
  have hne : Ctx.need l k = if Ctx.needs x = true then (if Ctx.met l k then 1 else 2) else 0 := by rw [hxe]; exact Ctx.need_in hk
  have hK := fun W => kind_any x W
  generalize kindOf x = d at hnk hmk hK
  obtain ⟨r, hr⟩ : ∃ r, r = Ctx.need l k := ⟨_, rfl⟩
  rw [← hr] at hne ⊢
  have HNK := Lib.hid hnk
  have HMK := Lib.hid hmk
  have HNE := Lib.hid hne
  have K := Lib.hid hK
  clear hK
  have hB1 := below_one w (.cells #[.slice (some ⟨b0, 0, none⟩) 74 74, .slice (some ⟨b1, 0, none⟩) 10 10, .slice (some ⟨b2, 0, none⟩) 11 11, .slice (some ⟨b3, 0, none⟩) 42 42] 29)
  have hcell' := (hB1.cell (by rw [add_block]; exact hb)).trans hcell
  have hB2 : Below w.heap.size w (((w.alloc (.cells #[.slice (some ⟨b0, 0, none⟩) 74 74, .slice (some ⟨b1, 0, none⟩) 10 10, .slice (some ⟨b2, 0, none⟩) 11 11, .slice (some ⟨b3, 0, none⟩) 42 42] 29)).alloc (.cells #[.slice (some ⟨b0, 0, none⟩) 74 74, .slice (some ⟨b1, 0, none⟩) 10 10, .slice (some ⟨b2, 0, none⟩) 11 11, .slice (some ⟨b3, 0, none⟩) 42 42, .slice (some ad) l.length c] 52)).drew) := (below_pair _ _ _).drew
  have hR : RowIs (w.heap.size + 1) (.agg #[.slice (some ⟨b0, 0, none⟩) 74 74, .slice (some ⟨b1, 0, none⟩) 10 10, .slice (some ⟨b2, 0, none⟩) 11 11, .slice (some ⟨b3, 0, none⟩) 42 42]) (.slice (some ad) l.length c) l (((w.alloc (.cells #[.slice (some ⟨b0, 0, none⟩) 74 74, .slice (some ⟨b1, 0, none⟩) 10 10, .slice (some ⟨b2, 0, none⟩) 11 11, .slice (some ⟨b3, 0, none⟩) 42 42] 29)).alloc (.cells #[.slice (some ⟨b0, 0, none⟩) 74 74, .slice (some ⟨b1, 0, none⟩) 10 10, .slice (some ⟨b2, 0, none⟩) 11 11, .slice (some ⟨b3, 0, none⟩) 42 42, .slice (some ad) l.length c] 52)).drew) := (rowIs_new (w.heap.size + 1) (by simp) (hT.below hB1) (hl.keep hB1) (b0 := b0) (b1 := b1) (b2 := b2) (b3 := b3) (c := c) (A := some ad) rfl rfl).keep (Below.refl _ _).drew
  have hs : (((w.alloc (.cells #[.slice (some ⟨b0, 0, none⟩) 74 74, .slice (some ⟨b1, 0, none⟩) 10 10, .slice (some ⟨b2, 0, none⟩) 11 11, .slice (some ⟨b3, 0, none⟩) 42 42] 29)).alloc (.cells #[.slice (some ⟨b0, 0, none⟩) 74 74, .slice (some ⟨b1, 0, none⟩) 10 10, .slice (some ⟨b2, 0, none⟩) 11 11, .slice (some ⟨b3, 0, none⟩) 42 42, .slice (some ad) l.length c] 52)).drew).heap.size = w.heap.size + 1 + 1 := by simp
  have hx0 := (hB2.cell (p := ad.add k) (by rw [add_block]; exact hb)).trans hcell
  have hC0 : ∀ W, Below (((w.alloc (.cells #[.slice (some ⟨b0, 0, none⟩) 74 74, .slice (some ⟨b1, 0, none⟩) 10 10, .slice (some ⟨b2, 0, none⟩) 11 11, .slice (some ⟨b3, 0, none⟩) 42 42] 29)).alloc (.cells #[.slice (some ⟨b0, 0, none⟩) 74 74, .slice (some ⟨b1, 0, none⟩) 10 10, .slice (some ⟨b2, 0, none⟩) 11 11, .slice (some ⟨b3, 0, none⟩) 42 42, .slice (some ad) l.length c] 52)).drew).heap.size (((w.alloc (.cells #[.slice (some ⟨b0, 0, none⟩) 74 74, .slice (some ⟨b1, 0, none⟩) 10 10, .slice (some ⟨b2, 0, none⟩) 11 11, .slice (some ⟨b3, 0, none⟩) 42 42] 29)).alloc (.cells #[.slice (some ⟨b0, 0, none⟩) 74 74, .slice (some ⟨b1, 0, none⟩) 10 10, .slice (some ⟨b2, 0, none⟩) 11 11, .slice (some ⟨b3, 0, none⟩) 42 42, .slice (some ad) l.length c] 52)).drew) W → W.cell? ⟨w.heap.size, 0, none⟩ = some (.slice (some ⟨b0, 0, none⟩) 74 74) ∧ W.cell? ⟨w.heap.size, 1, none⟩ = some (.slice (some ⟨b1, 0, none⟩) 10 10) ∧ W.cell? ⟨w.heap.size, 2, none⟩ = some (.slice (some ⟨b2, 0, none⟩) 11 11) ∧ W.cell? ⟨w.heap.size, 3, none⟩ = some (.slice (some ⟨b3, 0, none⟩) 42 42) := fun W h => by
    have hz : w.heap.size < (((w.alloc (.cells #[.slice (some ⟨b0, 0, none⟩) 74 74, .slice (some ⟨b1, 0, none⟩) 10 10, .slice (some ⟨b2, 0, none⟩) 11 11, .slice (some ⟨b3, 0, none⟩) 42 42] 29)).alloc (.cells #[.slice (some ⟨b0, 0, none⟩) 74 74, .slice (some ⟨b1, 0, none⟩) 10 10, .slice (some ⟨b2, 0, none⟩) 11 11, .slice (some ⟨b3, 0, none⟩) 42 42, .slice (some ad) l.length c] 52)).drew).heap.size := by simp; omega
    refine ⟨(h.cell (p := ⟨w.heap.size, 0, none⟩) hz).trans ?_, (h.cell (p := ⟨w.heap.size, 1, none⟩) hz).trans ?_, (h.cell (p := ⟨w.heap.size, 2, none⟩) hz).trans ?_, (h.cell (p := ⟨w.heap.size, 3, none⟩) hz).trans ?_⟩ <;> go_simp
  have HB2 := Lib.hid hB2
  have HRow := Lib.hid hR
  have HS := Lib.hid hs
  have HX0 := Lib.hid hx0
  have HC0 := Lib.hid hC0
  have HL := Lib.hid (show (ad.add k).block < (((w.alloc (.cells #[.slice (some ⟨b0, 0, none⟩) 74 74, .slice (some ⟨b1, 0, none⟩) 10 10, .slice (some ⟨b2, 0, none⟩) 11 11, .slice (some ⟨b3, 0, none⟩) 42 42] 29)).alloc (.cells #[.slice (some ⟨b0, 0, none⟩) 74 74, .slice (some ⟨b1, 0, none⟩) 10 10, .slice (some ⟨b2, 0, none⟩) 11 11, .slice (some ⟨b3, 0, none⟩) 42 42, .slice (some ad) l.length c] 52)).drew).heap.size by rw [add_block]; exact Nat.lt_of_lt_of_le hb hB2.size)
  have hkz : (k : Int) < (l.length : Int) := by omega
  have hk0 : ¬ (k : Int) < 0 := by omega
  clear hxe hnk hmk hne hr hB1 hT hl hl0 hx hi0 hB2 hR hs hx0 hC0
  cases hd : isKind d
  · have HD := Lib.hid hd
    have R := Lib.hid (show r = 0 by rw [HNE.out, HNK.out, hd]; rfl)
    clear hd
    go_enter Try.func10, Try.ntmps10
    go_wp2
    go_region_held3 (fun w' => w'.cell? (ad.add k) = some (.int .i32 x) ∧ w'.cell? ⟨w.heap.size, 0, none⟩ = some (.slice (some ⟨b0, 0, none⟩) 74 74) ∧ w'.cell? ⟨w.heap.size, 1, none⟩ = some (.slice (some ⟨b1, 0, none⟩) 10 10) ∧ w'.cell? ⟨w.heap.size, 2, none⟩ = some (.slice (some ⟨b2, 0, none⟩) 11 11) ∧ w'.cell? ⟨w.heap.size, 3, none⟩ = some (.slice (some ⟨b3, 0, none⟩) 42 42)) (go_keep) (first
      | (go_at_call 21; (with_reducible refine (rules_any (w.heap.size + 1) (w.heap.size + 1 + 1) _ HS.out.symm).mono ?_); rintro e w2 hpost; obtain ⟨rfl, c1, c2, c3, hru⟩ := ruled_new HS.out.symm HRow.out hpost; have HRu := Lib.hid hru; have hlk := look_none w2 Try.underlying48 Try.underlying21 (zeroRule w2) hru.rules d (find_none _ _ _ _ HD.out); have x0 := (hru.all.cell (p := ad.add k) HL.out).trans HX0.out; obtain ⟨d0, d1, d2, d3⟩ := HC0.out w2 hru.all; clear hpost hru)
      | (go_at_call 22; (with_reducible refine (K.out _).mono ?_); rintro e w5 ⟨rfl, rfl⟩))
    go_wp2
    go_ret
    exact ⟨by rw [R.out]; rfl, below_then HB2.out HRu.out.all⟩
  · have HD := Lib.hid hd
    have R := Lib.hid (show r = if ruleOf l k d then 1 else 2 by rw [HNE.out, if_pos (by rw [HNK.out, hd]), HMK.out (by rw [HNK.out, hd])])
    clear hd
    go_enter Try.func10, Try.ntmps10
    go_wp2
    go_region_held3 (fun w' => w'.cell? (ad.add k) = some (.int .i32 x) ∧ w'.cell? ⟨w.heap.size, 0, none⟩ = some (.slice (some ⟨b0, 0, none⟩) 74 74) ∧ w'.cell? ⟨w.heap.size, 1, none⟩ = some (.slice (some ⟨b1, 0, none⟩) 10 10) ∧ w'.cell? ⟨w.heap.size, 2, none⟩ = some (.slice (some ⟨b2, 0, none⟩) 11 11) ∧ w'.cell? ⟨w.heap.size, 3, none⟩ = some (.slice (some ⟨b3, 0, none⟩) 42 42)) (go_keep) (first
      | (go_at_call 21; (with_reducible refine (rules_any (w.heap.size + 1) (w.heap.size + 1 + 1) _ HS.out.symm).mono ?_); rintro e w2 hpost; obtain ⟨rfl, c1, c2, c3, hru⟩ := ruled_new HS.out.symm HRow.out hpost; have HRu := Lib.hid hru; obtain ⟨V, hlk, hv⟩ := entry_at hru hn HD.out; have HV := Lib.hid hv; clear hv; have x0 := (hru.all.cell (p := ad.add k) HL.out).trans HX0.out; obtain ⟨d0, d1, d2, d3⟩ := HC0.out w2 hru.all; clear hpost hru)
      | (go_at_call 22; (with_reducible refine (K.out _).mono ?_); rintro e w5 ⟨rfl, rfl⟩))
    rcases HV.out with ⟨f, rfl, eg, ht⟩ | ⟨c', rfl, ht⟩
    · have HC := ht k w2 hk HRu.out
      generalize ruleOf l k d = b at HC R
      have HC := Lib.hid HC
      clear ht
      cases b
      all_goals
        go_wp2_with fail
        refine HC.out.mono ?_
        rintro e w4 ⟨rfl, hru4⟩
        have B4 := Lib.hid (below_then HB2.out hru4.all)
        clear hru4
        go_wp2
        go_ret
        exact ⟨by rw [R.out]; rfl, B4.out⟩
    · have HC := ht k w2 hk HRu.out
      generalize ruleOf l k d = b at HC R
      have HC := Lib.hid HC
      clear ht
      cases b
      all_goals
        go_wp2_with fail
        refine HC.out.mono ?_
        rintro e w4 ⟨rfl, hru4⟩
        have B4 := Lib.hid (below_then HB2.out hru4.all)
        clear hru4
        go_wp2
        go_ret
        exact ⟨by rw [R.out]; rfl, B4.out⟩
theorem ctxOk : CtxOk := ⟨need7_prog, all7_prog, needs7_prog⟩
end Go.Proofs.Ytoekkiodhbejpaa
