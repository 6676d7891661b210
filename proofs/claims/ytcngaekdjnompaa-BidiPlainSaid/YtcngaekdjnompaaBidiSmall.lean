/-
  Proved here: the head of the laws of layer 6 comes out true, given what the program's Has, Side, End and Rule tell. Conditions: as they stand in each.
-/
import Derived.Test.YtcngaekdjnompaaBidiRef
import Derived.Test.YtcngaekdjnompaaSmall
namespace Go.Proofs.Ytcngaekdjnompaa
open Go.RowKit
/-- What the program's four functions tell. -/
structure BidiOk : Prop where
  has : ∀ (t v : Value) (l : List Int) (w : World), Table w t → Runes v l w → l.length ≤ 1000 → Calls Try.prog 10 #[t, v] w fun e w' => e = .returned (.bool (Bidi.has l)) ∧ Below w.heap.size w w'
  side : ∀ (t v : Value) (l : List Int) (w : World), Table w t → Runes v l w → l.length ≤ 1000 → Calls Try.prog 12 #[t, v] w fun e w' => e = .returned (.int .i64 (Bidi.side l)) ∧ Below w.heap.size w w'
  stop : ∀ (t v : Value) (l : List Int) (w : World), Table w t → Runes v l w → l.length ≤ 1000 → Calls Try.prog 14 #[t, v] w fun e w' => e = .returned (.int .i64 (Bidi.stop l)) ∧ Below w.heap.size w w'
  rule : ∀ (t v : Value) (l : List Int) (w : World), Table w t → Runes v l w → l.length ≤ 1000 → Calls Try.prog 16 #[t, v] w fun e w' => e = .returned (.bool (Bidi.rule l)) ∧ Below w.heap.size w w'
theorem runes_none (w : World) : Runes (.slice none 0 0) [] w := ⟨none, 0, rfl, Nat.le_refl _, fun _ => rfl, fun h => absurd h (by simp)⟩
theorem BidiOk.has_at (B : BidiOk) (t v : Value) (l : List Int) (w : World) (hT : Table w t) (hl : Runes v l w) (hn : l.length ≤ 1000) {x : Bool} (hx : Bidi.has l = x) : Calls Try.prog 10 #[t, v] w fun e w' => e = .returned (.bool x) ∧ Below w.heap.size w w' := by
  subst hx
  exact B.has t v l w hT hl hn
theorem BidiOk.side_at (B : BidiOk) (t v : Value) (l : List Int) (w : World) (hT : Table w t) (hl : Runes v l w) (hn : l.length ≤ 1000) {x : Int} (hx : Bidi.side l = x) : Calls Try.prog 12 #[t, v] w fun e w' => e = .returned (.int .i64 x) ∧ Below w.heap.size w w' := by
  subst hx
  exact B.side t v l w hT hl hn
theorem BidiOk.stop_at (B : BidiOk) (t v : Value) (l : List Int) (w : World) (hT : Table w t) (hl : Runes v l w) (hn : l.length ≤ 1000) {x : Int} (hx : Bidi.stop l = x) : Calls Try.prog 14 #[t, v] w fun e w' => e = .returned (.int .i64 x) ∧ Below w.heap.size w w' := by
  subst hx
  exact B.stop t v l w hT hl hn
theorem BidiOk.rule_at (B : BidiOk) (t v : Value) (l : List Int) (w : World) (hT : Table w t) (hl : Runes v l w) (hn : l.length ≤ 1000) {x : Bool} (hx : Bidi.rule l = x) : Calls Try.prog 16 #[t, v] w fun e w' => e = .returned (.bool x) ∧ Below w.heap.size w w' := by
  subst hx
  exact B.rule t v l w hT hl hn
set_option maxHeartbeats 8000000 in
set_option maxRecDepth 100000 in
theorem small6_any (B : BidiOk) (w : World) : Calls Try.prog 8 #[] w fun e w' => e = .returned (.bool true) ∧ Below w.heap.size w w' := by
  go_enter Try.func8, Try.ntmps8
  go_wp2_with fail
  refine (new_any _).mono ?_
  rintro e w1 ⟨tt, rfl, hT, hb1⟩
  have hT' := hT
  obtain ⟨b0, b1, b2, b3, rfl, -, -, -, -⟩ := hT'
  have K1 := Lib.hid (kept_new (b0 := b0) (b1 := b1) (b2 := b2) (b3 := b3) hb1 hT 29)
  obtain ⟨hS, c0, c1, c2, c3⟩ := K1.out.held
  clear hT hb1
  go_wp2_with fail
  refine (B.rule_at (.agg #[.slice (some ⟨b0, 0, none⟩) 74 74, .slice (some ⟨b1, 0, none⟩) 10 10, .slice (some ⟨b2, 0, none⟩) 11 11, .slice (some ⟨b3, 0, none⟩) 42 42]) _ [] _ K1.out.table (runes_none _) (by decide) (x := true) (by decide +kernel)).mono ?_
  rintro e w2 ⟨rfl, hb2⟩
  have K2 := Lib.hid (K1.out.next hb2)
  clear hb2 K1 hS c0 c1 c2 c3
  obtain ⟨hS, c0, c1, c2, c3⟩ := K2.out.held
  go_wp2_with fail
  refine (B.rule_at (.agg #[.slice (some ⟨b0, 0, none⟩) 74 74, .slice (some ⟨b1, 0, none⟩) 10 10, .slice (some ⟨b2, 0, none⟩) 11 11, .slice (some ⟨b3, 0, none⟩) 42 42]) _ [1488, 49] _ (K2.out.alloc _).table (runes_lit_at w2 w2.heap.size rfl [1488, 49]) (by decide) (x := true) (by decide +kernel)).mono ?_
  rintro e w3 ⟨rfl, hb3⟩
  have K3 := Lib.hid ((K2.out.alloc _).next hb3)
  clear hb3 K2 hS c0 c1 c2 c3
  obtain ⟨hS, c0, c1, c2, c3⟩ := K3.out.held
  go_wp2_with fail
  refine (B.rule_at (.agg #[.slice (some ⟨b0, 0, none⟩) 74 74, .slice (some ⟨b1, 0, none⟩) 10 10, .slice (some ⟨b2, 0, none⟩) 11 11, .slice (some ⟨b3, 0, none⟩) 42 42]) _ [1488, 97] _ (K3.out.alloc _).table (runes_lit_at w3 w3.heap.size rfl [1488, 97]) (by decide) (x := false) (by decide +kernel)).mono ?_
  rintro e w4 ⟨rfl, hb4⟩
  have K4 := Lib.hid ((K3.out.alloc _).next hb4)
  clear hb4 K3 hS c0 c1 c2 c3
  obtain ⟨hS, c0, c1, c2, c3⟩ := K4.out.held
  go_wp2_with fail
  refine (B.rule_at (.agg #[.slice (some ⟨b0, 0, none⟩) 74 74, .slice (some ⟨b1, 0, none⟩) 10 10, .slice (some ⟨b2, 0, none⟩) 11 11, .slice (some ⟨b3, 0, none⟩) 42 42]) _ [97, 45, 49, 769] _ (K4.out.alloc _).table (runes_lit_at w4 w4.heap.size rfl [97, 45, 49, 769]) (by decide) (x := true) (by decide +kernel)).mono ?_
  rintro e w5 ⟨rfl, hb5⟩
  have K5 := Lib.hid ((K4.out.alloc _).next hb5)
  clear hb5 K4 hS c0 c1 c2 c3
  obtain ⟨hS, c0, c1, c2, c3⟩ := K5.out.held
  go_wp2_with fail
  refine (B.rule_at (.agg #[.slice (some ⟨b0, 0, none⟩) 74 74, .slice (some ⟨b1, 0, none⟩) 10 10, .slice (some ⟨b2, 0, none⟩) 11 11, .slice (some ⟨b3, 0, none⟩) 42 42]) _ [97, 45] _ (K5.out.alloc _).table (runes_lit_at w5 w5.heap.size rfl [97, 45]) (by decide) (x := false) (by decide +kernel)).mono ?_
  rintro e w6 ⟨rfl, hb6⟩
  have K6 := Lib.hid ((K5.out.alloc _).next hb6)
  clear hb6 K5 hS c0 c1 c2 c3
  obtain ⟨hS, c0, c1, c2, c3⟩ := K6.out.held
  go_wp2_with fail
  refine (B.rule_at (.agg #[.slice (some ⟨b0, 0, none⟩) 74 74, .slice (some ⟨b1, 0, none⟩) 10 10, .slice (some ⟨b2, 0, none⟩) 11 11, .slice (some ⟨b3, 0, none⟩) 42 42]) _ [1575, 49, 1633] _ (K6.out.alloc _).table (runes_lit_at w6 w6.heap.size rfl [1575, 49, 1633]) (by decide) (x := false) (by decide +kernel)).mono ?_
  rintro e w7 ⟨rfl, hb7⟩
  have K7 := Lib.hid ((K6.out.alloc _).next hb7)
  clear hb7 K6 hS c0 c1 c2 c3
  obtain ⟨hS, c0, c1, c2, c3⟩ := K7.out.held
  go_wp2_with fail
  refine (B.rule_at (.agg #[.slice (some ⟨b0, 0, none⟩) 74 74, .slice (some ⟨b1, 0, none⟩) 10 10, .slice (some ⟨b2, 0, none⟩) 11 11, .slice (some ⟨b3, 0, none⟩) 42 42]) _ [49] _ (K7.out.alloc _).table (runes_lit_at w7 w7.heap.size rfl [49]) (by decide) (x := false) (by decide +kernel)).mono ?_
  rintro e w8 ⟨rfl, hb8⟩
  have K8 := Lib.hid ((K7.out.alloc _).next hb8)
  clear hb8 K7 hS c0 c1 c2 c3
  obtain ⟨hS, c0, c1, c2, c3⟩ := K8.out.held
  go_wp2_with fail
  refine (B.has_at (.agg #[.slice (some ⟨b0, 0, none⟩) 74 74, .slice (some ⟨b1, 0, none⟩) 10 10, .slice (some ⟨b2, 0, none⟩) 11 11, .slice (some ⟨b3, 0, none⟩) 42 42]) _ [97, 1633] _ (K8.out.alloc _).table (runes_lit_at w8 w8.heap.size rfl [97, 1633]) (by decide) (x := true) (by decide +kernel)).mono ?_
  rintro e w9 ⟨rfl, hb9⟩
  have K9 := Lib.hid ((K8.out.alloc _).next hb9)
  clear hb9 K8 hS c0 c1 c2 c3
  obtain ⟨hS, c0, c1, c2, c3⟩ := K9.out.held
  go_wp2_with fail
  refine (B.has_at (.agg #[.slice (some ⟨b0, 0, none⟩) 74 74, .slice (some ⟨b1, 0, none⟩) 10 10, .slice (some ⟨b2, 0, none⟩) 11 11, .slice (some ⟨b3, 0, none⟩) 42 42]) _ [97] _ (K9.out.alloc _).table (runes_lit_at w9 w9.heap.size rfl [97]) (by decide) (x := false) (by decide +kernel)).mono ?_
  rintro e w10 ⟨rfl, hb10⟩
  have K10 := Lib.hid ((K9.out.alloc _).next hb10)
  clear hb10 K9 hS c0 c1 c2 c3
  obtain ⟨hS, c0, c1, c2, c3⟩ := K10.out.held
  go_wp2_with fail
  refine (B.side_at (.agg #[.slice (some ⟨b0, 0, none⟩) 74 74, .slice (some ⟨b1, 0, none⟩) 10 10, .slice (some ⟨b2, 0, none⟩) 11 11, .slice (some ⟨b3, 0, none⟩) 42 42]) _ [1575] _ (K10.out.alloc _).table (runes_lit_at w10 w10.heap.size rfl [1575]) (by decide) (x := 2) (by decide +kernel)).mono ?_
  rintro e w11 ⟨rfl, hb11⟩
  have K11 := Lib.hid ((K10.out.alloc _).next hb11)
  clear hb11 K10 hS c0 c1 c2 c3
  obtain ⟨hS, c0, c1, c2, c3⟩ := K11.out.held
  go_wp2_with fail
  refine (B.side_at (.agg #[.slice (some ⟨b0, 0, none⟩) 74 74, .slice (some ⟨b1, 0, none⟩) 10 10, .slice (some ⟨b2, 0, none⟩) 11 11, .slice (some ⟨b3, 0, none⟩) 42 42]) _ [] _ K11.out.table (runes_none _) (by decide) (x := 0) (by decide +kernel)).mono ?_
  rintro e w12 ⟨rfl, hb12⟩
  have K12 := Lib.hid (K11.out.next hb12)
  clear hb12 K11 hS c0 c1 c2 c3
  obtain ⟨hS, c0, c1, c2, c3⟩ := K12.out.held
  go_wp2_with fail
  refine (B.stop_at (.agg #[.slice (some ⟨b0, 0, none⟩) 74 74, .slice (some ⟨b1, 0, none⟩) 10 10, .slice (some ⟨b2, 0, none⟩) 11 11, .slice (some ⟨b3, 0, none⟩) 42 42]) _ [97, 769] _ (K12.out.alloc _).table (runes_lit_at w12 w12.heap.size rfl [97, 769]) (by decide) (x := 1) (by decide +kernel)).mono ?_
  rintro e w13 ⟨rfl, hb13⟩
  have K13 := Lib.hid ((K12.out.alloc _).next hb13)
  clear hb13 K12 hS c0 c1 c2 c3
  obtain ⟨hS, c0, c1, c2, c3⟩ := K13.out.held
  go_wp2
  go_ret
  exact ⟨rfl, K13.out.below⟩
end Go.Proofs.Ytcngaekdjnompaa
