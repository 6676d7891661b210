/-
  Proved here: the statement UcdPairs, as a call: it answers true at every three numbers. Conditions: none.
-/
import Derived.Test.YtljjddcfaaaaaaaLawsB
import Derived.Test.YtljjddcfaaaaaaaFacts
namespace Go.Proofs.Ytljjddcfaaaaaaa
open Go.RowKit
set_option maxRecDepth 100000 in
set_option maxHeartbeats 8000000 in
theorem pairs_none_none (x a b : Int) (w : World) (hs : splitOf x = none) (hq : pairOf a b = none) :
    Calls Try.prog 5 #[.int .i32 x, .int .i32 a, .int .i32 b] w fun e w' => e = .returned (.bool true) ∧ Below w.heap.size w w' := by
  have HS := Lib.hid hs
  have HQ := Lib.hid hq
  clear hs hq
  go_enter Try.func5, Try.ntmps5
  go_wp2_with fail
  refine (small_any _).mono ?_
  rintro e ws ⟨rfl, hbs⟩
  have HBS := Lib.hid hbs
  clear hbs
  go_wp2_with fail
  refine (new_any _).mono ?_
  rintro e w1 ⟨tt, rfl, hT, hb1⟩
  have hT' := hT
  obtain ⟨b0, b1, b2, b3, rfl, -, -, -, -⟩ := hT'
  have K1 := Lib.hid (kept_new (w0 := w) (b0 := b0) (b1 := b1) (b2 := b2) (b3 := b3) (HBS.out.trans (hb1.mono HBS.out.size)) hT 28)
  clear hT hb1 HBS
  go_wp2_with fail
  refine (split_at' K1.out HS.out rfl rfl).mono ?_
  rintro e w2 ⟨rfl, K2, L2⟩
  obtain ⟨hS, c0, c1, c2, c3⟩ := K2.out.held
  have M2 := Lib.hid (K2.out.alloc (.cells #[.int .i32 0, .int .i32 0, .int .i32 0, .bool false, .bool false] 34))
  have R2 := Lib.hid (row5_new w2 0 0 0 false false 34)
  clear K1 L2 K2
  go_wp2_with fail
  refine (pair_at M2.out HQ.out rfl rfl).mono ?_
  rintro e w4 ⟨rfl, K4, L4⟩
  obtain ⟨hS, c0, c1, c2, c3⟩ := K4.out.held
  clear M2 L4
  go_wp2
  go_ret
  exact ⟨rfl, K4.out.below⟩
set_option maxRecDepth 100000 in
set_option maxHeartbeats 8000000 in
theorem pairs_none_some (x a b : Int) (w : World) (hs : splitOf x = none) (z u0 : Int) (u3 : Bool) (hq : pairOf a b = some z) (hz : splitOf z = some ⟨u0, a, b, u3, false⟩) :
    Calls Try.prog 5 #[.int .i32 x, .int .i32 a, .int .i32 b] w fun e w' => e = .returned (.bool true) ∧ Below w.heap.size w w' := by
  have HS := Lib.hid hs
  have HQ := Lib.hid hq
  have HZ := Lib.hid hz
  clear hs hq hz
  go_enter Try.func5, Try.ntmps5
  go_wp2_with fail
  refine (small_any _).mono ?_
  rintro e ws ⟨rfl, hbs⟩
  have HBS := Lib.hid hbs
  clear hbs
  go_wp2_with fail
  refine (new_any _).mono ?_
  rintro e w1 ⟨tt, rfl, hT, hb1⟩
  have hT' := hT
  obtain ⟨b0, b1, b2, b3, rfl, -, -, -, -⟩ := hT'
  have K1 := Lib.hid (kept_new (w0 := w) (b0 := b0) (b1 := b1) (b2 := b2) (b3 := b3) (HBS.out.trans (hb1.mono HBS.out.size)) hT 28)
  clear hT hb1 HBS
  go_wp2_with fail
  refine (split_at' K1.out HS.out rfl rfl).mono ?_
  rintro e w2 ⟨rfl, K2, L2⟩
  obtain ⟨hS, c0, c1, c2, c3⟩ := K2.out.held
  have M2 := Lib.hid (K2.out.alloc (.cells #[.int .i32 0, .int .i32 0, .int .i32 0, .bool false, .bool false] 34))
  have R2 := Lib.hid (row5_new w2 0 0 0 false false 34)
  clear K1 L2 K2
  go_wp2_with fail
  refine (pair_at M2.out HQ.out rfl rfl).mono ?_
  rintro e w4 ⟨rfl, K4, L4⟩
  obtain ⟨hS, c0, c1, c2, c3⟩ := K4.out.held
  clear M2 L4
  go_wp2_with fail
  refine (split_at' K4.out HZ.out rfl rfl).mono ?_
  rintro e w5 ⟨rfl, K5, L5⟩
  obtain ⟨hS, c0, c1, c2, c3⟩ := K5.out.held
  clear K4 L5
  go_wp2
  go_ret
  exact ⟨rfl, K5.out.below.alloc K5.out.below.size _⟩
set_option maxRecDepth 100000 in
set_option maxHeartbeats 8000000 in
theorem pairs_out_none (x a b : Int) (w : World) (v0 v1 v2 : Int) (v3 : Bool) (hs : splitOf x = some ⟨v0, v1, v2, v3, true⟩) (hq : pairOf a b = none) :
    Calls Try.prog 5 #[.int .i32 x, .int .i32 a, .int .i32 b] w fun e w' => e = .returned (.bool true) ∧ Below w.heap.size w w' := by
  have HS := Lib.hid hs
  have HQ := Lib.hid hq
  clear hs hq
  go_enter Try.func5, Try.ntmps5
  go_wp2_with fail
  refine (small_any _).mono ?_
  rintro e ws ⟨rfl, hbs⟩
  have HBS := Lib.hid hbs
  clear hbs
  go_wp2_with fail
  refine (new_any _).mono ?_
  rintro e w1 ⟨tt, rfl, hT, hb1⟩
  have hT' := hT
  obtain ⟨b0, b1, b2, b3, rfl, -, -, -, -⟩ := hT'
  have K1 := Lib.hid (kept_new (w0 := w) (b0 := b0) (b1 := b1) (b2 := b2) (b3 := b3) (HBS.out.trans (hb1.mono HBS.out.size)) hT 28)
  clear hT hb1 HBS
  go_wp2_with fail
  refine (split_at' K1.out HS.out rfl rfl).mono ?_
  rintro e w2 ⟨rfl, K2, L2⟩
  obtain ⟨hS, c0, c1, c2, c3⟩ := K2.out.held
  have M2 := Lib.hid (K2.out.alloc (.cells #[.int .i32 v0, .int .i32 v1, .int .i32 v2, .bool v3, .bool true] 34))
  have R2 := Lib.hid (row5_new w2 v0 v1 v2 v3 true 34)
  clear K1 L2 K2
  go_wp2_with fail
  refine (pair_at M2.out HQ.out rfl rfl).mono ?_
  rintro e w4 ⟨rfl, K4, L4⟩
  obtain ⟨hS, c0, c1, c2, c3⟩ := K4.out.held
  clear M2 L4
  go_wp2
  go_ret
  exact ⟨rfl, K4.out.below⟩
set_option maxRecDepth 100000 in
set_option maxHeartbeats 8000000 in
theorem pairs_out_some (x a b : Int) (w : World) (v0 v1 v2 : Int) (v3 : Bool) (hs : splitOf x = some ⟨v0, v1, v2, v3, true⟩) (z u0 : Int) (u3 : Bool) (hq : pairOf a b = some z) (hz : splitOf z = some ⟨u0, a, b, u3, false⟩) :
    Calls Try.prog 5 #[.int .i32 x, .int .i32 a, .int .i32 b] w fun e w' => e = .returned (.bool true) ∧ Below w.heap.size w w' := by
  have HS := Lib.hid hs
  have HQ := Lib.hid hq
  have HZ := Lib.hid hz
  clear hs hq hz
  go_enter Try.func5, Try.ntmps5
  go_wp2_with fail
  refine (small_any _).mono ?_
  rintro e ws ⟨rfl, hbs⟩
  have HBS := Lib.hid hbs
  clear hbs
  go_wp2_with fail
  refine (new_any _).mono ?_
  rintro e w1 ⟨tt, rfl, hT, hb1⟩
  have hT' := hT
  obtain ⟨b0, b1, b2, b3, rfl, -, -, -, -⟩ := hT'
  have K1 := Lib.hid (kept_new (w0 := w) (b0 := b0) (b1 := b1) (b2 := b2) (b3 := b3) (HBS.out.trans (hb1.mono HBS.out.size)) hT 28)
  clear hT hb1 HBS
  go_wp2_with fail
  refine (split_at' K1.out HS.out rfl rfl).mono ?_
  rintro e w2 ⟨rfl, K2, L2⟩
  obtain ⟨hS, c0, c1, c2, c3⟩ := K2.out.held
  have M2 := Lib.hid (K2.out.alloc (.cells #[.int .i32 v0, .int .i32 v1, .int .i32 v2, .bool v3, .bool true] 34))
  have R2 := Lib.hid (row5_new w2 v0 v1 v2 v3 true 34)
  clear K1 L2 K2
  go_wp2_with fail
  refine (pair_at M2.out HQ.out rfl rfl).mono ?_
  rintro e w4 ⟨rfl, K4, L4⟩
  obtain ⟨hS, c0, c1, c2, c3⟩ := K4.out.held
  clear M2 L4
  go_wp2_with fail
  refine (split_at' K4.out HZ.out rfl rfl).mono ?_
  rintro e w5 ⟨rfl, K5, L5⟩
  obtain ⟨hS, c0, c1, c2, c3⟩ := K5.out.held
  clear K4 L5
  go_wp2
  go_ret
  exact ⟨rfl, K5.out.below.alloc K5.out.below.size _⟩
set_option maxRecDepth 100000 in
set_option maxHeartbeats 8000000 in
theorem pairs_in_none (x a b : Int) (w : World) (v0 v1 v2 : Int) (hs : splitOf x = some ⟨v0, v1, v2, false, false⟩) (hp : pairOf v1 v2 = some x) (h2 : v2 ≠ 0) (hq : pairOf a b = none) :
    Calls Try.prog 5 #[.int .i32 x, .int .i32 a, .int .i32 b] w fun e w' => e = .returned (.bool true) ∧ Below w.heap.size w w' := by
  have HS := Lib.hid hs
  have HQ := Lib.hid hq
  have HP := Lib.hid hp
  have h2b : (v2 == 0) = false := by simpa using h2
  clear hs hq hp h2
  go_enter Try.func5, Try.ntmps5
  go_wp2_with fail
  refine (small_any _).mono ?_
  rintro e ws ⟨rfl, hbs⟩
  have HBS := Lib.hid hbs
  clear hbs
  go_wp2_with fail
  refine (new_any _).mono ?_
  rintro e w1 ⟨tt, rfl, hT, hb1⟩
  have hT' := hT
  obtain ⟨b0, b1, b2, b3, rfl, -, -, -, -⟩ := hT'
  have K1 := Lib.hid (kept_new (w0 := w) (b0 := b0) (b1 := b1) (b2 := b2) (b3 := b3) (HBS.out.trans (hb1.mono HBS.out.size)) hT 28)
  clear hT hb1 HBS
  go_wp2_with fail
  refine (split_at' K1.out HS.out rfl rfl).mono ?_
  rintro e w2 ⟨rfl, K2, L2⟩
  obtain ⟨hS, c0, c1, c2, c3⟩ := K2.out.held
  have M2 := Lib.hid (K2.out.alloc (.cells #[.int .i32 v0, .int .i32 v1, .int .i32 v2, .bool false, .bool false] 34))
  have R2 := Lib.hid (row5_new w2 v0 v1 v2 false false 34)
  clear K1 L2 K2
  go_wp2_with fail
  refine (pair_at M2.out HP.out rfl rfl).mono ?_
  rintro e w3 ⟨rfl, K3, L3⟩
  obtain ⟨hS, c0, c1, c2, c3⟩ := K3.out.held
  obtain ⟨hr, r0, r1, r2, r3, r4⟩ := R2.out.below L3.out
  clear M2 R2 L3
  go_wp2_with fail
  refine (pair_at K3.out HQ.out rfl rfl).mono ?_
  rintro e w4 ⟨rfl, K4, L4⟩
  obtain ⟨hS, c0, c1, c2, c3⟩ := K4.out.held
  clear K3 L4
  go_wp2
  go_ret
  exact ⟨rfl, K4.out.below⟩
set_option maxRecDepth 100000 in
set_option maxHeartbeats 8000000 in
theorem pairs_in_some (x a b : Int) (w : World) (v0 v1 v2 : Int) (hs : splitOf x = some ⟨v0, v1, v2, false, false⟩) (hp : pairOf v1 v2 = some x) (h2 : v2 ≠ 0) (z u0 : Int) (u3 : Bool) (hq : pairOf a b = some z) (hz : splitOf z = some ⟨u0, a, b, u3, false⟩) :
    Calls Try.prog 5 #[.int .i32 x, .int .i32 a, .int .i32 b] w fun e w' => e = .returned (.bool true) ∧ Below w.heap.size w w' := by
  have HS := Lib.hid hs
  have HQ := Lib.hid hq
  have HP := Lib.hid hp
  have h2b : (v2 == 0) = false := by simpa using h2
  have HZ := Lib.hid hz
  clear hs hq hp h2 hz
  go_enter Try.func5, Try.ntmps5
  go_wp2_with fail
  refine (small_any _).mono ?_
  rintro e ws ⟨rfl, hbs⟩
  have HBS := Lib.hid hbs
  clear hbs
  go_wp2_with fail
  refine (new_any _).mono ?_
  rintro e w1 ⟨tt, rfl, hT, hb1⟩
  have hT' := hT
  obtain ⟨b0, b1, b2, b3, rfl, -, -, -, -⟩ := hT'
  have K1 := Lib.hid (kept_new (w0 := w) (b0 := b0) (b1 := b1) (b2 := b2) (b3 := b3) (HBS.out.trans (hb1.mono HBS.out.size)) hT 28)
  clear hT hb1 HBS
  go_wp2_with fail
  refine (split_at' K1.out HS.out rfl rfl).mono ?_
  rintro e w2 ⟨rfl, K2, L2⟩
  obtain ⟨hS, c0, c1, c2, c3⟩ := K2.out.held
  have M2 := Lib.hid (K2.out.alloc (.cells #[.int .i32 v0, .int .i32 v1, .int .i32 v2, .bool false, .bool false] 34))
  have R2 := Lib.hid (row5_new w2 v0 v1 v2 false false 34)
  clear K1 L2 K2
  go_wp2_with fail
  refine (pair_at M2.out HP.out rfl rfl).mono ?_
  rintro e w3 ⟨rfl, K3, L3⟩
  obtain ⟨hS, c0, c1, c2, c3⟩ := K3.out.held
  obtain ⟨hr, r0, r1, r2, r3, r4⟩ := R2.out.below L3.out
  clear M2 R2 L3
  go_wp2_with fail
  refine (pair_at K3.out HQ.out rfl rfl).mono ?_
  rintro e w4 ⟨rfl, K4, L4⟩
  obtain ⟨hS, c0, c1, c2, c3⟩ := K4.out.held
  clear K3 L4
  go_wp2_with fail
  refine (split_at' K4.out HZ.out rfl rfl).mono ?_
  rintro e w5 ⟨rfl, K5, L5⟩
  obtain ⟨hS, c0, c1, c2, c3⟩ := K5.out.held
  clear K4 L5
  go_wp2
  go_ret
  exact ⟨rfl, K5.out.below.alloc K5.out.below.size _⟩
theorem pairs_walk (x a b : Int) (w : World) : Calls Try.prog 5 #[.int .i32 x, .int .i32 a, .int .i32 b] w fun e w' => e = .returned (.bool true) ∧ Below w.heap.size w w' := by
  cases hs : splitOf x with
  | none =>
    cases hq : pairOf a b with
    | none => exact pairs_none_none x a b w hs hq
    | some z =>
      obtain ⟨⟨u0, u1, u2, u3, u4⟩, hz, h1, h2, h4⟩ := pair_split hq
      simp only at h1 h2 h4
      subst h1 h2 h4
      exact pairs_none_some x _ _ w hs z u0 u3 hq hz
  | some y =>
    obtain ⟨v0, v1, v2, v3, v4⟩ := y
    cases v4 with
    | true =>
      cases hq : pairOf a b with
      | none => exact pairs_out_none x a b w v0 v1 v2 v3 hs hq
      | some z =>
        obtain ⟨⟨u0, u1, u2, u3, u4⟩, hz, h1, h2, h4⟩ := pair_split hq
        simp only at h1 h2 h4
        subst h1 h2 h4
        exact pairs_out_some x _ _ w v0 v1 v2 v3 hs z u0 u3 hq hz
    | false =>
      obtain ⟨hp, hn, hsoft⟩ := split_pair hs rfl
      simp only at hp hn hsoft
      subst hsoft
      cases hq : pairOf a b with
      | none => exact pairs_in_none x a b w v0 v1 v2 hs hp hn hq
      | some z =>
        obtain ⟨⟨u0, u1, u2, u3, u4⟩, hz, h1, h2, h4⟩ := pair_split hq
        simp only at h1 h2 h4
        subst h1 h2 h4
        exact pairs_in_some x _ _ w v0 v1 v2 hs hp hn z u0 u3 hq hz
end Go.Proofs.Ytljjddcfaaaaaaa
