/-
  Proved here: the statement UcdSplits, as a call: it answers true at every three numbers. Conditions: none.
-/
import Derived.Test.YtljjddcfaaaaaaaLawsA
namespace Go.Proofs.Ytljjddcfaaaaaaa
open Go.RowKit
set_option maxRecDepth 100000 in
set_option maxHeartbeats 8000000 in
theorem splits_walk (x a b : Int) (w : World) : Calls Try.prog 4 #[.int .i32 x, .int .i32 a, .int .i32 b] w fun e w' => e = .returned (.bool true) ∧ Below w.heap.size w w' := by
  obtain ⟨o, ho⟩ : ∃ o, splitOf x = o := ⟨_, rfl⟩
  obtain ⟨⟨v0, v1, v2, v3, v4⟩, hv⟩ : ∃ y, o.getD default = y := ⟨_, rfl⟩
  obtain ⟨is, hi⟩ : ∃ is, o.isSome = is := ⟨_, rfl⟩
  obtain ⟨p, hp⟩ : ∃ p, pairOf a b = p := ⟨_, rfl⟩
  obtain ⟨q, hq⟩ : ∃ q, p.getD 0 = q := ⟨_, rfl⟩
  obtain ⟨ok, hk⟩ : ∃ ok, p.isSome = ok := ⟨_, rfl⟩
  have HO := Lib.hid ho
  have HV := Lib.hid hv
  have HI := Lib.hid hi
  have HP := Lib.hid hp
  have HQ := Lib.hid hq
  have HK := Lib.hid hk
  clear ho hv hi hp hq hk
  go_enter Try.func4, Try.ntmps4
  go_wp2_with fail
  refine (small_any _).mono ?_
  rintro e ws ⟨rfl, hbs⟩
  have HBS := Lib.hid hbs
  clear hbs
  go_wp2_with fail
  refine (new_any _).mono ?_
  rintro e w1 ⟨tt, rfl, hT, hb1⟩
  have hT' := hT
  obtain ⟨b0, b1, b2, b3, rfl, -, -, -, -⟩ := hT'
  have K1 := Lib.hid (kept_new (w0 := w) (b0 := b0) (b1 := b1) (b2 := b2) (b3 := b3) (HBS.out.trans (hb1.mono HBS.out.size)) hT 28)
  clear hT hb1 HBS
  go_wp2_with fail
  refine (split_at' K1.out HO.out HV.out HI.out).mono ?_
  rintro e w2 ⟨rfl, K2, L2⟩
  obtain ⟨hS, c0, c1, c2, c3⟩ := K2.out.held
  clear K1 L2
  have M2 := Lib.hid (K2.out.alloc (.cells #[.int .i32 v0, .int .i32 v1, .int .i32 v2, .bool v3, .bool v4] 34))
  have R2 := Lib.hid (row5_new w2 v0 v1 v2 v3 v4 34)
  go_wp2_with fail
  refine (refSplit_at M2.out HO.out HV.out HI.out).mono ?_
  rintro e w3 ⟨rfl, K3, L3⟩
  obtain ⟨hS, c0, c1, c2, c3⟩ := K3.out.held
  have R3 := Lib.hid ((R2.out.below L3.out).below (below_one w3 (.cells #[.int .i32 v0, .int .i32 v1, .int .i32 v2, .bool v3, .bool v4] 34)))
  clear K2 L3 M2 R2
  have M3 := Lib.hid (K3.out.alloc (.cells #[.int .i32 v0, .int .i32 v1, .int .i32 v2, .bool v3, .bool v4] 34))
  have Q3 := Lib.hid (row5_new w3 v0 v1 v2 v3 v4 34)
  go_wp2_with fail
  refine (pair_at M3.out HP.out HQ.out HK.out).mono ?_
  rintro e w4 ⟨rfl, K4, L4⟩
  obtain ⟨hS, c0, c1, c2, c3⟩ := K4.out.held
  have R4 := Lib.hid (R3.out.below L4.out)
  have Q4 := Lib.hid (Q3.out.below L4.out)
  clear K3 L4 M3 R3 Q3
  go_wp2_with fail
  refine (refPair_at K4.out HP.out HQ.out HK.out).mono ?_
  rintro e w5 ⟨rfl, K5, L5⟩
  obtain ⟨hS, c0, c1, c2, c3⟩ := K5.out.held
  obtain ⟨hr, r0, r1, r2, r3, r4⟩ := R4.out.below L5.out
  obtain ⟨hq, q0, q1, q2, q3, q4⟩ := Q4.out.below L5.out
  clear K4 L5 R4 Q4
  go_wp2
  go_ret
  exact ⟨rfl, K5.out.below⟩
end Go.Proofs.Ytljjddcfaaaaaaa
