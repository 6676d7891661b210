/-
  Proved here: what the laws of layer 11 ask of the program's five functions; that their head comes out true, given that. Conditions: as they stand in each.
-/
import Derived.Test.YtegldopmneoenaaDoorFltPlain
import Derived.Test.YtegldopmneoenaaDoorSpotPlain
import Derived.Test.YtegldopmneoenaaDoorSpotWords
import Derived.Test.YtegldopmneoenaaDoorBase
import Derived.Test.YtegldopmneoenaaDoorSpotTabs
import Derived.Lib.Hide
import Derived.Deep.LoopGhost
import Derived.WalkLawsBesides
namespace Go.Proofs.YtegldopmneoenaaDoor
open Go.RowKit
/-- What the program's five functions tell. -/
structure SpotOk : Prop where
  step : ∀ (u v : Int) (s : ByteArray) (w : World), u.natAbs < 2 ^ 45 → v.natAbs < 2 ^ 45 → s.size ≤ 1000 → Calls Tryd.prog 11 #[.complex .f64 (Flt.quart u) (Flt.quart v), .string s] w fun e w' => e = .returned (Spot.cx (Spot.steps s.data.toList (Spot.part u) (Spot.part v))) ∧ Below w.heap.size w w'
  of : ∀ (s : ByteArray) (k : Int) (w : World), s.size ≤ 1000 → Calls Tryd.prog 13 #[.string s, .int .i64 k] w fun e w' => e = .returned (Spot.cx (Spot.spot s.data.toList (Spot.cut s.data.toList k))) ∧ Below w.heap.size w w'
  place : ∀ (s : ByteArray) (u v : Int) (w : World), s.size ≤ 1000 → u.natAbs < 2 ^ 45 → v.natAbs < 2 ^ 45 → Calls Tryd.prog 9 #[.string s, .complex .f64 (Flt.quart u) (Flt.quart v)] w fun e w' => e = .returned (Spot.placeV (Spot.place s.data.toList u v)) ∧ Below w.heap.size w w'
  text : ∀ (u v : Int) (w : World), Tabs w → u.natAbs < 2 ^ 45 → v.natAbs < 2 ^ 45 → Calls Tryd.prog 17 #[.complex .f64 (Flt.quart u) (Flt.quart v)] w fun e w' => e = .returned (.string ⟨(Spot.text (Spot.part u) (Spot.part v)).toArray⟩) ∧ Below w.heap.size w w'
  lines : ∀ (s : ByteArray) (w : World), Tabs w → s.size ≤ 1000 → Calls Tryd.prog 15 #[.string s] w fun e w' => e = .returned (.int .i64 (Spot.cnt s.data.toList : Nat)) ∧ Below w.heap.size w w'
theorem SpotOk.step_at (B : SpotOk) (u v : Int) (s : ByteArray) (w : World) (hs : s.size ≤ 1000) (hu : u.natAbs < 2 ^ 45) (hv : v.natAbs < 2 ^ 45) {p : Nat × Nat} {x y a b : Nat} (hp : Spot.steps s.data.toList (Spot.part u) (Spot.part v) = p) (hx : Flt.quart u = x) (hy : Flt.quart v = y) (ha : Flt.quart (4 * (p.1 : Int)) = a) (hb : Flt.quart (4 * (p.2 : Int)) = b) :
    Calls Tryd.prog 11 #[.complex .f64 x y, .string s] w fun e w' => e = .returned (.complex .f64 a b) ∧ Below w.heap.size w w' := by
  have := B.step u v s w hu hv hs
  rw [hp] at this
  subst hx hy ha hb
  exact this
theorem SpotOk.of_at (B : SpotOk) (s : ByteArray) (k : Int) (w : World) (hs : s.size ≤ 1000) {p : Nat × Nat} {a b : Nat} (hp : Spot.spot s.data.toList (Spot.cut s.data.toList k) = p) (ha : Flt.quart (4 * (p.1 : Int)) = a) (hb : Flt.quart (4 * (p.2 : Int)) = b) :
    Calls Tryd.prog 13 #[.string s, .int .i64 k] w fun e w' => e = .returned (.complex .f64 a b) ∧ Below w.heap.size w w' := by
  have := B.of s k w hs
  rw [hp] at this
  subst ha hb
  exact this
theorem SpotOk.place_at (B : SpotOk) (s : ByteArray) (u v : Int) (w : World) (hs : s.size ≤ 1000) (hu : u.natAbs < 2 ^ 45) (hv : v.natAbs < 2 ^ 45) {x y : Nat} {k : Nat} (hx : Flt.quart u = x) (hy : Flt.quart v = y) (hk : Spot.place s.data.toList u v = some k) :
    Calls Tryd.prog 9 #[.string s, .complex .f64 x y] w fun e w' => e = .returned (.tuple #[.int .i64 (k : Int), .bool true]) ∧ Below w.heap.size w w' := by
  have := B.place s u v w hs hu hv
  rw [hk] at this
  subst hx hy
  exact this
theorem SpotOk.place_not (B : SpotOk) (s : ByteArray) (u v : Int) (w : World) (hs : s.size ≤ 1000) (hu : u.natAbs < 2 ^ 45) (hv : v.natAbs < 2 ^ 45) {x y : Nat} (hx : Flt.quart u = x) (hy : Flt.quart v = y) (hk : Spot.place s.data.toList u v = none) :
    Calls Tryd.prog 9 #[.string s, .complex .f64 x y] w fun e w' => e = .returned (.tuple #[.int .i64 0, .bool false]) ∧ Below w.heap.size w w' := by
  have := B.place s u v w hs hu hv
  rw [hk] at this
  subst hx hy
  exact this
theorem SpotOk.text_at (B : SpotOk) (u v : Int) (w : World) (hT : Tabs w) (hu : u.natAbs < 2 ^ 45) (hv : v.natAbs < 2 ^ 45) {x y : Nat} {bs : List UInt8} (hx : Flt.quart u = x) (hy : Flt.quart v = y) (ht : Spot.text (Spot.part u) (Spot.part v) = bs) :
    Calls Tryd.prog 17 #[.complex .f64 x y] w fun e w' => e = .returned (.string ⟨bs.toArray⟩) ∧ Below w.heap.size w w' := by
  subst hx hy ht
  exact B.text u v w hT hu hv
theorem SpotOk.lines_at (B : SpotOk) (s : ByteArray) (w : World) (hT : Tabs w) (hs : s.size ≤ 1000) {n : Nat} (hn : Spot.cnt s.data.toList = n) :
    Calls Tryd.prog 15 #[.string s] w fun e w' => e = .returned (.int .i64 (n : Int)) ∧ Below w.heap.size w w' := by
  subst hn
  exact B.lines s w hT hs
namespace Spot
theorem q4 : Flt.quart 4 = 4607182418800017408 := by decide +kernel
theorem q8 : Flt.quart 8 = 4611686018427387904 := by decide +kernel
theorem q12 : Flt.quart 12 = 4613937818241073152 := by decide +kernel
theorem q28 : Flt.quart 28 = 4619567317775286272 := by decide +kernel
theorem q40 : Flt.quart 40 = 4621819117588971520 := by decide +kernel
theorem same_order (v : Int) {x : Nat} (hv : v.natAbs < 2 ^ 53) (hx : Flt.quart v = x) : FloatKind.f64.format.order x x = some .eq := by
  subst hx
  exact (Flt.order_quart hv hv).trans (by rw [Int.compare_eq_eq.2 rfl])
end Spot
set_option maxHeartbeats 8000000 in
set_option maxRecDepth 100000 in
theorem small11_any (B : SpotOk) (w : World) (hT : Tabs w) : Calls Tryd.prog 8 #[] w fun e w' => e = .returned (.bool true) ∧ Below w.heap.size w w' := by
  have T := Lib.hid hT
  clear hT
  have o4 := Spot.same_order 4 (by decide) Spot.q4
  have o8 := Spot.same_order 8 (by decide) Spot.q8
  have o12 := Spot.same_order 12 (by decide) Spot.q12
  have o40 := Spot.same_order 40 (by decide) Spot.q40
  have o0 := Spot.same_order 0 (by decide) Spot.zero_is
  go_enter Tryd.func8, Tryd.ntmps8
  go_wp2_with fail
  with_reducible refine (B.place_at ⟨#[97, 98, 13, 10, 99]⟩ 4 4 _ (by decide) (by decide) (by decide) Spot.q4 Spot.q4 (k := 5) (by decide +kernel)).mono ?_
  rintro e w1 ⟨rfl, hb1⟩
  have B1 := Lib.hid hb1
  clear hb1
  go_wp2_with fail
  with_reducible refine (B.place_not ⟨#[97, 98]⟩ 4 0 _ (by decide) (by decide) (by decide) Spot.q4 Spot.zero_is (by decide +kernel)).mono ?_
  rintro e w2 ⟨rfl, hb2⟩
  have B2 := Lib.hid (below_then B1.out hb2)
  clear hb2
  go_wp2_with fail
  with_reducible refine (B.of_at ⟨#[97, 98, 13, 10, 99]⟩ 5 _ (by decide) (p := (1, 1)) (a := 4607182418800017408) (b := 4607182418800017408) (by decide +kernel) (by decide +kernel) (by decide +kernel)).mono ?_
  rintro e w3 ⟨rfl, hb3⟩
  have B3 := Lib.hid (below_then B2.out hb3)
  clear hb3
  go_wp2_with fail
  with_reducible refine (B.of_at ⟨#[97, 98, 13, 10, 99]⟩ 3 _ (by decide) (p := (0, 3)) (a := 0) (b := 4613937818241073152) (by decide +kernel) (by decide +kernel) (by decide +kernel)).mono ?_
  rintro e w4 ⟨rfl, hb4⟩
  have B4 := Lib.hid (below_then B3.out hb4)
  clear hb4
  go_wp2_with fail
  with_reducible refine (B.of_at ⟨#[97, 98]⟩ (-4) _ (by decide) (p := (0, 0)) (a := 0) (b := 0) (by decide +kernel) (by decide +kernel) (by decide +kernel)).mono ?_
  rintro e w5 ⟨rfl, hb5⟩
  have B5 := Lib.hid (below_then B4.out hb5)
  clear hb5
  go_wp2_with fail
  with_reducible refine (B.text_at 4 4 _ (tabs_keep T.out B5.out) (by decide) (by decide) Spot.q4 Spot.q4 (bs := [50, 58, 50]) (by decide +kernel)).mono ?_
  rintro e w6 ⟨rfl, hb6⟩
  have B6 := Lib.hid (below_then B5.out hb6)
  clear hb6
  go_wp2_with fail
  with_reducible refine (B.step_at 8 28 ⟨#[97, 10, 98]⟩ _ (by decide) (by decide) (by decide) (p := (2, 10)) (a := 4611686018427387904) (b := 4621819117588971520) (by decide +kernel) Spot.q8 Spot.q28 (by decide +kernel) (by decide +kernel)).mono ?_
  rintro e w7 ⟨rfl, hb7⟩
  have B7 := Lib.hid (below_then B6.out hb7)
  clear hb7
  go_wp2_with fail
  with_reducible refine (B.step_at 8 28 ⟨#[13, 10]⟩ _ (by decide) (by decide) (by decide) (p := (3, 0)) (a := 4613937818241073152) (b := 0) (by decide +kernel) Spot.q8 Spot.q28 (by decide +kernel) (by decide +kernel)).mono ?_
  rintro e w8 ⟨rfl, hb8⟩
  have B8 := Lib.hid (below_then B7.out hb8)
  clear hb8
  go_wp2_with fail
  with_reducible refine (B.lines_at ⟨#[13, 10, 13, 10]⟩ _ (tabs_keep T.out B8.out) (by decide) (n := 2) (by decide +kernel)).mono ?_
  rintro e w9 ⟨rfl, hb9⟩
  have B9 := Lib.hid (below_then B8.out hb9)
  clear hb9
  go_wp2
  go_ret
  exact ⟨rfl, B9.out⟩
end Go.Proofs.YtegldopmneoenaaDoor
