/-
  PLAIN: spots: their words: a part as a number, a spot as a value, how many bytes are stepped over, what Place tells. Conditions: as they stand in each.
-/
import Derived.Test.YtegldopmneoenaaDoorFltPlain
import Derived.Test.YtegldopmneoenaaDoorSpotPlain
namespace Go.Proofs.YtegldopmneoenaaDoor
open Go.RowKit
namespace Spot
/-- A part as a number, told by quarters. -/
def part (v : Int) : Nat := if 4 * 1099511627776 ≤ v then 1099511627776 else if 0 < v then (v / 4).toNat else 0
theorem big_is : Flt.quart (4 * 1099511627776) = 4787326403894837248 := by decide +kernel
theorem zero_is : Flt.quart 0 = 0 := by decide +kernel
/-- A spot, as a value. -/
def cx (p : Nat × Nat) : Value := .complex .f64 (Flt.quart (4 * (p.1 : Int))) (Flt.quart (4 * (p.2 : Int)))
theorem part_lt {v : Int} : part v ≤ 1099511627776 := by
  unfold part
  split
  · exact Nat.le_refl _
  · split <;> omega
/-- How many bytes Of steps over. -/
def cut (bs : List UInt8) (k : Int) : Nat := if k < 0 then 0 else if (bs.length : Int) < k then bs.length else k.toNat
theorem cut_le (bs : List UInt8) (k : Int) : cut bs k ≤ bs.length := by
  unfold cut
  split
  · omega
  · split <;> omega
theorem cut_nat {bs : List UInt8} {k : Nat} (h : k ≤ bs.length) : cut bs (k : Int) = k := by
  unfold cut
  rw [if_neg (by omega), if_neg (by omega)]
  omega
theorem part_zero : part 0 = 0 := by decide
theorem cnt_few : ∀ bs : List UInt8, cnt bs ≤ bs.length
  | [] => Nat.le_refl _
  | [_] => Nat.zero_le _
  | a :: b :: t => by
    have := cnt_few (b :: t)
    rw [cnt_two, List.length_cons]
    split <;> omega
/-- What Place tells. -/
def placeV (o : Option Nat) : Value := match o with | some k => .tuple #[.int .i64 (k : Int), .bool true] | none => .tuple #[.int .i64 0, .bool false]
theorem spot_bd (bs : List UInt8) (k : Nat) : (spot bs k).1 ≤ bs.length ∧ (spot bs k).2 ≤ bs.length := by
  have h := steps_few (bs.take k) 0 0
  have h2 : (bs.take k).length ≤ bs.length := List.length_take_le' _ _
  unfold spot
  omega
end Spot
end Go.Proofs.YtegldopmneoenaaDoor
