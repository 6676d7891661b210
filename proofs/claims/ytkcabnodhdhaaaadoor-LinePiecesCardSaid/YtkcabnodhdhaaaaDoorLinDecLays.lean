/-
  Proved here: the program bears the library's reader of characters as the shelf has it. Conditions: none.
-/
import Derived.Shelf.Spec.DecodeRune
import Derived.Test.YtkcabnodhdhaaaaDoorBase
namespace Go.Proofs.YtkcabnodhdhaaaaDoor
open Go.Shelf
set_option maxRecDepth 100000
def decRen : Go.Shelf.Ren := ⟨fun | 32 => 34 | 49 => 41 | n => n, fun | 0 => 0 | 3 => 3 | 4 => 4 | 5 => 5 | 21 => 21 | 25 => 78 | 30 => 43 | 33 => 71 | 66 => 82 | 68 => 84 | 69 => 85 | n => n, fun | 2 => 1 | 3 => 2 | n => n⟩
theorem dec_lays : Go.Proofs.Lays7.n32 Tryd.prog decRen := {
  mixed := by kernel_rfl
  f32 := Tryd.func34.trans (congrArg some (by kernel_rfl))
  f49 := Tryd.func41.trans (congrArg some (by kernel_rfl))
  t0 := Tryd.underlying0
  a0 := Tryd.isAgg0
  z0 := Tryd.sizeOf0
  v0 := Tryd.zeroValue0
  i0 := by kernel_rfl
  t3 := Tryd.underlying3
  a3 := Tryd.isAgg3
  z3 := Tryd.sizeOf3
  v3 := Tryd.zeroValue3
  i3 := by kernel_rfl
  t4 := Tryd.underlying4
  a4 := Tryd.isAgg4
  z4 := Tryd.sizeOf4
  v4 := Tryd.zeroValue4
  i4 := by kernel_rfl
  t5 := Tryd.underlying5
  a5 := Tryd.isAgg5
  z5 := Tryd.sizeOf5
  v5 := Tryd.zeroValue5
  i5 := by kernel_rfl
  t21 := Tryd.underlying21
  a21 := Tryd.isAgg21
  z21 := Tryd.sizeOf21
  v21 := Tryd.zeroValue21
  i21 := by kernel_rfl
  t25 := Tryd.underlying78
  a25 := Tryd.isAgg78
  z25 := Tryd.sizeOf78
  v25 := Tryd.zeroValue78
  i25 := by kernel_rfl
  t30 := Tryd.underlying43
  a30 := Tryd.isAgg43
  z30 := Tryd.sizeOf43
  v30 := Tryd.zeroValue43
  i30 := by kernel_rfl
  t33 := Tryd.underlying71
  a33 := Tryd.isAgg71
  z33 := Tryd.sizeOf71
  v33 := Tryd.zeroValue71
  i33 := by kernel_rfl
  t66 := Tryd.underlying82
  a66 := Tryd.isAgg82
  z66 := Tryd.sizeOf82
  t68 := Tryd.underlying84
  a68 := Tryd.isAgg84
  z68 := Tryd.sizeOf84
  v68 := Tryd.zeroValue84
  i68 := by kernel_rfl
  t69 := Tryd.underlying85
  a69 := Tryd.isAgg85
  z69 := Tryd.sizeOf85
  v69 := Tryd.zeroValue85
  i69 := by kernel_rfl
  g2 := by kernel_rfl
  g3 := by kernel_rfl }
end Go.Proofs.YtkcabnodhdhaaaaDoor
