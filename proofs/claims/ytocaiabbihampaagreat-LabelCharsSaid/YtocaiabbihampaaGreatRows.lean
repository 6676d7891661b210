/-
  No cell of these rows narrows 'for every input' (looked for: loops, veiled, ifaces, maps, wideKeys, modest, calm, conditions, laid).
  DERIVED. THE GIVEN ROWS OF THIS SEAT. 5 by the template 'for every input the law returns true; each argument reads behind the call as it read before'; 0 by the template 'total and deterministic' (their statements: YtocaiabbihampaaGreatTotals.lean).
  GIVEN WITH THE SEED: the statements are not yours to turn. If you find one false, say at which input.
  Laid BY PROGRAM, IN A SANDBOX (cutbox-rows.mjs): the forced cells as the released guide's own fill.sh prints them over the translation 0dfebace19f7deb7… (all of the seat's roots in one cut). By AI agents, Wed Nov 11 2026. No macro, syntax, notation, axiom, sorry.
-/
import Derived.Test.YtocaiabbihampaaGreatChecked
import GoSem.Claim
import GoSem.ClaimJoined
import GoSem.ClaimMapViews
import Derived.JoinedTies
import Derived.KernelRfl
namespace Go.Proofs.YtocaiabbihampaaGreat
/- THE CELL 'sum', in the pinned program and in every row, IS THE sha256 OF THE DUMP (.gsa) THAT YtocaiabbihampaaGreatProg.lean LOADS. Nothing in Lean hashes anything: it is a label: what it is worth is what the hold of that sum in a sandbox is worth. -/
noncomputable def Tryz.pinned : Pinned := { name := "ytocaiabbihampaagreat", sum := "0dfebace19f7deb753a52c46ae42747da359cb26ee420a130308484eab78f357", checked := Tryz.checked }
namespace Rows
def none {H : Type} : Left H := { results := [], args := [] }

/-- 'pillarboxlaw08.LabelBack': WHATEVER THE INPUT: true; the input reads as it did. -/
def labelBackSpec : ChangeSpec := { name := "labelBack", fn := fun _ => fun
  | [d] => { results := [.lit (.bool true)], args := [d] }
  | _ => none }
def labelBackRow : OpenClaim := { program := "ytocaiabbihampaagreat", sum := "0dfebace19f7deb753a52c46ae42747da359cb26ee420a130308484eab78f357", func := "pillarbox/pillarboxlaw08.LabelBack", spec := "labelBack", inPlace := ["slices.overlaps[rune]"], unfollowed := true, recurses := true, apart := false }
def LabelBackSaid : Prop := labelBackRow.holds Tryz.pinned (OpenSpec.ofChange labelBackSpec)

/-- ITS FALSE NEIGHBOUR: 'it returns false'. Refute it at one input. -/
def labelBackWrong : ChangeSpec := { name := "labelBack", fn := fun _ => fun
  | [d] => { results := [.lit (.bool false)], args := [d] }
  | _ => none }
def LabelBackWrongFalsely : Prop := labelBackRow.holds Tryz.pinned (OpenSpec.ofChange labelBackWrong)

/-- 'pillarboxlaw08.LabelWide': WHATEVER THE INPUT: true; the input reads as it did. -/
def labelWideSpec : ChangeSpec := { name := "labelWide", fn := fun _ => fun
  | [d] => { results := [.lit (.bool true)], args := [d] }
  | _ => none }
def labelWideRow : OpenClaim := { program := "ytocaiabbihampaagreat", sum := "0dfebace19f7deb753a52c46ae42747da359cb26ee420a130308484eab78f357", func := "pillarbox/pillarboxlaw08.LabelWide", spec := "labelWide", inPlace := ["slices.overlaps[rune]"], unfollowed := true, recurses := true, apart := false }
def LabelWideSaid : Prop := labelWideRow.holds Tryz.pinned (OpenSpec.ofChange labelWideSpec)

/-- ITS FALSE NEIGHBOUR: 'it returns false'. Refute it at one input. -/
def labelWideWrong : ChangeSpec := { name := "labelWide", fn := fun _ => fun
  | [d] => { results := [.lit (.bool false)], args := [d] }
  | _ => none }
def LabelWideWrongFalsely : Prop := labelWideRow.holds Tryz.pinned (OpenSpec.ofChange labelWideWrong)

/-- 'pillarboxlaw08.LabelFold': WHATEVER THE INPUT: true; the input reads as it did. -/
def labelFoldSpec : ChangeSpec := { name := "labelFold", fn := fun _ => fun
  | [d] => { results := [.lit (.bool true)], args := [d] }
  | _ => none }
def labelFoldRow : OpenClaim := { program := "ytocaiabbihampaagreat", sum := "0dfebace19f7deb753a52c46ae42747da359cb26ee420a130308484eab78f357", func := "pillarbox/pillarboxlaw08.LabelFold", spec := "labelFold", inPlace := ["slices.overlaps[rune]"], unfollowed := true, recurses := true, apart := false }
def LabelFoldSaid : Prop := labelFoldRow.holds Tryz.pinned (OpenSpec.ofChange labelFoldSpec)

/-- ITS FALSE NEIGHBOUR: 'it returns false'. Refute it at one input. -/
def labelFoldWrong : ChangeSpec := { name := "labelFold", fn := fun _ => fun
  | [d] => { results := [.lit (.bool false)], args := [d] }
  | _ => none }
def LabelFoldWrongFalsely : Prop := labelFoldRow.holds Tryz.pinned (OpenSpec.ofChange labelFoldWrong)

/-- 'pillarboxlaw08.LabelPlain': WHATEVER THE INPUT: true; the input reads as it did. -/
def labelPlainSpec : ChangeSpec := { name := "labelPlain", fn := fun _ => fun
  | [d] => { results := [.lit (.bool true)], args := [d] }
  | _ => none }
def labelPlainRow : OpenClaim := { program := "ytocaiabbihampaagreat", sum := "0dfebace19f7deb753a52c46ae42747da359cb26ee420a130308484eab78f357", func := "pillarbox/pillarboxlaw08.LabelPlain", spec := "labelPlain", inPlace := ["slices.overlaps[rune]"], unfollowed := true, recurses := true, apart := false }
def LabelPlainSaid : Prop := labelPlainRow.holds Tryz.pinned (OpenSpec.ofChange labelPlainSpec)

/-- ITS FALSE NEIGHBOUR: 'it returns false'. Refute it at one input. -/
def labelPlainWrong : ChangeSpec := { name := "labelPlain", fn := fun _ => fun
  | [d] => { results := [.lit (.bool false)], args := [d] }
  | _ => none }
def LabelPlainWrongFalsely : Prop := labelPlainRow.holds Tryz.pinned (OpenSpec.ofChange labelPlainWrong)

/-- 'pillarboxlaw08.LabelChars': WHATEVER THE INPUT: true; the input reads as it did. -/
def labelCharsSpec : ChangeSpec := { name := "labelChars", fn := fun _ => fun
  | [d] => { results := [.lit (.bool true)], args := [d] }
  | _ => none }
def labelCharsRow : OpenClaim := { program := "ytocaiabbihampaagreat", sum := "0dfebace19f7deb753a52c46ae42747da359cb26ee420a130308484eab78f357", func := "pillarbox/pillarboxlaw08.LabelChars", spec := "labelChars", inPlace := ["slices.overlaps[rune]"], unfollowed := true, recurses := true, apart := false }
def LabelCharsSaid : Prop := labelCharsRow.holds Tryz.pinned (OpenSpec.ofChange labelCharsSpec)

/-- ITS FALSE NEIGHBOUR: 'it returns false'. Refute it at one input. -/
def labelCharsWrong : ChangeSpec := { name := "labelChars", fn := fun _ => fun
  | [d] => { results := [.lit (.bool false)], args := [d] }
  | _ => none }
def LabelCharsWrongFalsely : Prop := labelCharsRow.holds Tryz.pinned (OpenSpec.ofChange labelCharsWrong)

/- THE SECOND FORM. 'bulk': how many values and letters a reading holds, each counted each time it is reached (what is shared counts as often as it is met; a slice's spare places count too). A statement '..UptoSaid' is the law's where the arguments, and the package variables that the reading takes, are together of bulk at most 1048576: NARROWER than '..Said'. Prove '..Said' where nothing that the law and all that it calls make is longer than what came in: it says more and counts as full. Else prove '..UptoSaid'. A law counts once. -/
mutual
def uptoBulk {H : Type} : DataW H → Nat
  | .lit (.string bytes) => bytes.length + 1
  | .lit _ => 1
  | .nil => 1
  | .ptr d => uptoBulk d + 1
  | .slice elems spare => uptoBulkAll elems + uptoBulkAll spare + 1
  | .agg parts => uptoBulkAll parts + 1
  | .iface _ d => uptoBulk d + 1
  | .map entries => uptoBulkEntries entries + 1
  | .held _ => 1
def uptoBulkAll {H : Type} : List (DataW H) → Nat
  | [] => 0
  | d :: r => uptoBulk d + uptoBulkAll r
def uptoBulkEntries {H : Type} : List (Lit × DataW H) → Nat
  | [] => 0
  | x :: r => uptoBulkEntry x + uptoBulkEntries r
def uptoBulkEntry {H : Type} : Lit × DataW H → Nat
  | (.string bytes, d) => bytes.length + uptoBulk d + 1
  | (_, d) => uptoBulk d + 1
 end
def uptoSmall : (H : Type) → List (DataW H) → Bool := fun _ ds => decide (uptoBulkAll ds ≤ 1048576)
def OpenSpec.upto (s : _root_.Go.ChangeSpec) : _root_.Go.OpenSpec := { _root_.Go.OpenSpec.ofChange s with cond := some uptoSmall }

/-- 'pillarboxlaw08.LabelBack', WHERE WHAT IT READS IS OF BULK AT MOST 1048576: true; the input reads as it did. -/
def labelBackUptoRow : OpenClaim := { program := "ytocaiabbihampaagreat", sum := "0dfebace19f7deb753a52c46ae42747da359cb26ee420a130308484eab78f357", func := "pillarbox/pillarboxlaw08.LabelBack", spec := "labelBack", inPlace := ["slices.overlaps[rune]"], unfollowed := true, recurses := true, apart := false, narrowed := true }
def LabelBackUptoSaid : Prop := labelBackUptoRow.holds Tryz.pinned (OpenSpec.upto labelBackSpec)

/-- 'pillarboxlaw08.LabelWide', WHERE WHAT IT READS IS OF BULK AT MOST 1048576: true; the input reads as it did. -/
def labelWideUptoRow : OpenClaim := { program := "ytocaiabbihampaagreat", sum := "0dfebace19f7deb753a52c46ae42747da359cb26ee420a130308484eab78f357", func := "pillarbox/pillarboxlaw08.LabelWide", spec := "labelWide", inPlace := ["slices.overlaps[rune]"], unfollowed := true, recurses := true, apart := false, narrowed := true }
def LabelWideUptoSaid : Prop := labelWideUptoRow.holds Tryz.pinned (OpenSpec.upto labelWideSpec)

/-- 'pillarboxlaw08.LabelFold', WHERE WHAT IT READS IS OF BULK AT MOST 1048576: true; the input reads as it did. -/
def labelFoldUptoRow : OpenClaim := { program := "ytocaiabbihampaagreat", sum := "0dfebace19f7deb753a52c46ae42747da359cb26ee420a130308484eab78f357", func := "pillarbox/pillarboxlaw08.LabelFold", spec := "labelFold", inPlace := ["slices.overlaps[rune]"], unfollowed := true, recurses := true, apart := false, narrowed := true }
def LabelFoldUptoSaid : Prop := labelFoldUptoRow.holds Tryz.pinned (OpenSpec.upto labelFoldSpec)

/-- 'pillarboxlaw08.LabelPlain', WHERE WHAT IT READS IS OF BULK AT MOST 1048576: true; the input reads as it did. -/
def labelPlainUptoRow : OpenClaim := { program := "ytocaiabbihampaagreat", sum := "0dfebace19f7deb753a52c46ae42747da359cb26ee420a130308484eab78f357", func := "pillarbox/pillarboxlaw08.LabelPlain", spec := "labelPlain", inPlace := ["slices.overlaps[rune]"], unfollowed := true, recurses := true, apart := false, narrowed := true }
def LabelPlainUptoSaid : Prop := labelPlainUptoRow.holds Tryz.pinned (OpenSpec.upto labelPlainSpec)

/-- 'pillarboxlaw08.LabelChars', WHERE WHAT IT READS IS OF BULK AT MOST 1048576: true; the input reads as it did. -/
def labelCharsUptoRow : OpenClaim := { program := "ytocaiabbihampaagreat", sum := "0dfebace19f7deb753a52c46ae42747da359cb26ee420a130308484eab78f357", func := "pillarbox/pillarboxlaw08.LabelChars", spec := "labelChars", inPlace := ["slices.overlaps[rune]"], unfollowed := true, recurses := true, apart := false, narrowed := true }
def LabelCharsUptoSaid : Prop := labelCharsUptoRow.holds Tryz.pinned (OpenSpec.upto labelCharsSpec)

end Rows
end Go.Proofs.YtocaiabbihampaaGreat
