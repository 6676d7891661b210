/-
  No cell of these rows narrows 'for every input' (looked for: loops, veiled, ifaces, maps, wideKeys, modest, calm, conditions, laid).
  DERIVED. THE GIVEN ROWS OF THIS SEAT. 5 by the template 'for every input the law returns true; each argument reads behind the call as it read before'; 0 by the template 'total and deterministic' (their statements: YtmbammhkkcnoaaaGreatTotals.lean).
  GIVEN WITH THE SEED: the statements are not yours to turn. If you find one false, say at which input.
  Laid BY PROGRAM, IN A SANDBOX (cutbox-rows.mjs): the forced cells as the released guide's own fill.sh prints them over the translation 55f3482bf8fb4434… (all of the seat's roots in one cut). By AI agents, Wed Nov 11 2026. No macro, syntax, notation, axiom, sorry.
-/
import Derived.Test.YtmbammhkkcnoaaaGreatChecked
import GoSem.Claim
import GoSem.ClaimJoined
import GoSem.ClaimMapViews
import Derived.JoinedTies
import Derived.KernelRfl
namespace Go.Proofs.YtmbammhkkcnoaaaGreat
/- THE CELL 'sum', in the pinned program and in every row, IS THE sha256 OF THE DUMP (.gsa) THAT YtmbammhkkcnoaaaGreatProg.lean LOADS. Nothing in Lean hashes anything: it is a label: what it is worth is what the hold of that sum in a sandbox is worth. -/
noncomputable def Tryz.pinned : Pinned := { name := "ytmbammhkkcnoaaagreat", sum := "55f3482bf8fb443466035e062e296ef59169aa29d56e86517643195b1eb860f2", checked := Tryz.checked }
namespace Rows
def none {H : Type} : Left H := { results := [], args := [] }

/-- 'pillarboxlaw10.PrecisTells': WHATEVER THE INPUT: true; the input reads as it did. -/
def precisTellsSpec : ChangeSpec := { name := "precisTells", fn := fun _ => fun
  | [d1, d2, d3] => { results := [.lit (.bool true)], args := [d1, d2, d3] }
  | _ => none }
def precisTellsRow : OpenClaim := { program := "ytmbammhkkcnoaaagreat", sum := "55f3482bf8fb443466035e062e296ef59169aa29d56e86517643195b1eb860f2", func := "pillarbox/pillarboxlaw10.PrecisTells", spec := "precisTells", unfollowed := true, recurses := true, apart := false }
def PrecisTellsSaid : Prop := precisTellsRow.holds Tryz.pinned (OpenSpec.ofChange precisTellsSpec)

/-- ITS FALSE NEIGHBOUR: 'it returns false'. Refute it at one input. -/
def precisTellsWrong : ChangeSpec := { name := "precisTells", fn := fun _ => fun
  | [d1, d2, d3] => { results := [.lit (.bool false)], args := [d1, d2, d3] }
  | _ => none }
def PrecisTellsWrongFalsely : Prop := precisTellsRow.holds Tryz.pinned (OpenSpec.ofChange precisTellsWrong)

/-- 'pillarboxlaw10.PrecisBack': WHATEVER THE INPUT: true; the input reads as it did. -/
def precisBackSpec : ChangeSpec := { name := "precisBack", fn := fun _ => fun
  | [d] => { results := [.lit (.bool true)], args := [d] }
  | _ => none }
def precisBackRow : OpenClaim := { program := "ytmbammhkkcnoaaagreat", sum := "55f3482bf8fb443466035e062e296ef59169aa29d56e86517643195b1eb860f2", func := "pillarbox/pillarboxlaw10.PrecisBack", spec := "precisBack", unfollowed := true, recurses := true, apart := false }
def PrecisBackSaid : Prop := precisBackRow.holds Tryz.pinned (OpenSpec.ofChange precisBackSpec)

/-- ITS FALSE NEIGHBOUR: 'it returns false'. Refute it at one input. -/
def precisBackWrong : ChangeSpec := { name := "precisBack", fn := fun _ => fun
  | [d] => { results := [.lit (.bool false)], args := [d] }
  | _ => none }
def PrecisBackWrongFalsely : Prop := precisBackRow.holds Tryz.pinned (OpenSpec.ofChange precisBackWrong)

/-- 'pillarboxlaw10.PrecisPlain': WHATEVER THE INPUT: true; the input reads as it did. -/
def precisPlainSpec : ChangeSpec := { name := "precisPlain", fn := fun _ => fun
  | [d] => { results := [.lit (.bool true)], args := [d] }
  | _ => none }
def precisPlainRow : OpenClaim := { program := "ytmbammhkkcnoaaagreat", sum := "55f3482bf8fb443466035e062e296ef59169aa29d56e86517643195b1eb860f2", func := "pillarbox/pillarboxlaw10.PrecisPlain", spec := "precisPlain", unfollowed := true, recurses := true, apart := false }
def PrecisPlainSaid : Prop := precisPlainRow.holds Tryz.pinned (OpenSpec.ofChange precisPlainSpec)

/-- ITS FALSE NEIGHBOUR: 'it returns false'. Refute it at one input. -/
def precisPlainWrong : ChangeSpec := { name := "precisPlain", fn := fun _ => fun
  | [d] => { results := [.lit (.bool false)], args := [d] }
  | _ => none }
def PrecisPlainWrongFalsely : Prop := precisPlainRow.holds Tryz.pinned (OpenSpec.ofChange precisPlainWrong)

/-- 'pillarboxlaw10.PrecisLabels': WHATEVER THE INPUT: true; the input reads as it did. -/
def precisLabelsSpec : ChangeSpec := { name := "precisLabels", fn := fun _ => fun
  | [d] => { results := [.lit (.bool true)], args := [d] }
  | _ => none }
def precisLabelsRow : OpenClaim := { program := "ytmbammhkkcnoaaagreat", sum := "55f3482bf8fb443466035e062e296ef59169aa29d56e86517643195b1eb860f2", func := "pillarbox/pillarboxlaw10.PrecisLabels", spec := "precisLabels", unfollowed := true, recurses := true, apart := false }
def PrecisLabelsSaid : Prop := precisLabelsRow.holds Tryz.pinned (OpenSpec.ofChange precisLabelsSpec)

/-- ITS FALSE NEIGHBOUR: 'it returns false'. Refute it at one input. -/
def precisLabelsWrong : ChangeSpec := { name := "precisLabels", fn := fun _ => fun
  | [d] => { results := [.lit (.bool false)], args := [d] }
  | _ => none }
def PrecisLabelsWrongFalsely : Prop := precisLabelsRow.holds Tryz.pinned (OpenSpec.ofChange precisLabelsWrong)

/-- 'pillarboxlaw10.PrecisBlank': WHATEVER THE INPUT: true; the input reads as it did. -/
def precisBlankSpec : ChangeSpec := { name := "precisBlank", fn := fun _ => fun
  | [d1, d2, d3] => { results := [.lit (.bool true)], args := [d1, d2, d3] }
  | _ => none }
def precisBlankRow : OpenClaim := { program := "ytmbammhkkcnoaaagreat", sum := "55f3482bf8fb443466035e062e296ef59169aa29d56e86517643195b1eb860f2", func := "pillarbox/pillarboxlaw10.PrecisBlank", spec := "precisBlank", unfollowed := true, recurses := true, apart := false }
def PrecisBlankSaid : Prop := precisBlankRow.holds Tryz.pinned (OpenSpec.ofChange precisBlankSpec)

/-- ITS FALSE NEIGHBOUR: 'it returns false'. Refute it at one input. -/
def precisBlankWrong : ChangeSpec := { name := "precisBlank", fn := fun _ => fun
  | [d1, d2, d3] => { results := [.lit (.bool false)], args := [d1, d2, d3] }
  | _ => none }
def PrecisBlankWrongFalsely : Prop := precisBlankRow.holds Tryz.pinned (OpenSpec.ofChange precisBlankWrong)

/- THE SECOND FORM. 'bulk': how many values and letters a reading holds, each counted each time it is reached (what is shared counts as often as it is met; a slice's spare places count too). A statement '..UptoSaid' is the law's where the arguments, and the package variables that the reading takes, are together of bulk at most 1048576: NARROWER than '..Said'. Prove '..Said' where nothing that the law and all that it calls make is longer than what came in: it says more and counts as full. Else prove '..UptoSaid'. A law counts once. -/
mutual
def uptoBulk {H : Type} : DataW H → Nat
  | .lit (.string bytes) => bytes.length + 1
  | .lit _ => 1
  | .nil => 1
  | .ptr d => uptoBulk d + 1
  | .slice elems spare => uptoBulkAll elems + uptoBulkAll spare + 1
  | .agg parts => uptoBulkAll parts + 1
  | .iface _ d => uptoBulk d + 1
  | .map entries => uptoBulkEntries entries + 1
  | .held _ => 1
def uptoBulkAll {H : Type} : List (DataW H) → Nat
  | [] => 0
  | d :: r => uptoBulk d + uptoBulkAll r
def uptoBulkEntries {H : Type} : List (Lit × DataW H) → Nat
  | [] => 0
  | x :: r => uptoBulkEntry x + uptoBulkEntries r
def uptoBulkEntry {H : Type} : Lit × DataW H → Nat
  | (.string bytes, d) => bytes.length + uptoBulk d + 1
  | (_, d) => uptoBulk d + 1
 end
def uptoSmall : (H : Type) → List (DataW H) → Bool := fun _ ds => decide (uptoBulkAll ds ≤ 1048576)
def OpenSpec.upto (s : _root_.Go.ChangeSpec) : _root_.Go.OpenSpec := { _root_.Go.OpenSpec.ofChange s with cond := some uptoSmall }

/-- 'pillarboxlaw10.PrecisTells', WHERE WHAT IT READS IS OF BULK AT MOST 1048576: true; the input reads as it did. -/
def precisTellsUptoRow : OpenClaim := { program := "ytmbammhkkcnoaaagreat", sum := "55f3482bf8fb443466035e062e296ef59169aa29d56e86517643195b1eb860f2", func := "pillarbox/pillarboxlaw10.PrecisTells", spec := "precisTells", unfollowed := true, recurses := true, apart := false, narrowed := true }
def PrecisTellsUptoSaid : Prop := precisTellsUptoRow.holds Tryz.pinned (OpenSpec.upto precisTellsSpec)

/-- 'pillarboxlaw10.PrecisBack', WHERE WHAT IT READS IS OF BULK AT MOST 1048576: true; the input reads as it did. -/
def precisBackUptoRow : OpenClaim := { program := "ytmbammhkkcnoaaagreat", sum := "55f3482bf8fb443466035e062e296ef59169aa29d56e86517643195b1eb860f2", func := "pillarbox/pillarboxlaw10.PrecisBack", spec := "precisBack", unfollowed := true, recurses := true, apart := false, narrowed := true }
def PrecisBackUptoSaid : Prop := precisBackUptoRow.holds Tryz.pinned (OpenSpec.upto precisBackSpec)

/-- 'pillarboxlaw10.PrecisPlain', WHERE WHAT IT READS IS OF BULK AT MOST 1048576: true; the input reads as it did. -/
def precisPlainUptoRow : OpenClaim := { program := "ytmbammhkkcnoaaagreat", sum := "55f3482bf8fb443466035e062e296ef59169aa29d56e86517643195b1eb860f2", func := "pillarbox/pillarboxlaw10.PrecisPlain", spec := "precisPlain", unfollowed := true, recurses := true, apart := false, narrowed := true }
def PrecisPlainUptoSaid : Prop := precisPlainUptoRow.holds Tryz.pinned (OpenSpec.upto precisPlainSpec)

/-- 'pillarboxlaw10.PrecisLabels', WHERE WHAT IT READS IS OF BULK AT MOST 1048576: true; the input reads as it did. -/
def precisLabelsUptoRow : OpenClaim := { program := "ytmbammhkkcnoaaagreat", sum := "55f3482bf8fb443466035e062e296ef59169aa29d56e86517643195b1eb860f2", func := "pillarbox/pillarboxlaw10.PrecisLabels", spec := "precisLabels", unfollowed := true, recurses := true, apart := false, narrowed := true }
def PrecisLabelsUptoSaid : Prop := precisLabelsUptoRow.holds Tryz.pinned (OpenSpec.upto precisLabelsSpec)

/-- 'pillarboxlaw10.PrecisBlank', WHERE WHAT IT READS IS OF BULK AT MOST 1048576: true; the input reads as it did. -/
def precisBlankUptoRow : OpenClaim := { program := "ytmbammhkkcnoaaagreat", sum := "55f3482bf8fb443466035e062e296ef59169aa29d56e86517643195b1eb860f2", func := "pillarbox/pillarboxlaw10.PrecisBlank", spec := "precisBlank", unfollowed := true, recurses := true, apart := false, narrowed := true }
def PrecisBlankUptoSaid : Prop := precisBlankUptoRow.holds Tryz.pinned (OpenSpec.upto precisBlankSpec)

end Rows
end Go.Proofs.YtmbammhkkcnoaaaGreat
