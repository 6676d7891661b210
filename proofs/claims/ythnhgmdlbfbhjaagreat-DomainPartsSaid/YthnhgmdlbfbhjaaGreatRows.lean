/-
  No cell of these rows narrows 'for every input' (looked for: loops, veiled, ifaces, maps, wideKeys, modest, calm, conditions, laid).
  DERIVED. THE GIVEN ROWS OF THIS SEAT. 5 by the template 'for every input the law returns true; each argument reads behind the call as it read before'; 0 by the template 'total and deterministic' (their statements: YthnhgmdlbfbhjaaGreatTotals.lean).
  GIVEN WITH THE SEED: the statements are not yours to turn. If you find one false, say at which input.
  Laid BY PROGRAM, IN A SANDBOX (cutbox-rows.mjs): the forced cells as the released guide's own fill.sh prints them over the translation de66b8b0827423a6… (all of the seat's roots in one cut). By AI agents, Wed Nov 11 2026. No macro, syntax, notation, axiom, sorry.
-/
import Derived.Test.YthnhgmdlbfbhjaaGreatChecked
import GoSem.Claim
import GoSem.ClaimJoined
import GoSem.ClaimMapViews
import Derived.JoinedTies
import Derived.KernelRfl
namespace Go.Proofs.YthnhgmdlbfbhjaaGreat
/- THE CELL 'sum', in the pinned program and in every row, IS THE sha256 OF THE DUMP (.gsa) THAT YthnhgmdlbfbhjaaGreatProg.lean LOADS. Nothing in Lean hashes anything: it is a label: what it is worth is what the hold of that sum in a sandbox is worth. -/
noncomputable def Tryz.pinned : Pinned := { name := "ythnhgmdlbfbhjaagreat", sum := "de66b8b0827423a62b8accb890a9e44a075a24c9db3f42f1480a8f5ea8bff952", checked := Tryz.checked }
namespace Rows
def none {H : Type} : Left H := { results := [], args := [] }

/-- 'pillarboxlaw09.DomainTells': WHATEVER THE INPUT: true; the input reads as it did. -/
def domainTellsSpec : ChangeSpec := { name := "domainTells", fn := fun _ => fun
  | [d1, d2] => { results := [.lit (.bool true)], args := [d1, d2] }
  | _ => none }
def domainTellsRow : OpenClaim := { program := "ythnhgmdlbfbhjaagreat", sum := "de66b8b0827423a62b8accb890a9e44a075a24c9db3f42f1480a8f5ea8bff952", func := "pillarbox/pillarboxlaw09.DomainTells", spec := "domainTells", inPlace := ["slices.overlaps[rune]", "internal/abi.NoEscape", "internal/bytealg.MakeNoZero"], unfollowed := true, recurses := true, apart := false }
def DomainTellsSaid : Prop := domainTellsRow.holds Tryz.pinned (OpenSpec.ofChange domainTellsSpec)

/-- ITS FALSE NEIGHBOUR: 'it returns false'. Refute it at one input. -/
def domainTellsWrong : ChangeSpec := { name := "domainTells", fn := fun _ => fun
  | [d1, d2] => { results := [.lit (.bool false)], args := [d1, d2] }
  | _ => none }
def DomainTellsWrongFalsely : Prop := domainTellsRow.holds Tryz.pinned (OpenSpec.ofChange domainTellsWrong)

/-- 'pillarboxlaw09.DomainBack': WHATEVER THE INPUT: true; the input reads as it did. -/
def domainBackSpec : ChangeSpec := { name := "domainBack", fn := fun _ => fun
  | [d] => { results := [.lit (.bool true)], args := [d] }
  | _ => none }
def domainBackRow : OpenClaim := { program := "ythnhgmdlbfbhjaagreat", sum := "de66b8b0827423a62b8accb890a9e44a075a24c9db3f42f1480a8f5ea8bff952", func := "pillarbox/pillarboxlaw09.DomainBack", spec := "domainBack", inPlace := ["slices.overlaps[rune]", "internal/abi.NoEscape", "internal/bytealg.MakeNoZero"], unfollowed := true, recurses := true, apart := false }
def DomainBackSaid : Prop := domainBackRow.holds Tryz.pinned (OpenSpec.ofChange domainBackSpec)

/-- ITS FALSE NEIGHBOUR: 'it returns false'. Refute it at one input. -/
def domainBackWrong : ChangeSpec := { name := "domainBack", fn := fun _ => fun
  | [d] => { results := [.lit (.bool false)], args := [d] }
  | _ => none }
def DomainBackWrongFalsely : Prop := domainBackRow.holds Tryz.pinned (OpenSpec.ofChange domainBackWrong)

/-- 'pillarboxlaw09.DomainParts': WHATEVER THE INPUT: true; the input reads as it did. -/
def domainPartsSpec : ChangeSpec := { name := "domainParts", fn := fun _ => fun
  | [d1, d2] => { results := [.lit (.bool true)], args := [d1, d2] }
  | _ => none }
def domainPartsRow : OpenClaim := { program := "ythnhgmdlbfbhjaagreat", sum := "de66b8b0827423a62b8accb890a9e44a075a24c9db3f42f1480a8f5ea8bff952", func := "pillarbox/pillarboxlaw09.DomainParts", spec := "domainParts", inPlace := ["slices.overlaps[rune]", "internal/abi.NoEscape", "internal/bytealg.MakeNoZero"], unfollowed := true, recurses := true, apart := false }
def DomainPartsSaid : Prop := domainPartsRow.holds Tryz.pinned (OpenSpec.ofChange domainPartsSpec)

/-- ITS FALSE NEIGHBOUR: 'it returns false'. Refute it at one input. -/
def domainPartsWrong : ChangeSpec := { name := "domainParts", fn := fun _ => fun
  | [d1, d2] => { results := [.lit (.bool false)], args := [d1, d2] }
  | _ => none }
def DomainPartsWrongFalsely : Prop := domainPartsRow.holds Tryz.pinned (OpenSpec.ofChange domainPartsWrong)

/-- 'pillarboxlaw09.DomainOne': WHATEVER THE INPUT: true; the input reads as it did. -/
def domainOneSpec : ChangeSpec := { name := "domainOne", fn := fun _ => fun
  | [d] => { results := [.lit (.bool true)], args := [d] }
  | _ => none }
def domainOneRow : OpenClaim := { program := "ythnhgmdlbfbhjaagreat", sum := "de66b8b0827423a62b8accb890a9e44a075a24c9db3f42f1480a8f5ea8bff952", func := "pillarbox/pillarboxlaw09.DomainOne", spec := "domainOne", inPlace := ["slices.overlaps[rune]", "internal/abi.NoEscape", "internal/bytealg.MakeNoZero"], unfollowed := true, recurses := true, apart := false }
def DomainOneSaid : Prop := domainOneRow.holds Tryz.pinned (OpenSpec.ofChange domainOneSpec)

/-- ITS FALSE NEIGHBOUR: 'it returns false'. Refute it at one input. -/
def domainOneWrong : ChangeSpec := { name := "domainOne", fn := fun _ => fun
  | [d] => { results := [.lit (.bool false)], args := [d] }
  | _ => none }
def DomainOneWrongFalsely : Prop := domainOneRow.holds Tryz.pinned (OpenSpec.ofChange domainOneWrong)

/-- 'pillarboxlaw09.DomainTree': WHATEVER THE INPUT: true; the input reads as it did. -/
def domainTreeSpec : ChangeSpec := { name := "domainTree", fn := fun _ => fun
  | [d1, d2, d3] => { results := [.lit (.bool true)], args := [d1, d2, d3] }
  | _ => none }
def domainTreeRow : OpenClaim := { program := "ythnhgmdlbfbhjaagreat", sum := "de66b8b0827423a62b8accb890a9e44a075a24c9db3f42f1480a8f5ea8bff952", func := "pillarbox/pillarboxlaw09.DomainTree", spec := "domainTree", inPlace := ["slices.overlaps[rune]", "internal/abi.NoEscape", "internal/bytealg.MakeNoZero"], unfollowed := true, recurses := true, apart := false }
def DomainTreeSaid : Prop := domainTreeRow.holds Tryz.pinned (OpenSpec.ofChange domainTreeSpec)

/-- ITS FALSE NEIGHBOUR: 'it returns false'. Refute it at one input. -/
def domainTreeWrong : ChangeSpec := { name := "domainTree", fn := fun _ => fun
  | [d1, d2, d3] => { results := [.lit (.bool false)], args := [d1, d2, d3] }
  | _ => none }
def DomainTreeWrongFalsely : Prop := domainTreeRow.holds Tryz.pinned (OpenSpec.ofChange domainTreeWrong)

/- THE SECOND FORM. 'bulk': how many values and letters a reading holds, each counted each time it is reached (what is shared counts as often as it is met; a slice's spare places count too). A statement '..UptoSaid' is the law's where the arguments, and the package variables that the reading takes, are together of bulk at most 1048576: NARROWER than '..Said'. Prove '..Said' where nothing that the law and all that it calls make is longer than what came in: it says more and counts as full. Else prove '..UptoSaid'. A law counts once. -/
mutual
def uptoBulk {H : Type} : DataW H → Nat
  | .lit (.string bytes) => bytes.length + 1
  | .lit _ => 1
  | .nil => 1
  | .ptr d => uptoBulk d + 1
  | .slice elems spare => uptoBulkAll elems + uptoBulkAll spare + 1
  | .agg parts => uptoBulkAll parts + 1
  | .iface _ d => uptoBulk d + 1
  | .map entries => uptoBulkEntries entries + 1
  | .held _ => 1
def uptoBulkAll {H : Type} : List (DataW H) → Nat
  | [] => 0
  | d :: r => uptoBulk d + uptoBulkAll r
def uptoBulkEntries {H : Type} : List (Lit × DataW H) → Nat
  | [] => 0
  | x :: r => uptoBulkEntry x + uptoBulkEntries r
def uptoBulkEntry {H : Type} : Lit × DataW H → Nat
  | (.string bytes, d) => bytes.length + uptoBulk d + 1
  | (_, d) => uptoBulk d + 1
 end
def uptoSmall : (H : Type) → List (DataW H) → Bool := fun _ ds => decide (uptoBulkAll ds ≤ 1048576)
def OpenSpec.upto (s : _root_.Go.ChangeSpec) : _root_.Go.OpenSpec := { _root_.Go.OpenSpec.ofChange s with cond := some uptoSmall }

/-- 'pillarboxlaw09.DomainTells', WHERE WHAT IT READS IS OF BULK AT MOST 1048576: true; the input reads as it did. -/
def domainTellsUptoRow : OpenClaim := { program := "ythnhgmdlbfbhjaagreat", sum := "de66b8b0827423a62b8accb890a9e44a075a24c9db3f42f1480a8f5ea8bff952", func := "pillarbox/pillarboxlaw09.DomainTells", spec := "domainTells", inPlace := ["slices.overlaps[rune]", "internal/abi.NoEscape", "internal/bytealg.MakeNoZero"], unfollowed := true, recurses := true, apart := false, narrowed := true }
def DomainTellsUptoSaid : Prop := domainTellsUptoRow.holds Tryz.pinned (OpenSpec.upto domainTellsSpec)

/-- 'pillarboxlaw09.DomainBack', WHERE WHAT IT READS IS OF BULK AT MOST 1048576: true; the input reads as it did. -/
def domainBackUptoRow : OpenClaim := { program := "ythnhgmdlbfbhjaagreat", sum := "de66b8b0827423a62b8accb890a9e44a075a24c9db3f42f1480a8f5ea8bff952", func := "pillarbox/pillarboxlaw09.DomainBack", spec := "domainBack", inPlace := ["slices.overlaps[rune]", "internal/abi.NoEscape", "internal/bytealg.MakeNoZero"], unfollowed := true, recurses := true, apart := false, narrowed := true }
def DomainBackUptoSaid : Prop := domainBackUptoRow.holds Tryz.pinned (OpenSpec.upto domainBackSpec)

/-- 'pillarboxlaw09.DomainParts', WHERE WHAT IT READS IS OF BULK AT MOST 1048576: true; the input reads as it did. -/
def domainPartsUptoRow : OpenClaim := { program := "ythnhgmdlbfbhjaagreat", sum := "de66b8b0827423a62b8accb890a9e44a075a24c9db3f42f1480a8f5ea8bff952", func := "pillarbox/pillarboxlaw09.DomainParts", spec := "domainParts", inPlace := ["slices.overlaps[rune]", "internal/abi.NoEscape", "internal/bytealg.MakeNoZero"], unfollowed := true, recurses := true, apart := false, narrowed := true }
def DomainPartsUptoSaid : Prop := domainPartsUptoRow.holds Tryz.pinned (OpenSpec.upto domainPartsSpec)

/-- 'pillarboxlaw09.DomainOne', WHERE WHAT IT READS IS OF BULK AT MOST 1048576: true; the input reads as it did. -/
def domainOneUptoRow : OpenClaim := { program := "ythnhgmdlbfbhjaagreat", sum := "de66b8b0827423a62b8accb890a9e44a075a24c9db3f42f1480a8f5ea8bff952", func := "pillarbox/pillarboxlaw09.DomainOne", spec := "domainOne", inPlace := ["slices.overlaps[rune]", "internal/abi.NoEscape", "internal/bytealg.MakeNoZero"], unfollowed := true, recurses := true, apart := false, narrowed := true }
def DomainOneUptoSaid : Prop := domainOneUptoRow.holds Tryz.pinned (OpenSpec.upto domainOneSpec)

/-- 'pillarboxlaw09.DomainTree', WHERE WHAT IT READS IS OF BULK AT MOST 1048576: true; the input reads as it did. -/
def domainTreeUptoRow : OpenClaim := { program := "ythnhgmdlbfbhjaagreat", sum := "de66b8b0827423a62b8accb890a9e44a075a24c9db3f42f1480a8f5ea8bff952", func := "pillarbox/pillarboxlaw09.DomainTree", spec := "domainTree", inPlace := ["slices.overlaps[rune]", "internal/abi.NoEscape", "internal/bytealg.MakeNoZero"], unfollowed := true, recurses := true, apart := false, narrowed := true }
def DomainTreeUptoSaid : Prop := domainTreeUptoRow.holds Tryz.pinned (OpenSpec.upto domainTreeSpec)

end Rows
end Go.Proofs.YthnhgmdlbfbhjaaGreat
