/-
  No cell of these rows narrows 'for every input' (looked for: loops, veiled, ifaces, maps, wideKeys, modest, calm, conditions, laid).
  DERIVED. THE GIVEN ROWS OF THIS SEAT. 5 by the template 'for every input the law returns true; each argument reads behind the call as it read before'; 0 by the template 'total and deterministic' (their statements: YtcngaekdjnompaaTotals.lean).
  GIVEN WITH THE SEED: the statements are not yours to turn. If you find one false, say at which input.
  Laid BY PROGRAM, IN A SANDBOX (cutbox-rows.mjs): the forced cells as the released guide's own fill.sh prints them over the translation b7981f6ed4fda7a1… (all of the seat's roots in one cut). By AI agents, Wed Nov 11 2026. No macro, syntax, notation, axiom, sorry.
-/
import Derived.Test.YtcngaekdjnompaaChecked
import GoSem.Claim
import GoSem.ClaimJoined
import GoSem.ClaimMapViews
import Derived.JoinedTies
import Derived.KernelRfl
namespace Go.Proofs.Ytcngaekdjnompaa
/- THE CELL 'sum', in the pinned program and in every row, IS THE sha256 OF THE DUMP (.gsa) THAT YtcngaekdjnompaaProg.lean LOADS. Nothing in Lean hashes anything: it is a label: what it is worth is what the hold of that sum in a sandbox is worth. -/
noncomputable def Try.pinned : Pinned := { name := "ytcngaekdjnompaa", sum := "b7981f6ed4fda7a12d3c743214084b191db63d4b4a767ae75af726dad87693b8", checked := Try.checked }
namespace Rows
def none {H : Type} : Left H := { results := [], args := [] }

/-- 'pillarboxlaw06.BidiTells': WHATEVER THE INPUT: true; the input reads as it did. -/
def bidiTellsSpec : ChangeSpec := { name := "bidiTells", fn := fun _ => fun
  | [d] => { results := [.lit (.bool true)], args := [d] }
  | _ => none }
def bidiTellsRow : OpenClaim := { program := "ytcngaekdjnompaa", sum := "b7981f6ed4fda7a12d3c743214084b191db63d4b4a767ae75af726dad87693b8", func := "pillarbox/pillarboxlaw06.BidiTells", spec := "bidiTells", unfollowed := true, recurses := true, apart := false }
def BidiTellsSaid : Prop := bidiTellsRow.holds Try.pinned (OpenSpec.ofChange bidiTellsSpec)

/-- ITS FALSE NEIGHBOUR: 'it returns false'. Refute it at one input. -/
def bidiTellsWrong : ChangeSpec := { name := "bidiTells", fn := fun _ => fun
  | [d] => { results := [.lit (.bool false)], args := [d] }
  | _ => none }
def BidiTellsWrongFalsely : Prop := bidiTellsRow.holds Try.pinned (OpenSpec.ofChange bidiTellsWrong)

/-- 'pillarboxlaw06.BidiMarks': WHATEVER THE INPUT: true; the input reads as it did. -/
def bidiMarksSpec : ChangeSpec := { name := "bidiMarks", fn := fun _ => fun
  | [d1, d2] => { results := [.lit (.bool true)], args := [d1, d2] }
  | _ => none }
def bidiMarksRow : OpenClaim := { program := "ytcngaekdjnompaa", sum := "b7981f6ed4fda7a12d3c743214084b191db63d4b4a767ae75af726dad87693b8", func := "pillarbox/pillarboxlaw06.BidiMarks", spec := "bidiMarks", unfollowed := true, recurses := true, apart := false }
def BidiMarksSaid : Prop := bidiMarksRow.holds Try.pinned (OpenSpec.ofChange bidiMarksSpec)

/-- ITS FALSE NEIGHBOUR: 'it returns false'. Refute it at one input. -/
def bidiMarksWrong : ChangeSpec := { name := "bidiMarks", fn := fun _ => fun
  | [d1, d2] => { results := [.lit (.bool false)], args := [d1, d2] }
  | _ => none }
def BidiMarksWrongFalsely : Prop := bidiMarksRow.holds Try.pinned (OpenSpec.ofChange bidiMarksWrong)

/-- 'pillarboxlaw06.BidiSides': WHATEVER THE INPUT: true; the input reads as it did. -/
def bidiSidesSpec : ChangeSpec := { name := "bidiSides", fn := fun _ => fun
  | [d] => { results := [.lit (.bool true)], args := [d] }
  | _ => none }
def bidiSidesRow : OpenClaim := { program := "ytcngaekdjnompaa", sum := "b7981f6ed4fda7a12d3c743214084b191db63d4b4a767ae75af726dad87693b8", func := "pillarbox/pillarboxlaw06.BidiSides", spec := "bidiSides", unfollowed := true, recurses := true, apart := false }
def BidiSidesSaid : Prop := bidiSidesRow.holds Try.pinned (OpenSpec.ofChange bidiSidesSpec)

/-- ITS FALSE NEIGHBOUR: 'it returns false'. Refute it at one input. -/
def bidiSidesWrong : ChangeSpec := { name := "bidiSides", fn := fun _ => fun
  | [d] => { results := [.lit (.bool false)], args := [d] }
  | _ => none }
def BidiSidesWrongFalsely : Prop := bidiSidesRow.holds Try.pinned (OpenSpec.ofChange bidiSidesWrong)

/-- 'pillarboxlaw06.BidiPlain': WHATEVER THE INPUT: true; the input reads as it did. -/
def bidiPlainSpec : ChangeSpec := { name := "bidiPlain", fn := fun _ => fun
  | [d] => { results := [.lit (.bool true)], args := [d] }
  | _ => none }
def bidiPlainRow : OpenClaim := { program := "ytcngaekdjnompaa", sum := "b7981f6ed4fda7a12d3c743214084b191db63d4b4a767ae75af726dad87693b8", func := "pillarbox/pillarboxlaw06.BidiPlain", spec := "bidiPlain", unfollowed := true, recurses := true, apart := false }
def BidiPlainSaid : Prop := bidiPlainRow.holds Try.pinned (OpenSpec.ofChange bidiPlainSpec)

/-- ITS FALSE NEIGHBOUR: 'it returns false'. Refute it at one input. -/
def bidiPlainWrong : ChangeSpec := { name := "bidiPlain", fn := fun _ => fun
  | [d] => { results := [.lit (.bool false)], args := [d] }
  | _ => none }
def BidiPlainWrongFalsely : Prop := bidiPlainRow.holds Try.pinned (OpenSpec.ofChange bidiPlainWrong)

/-- 'pillarboxlaw06.BidiDigits': WHATEVER THE INPUT: true; the input reads as it did. -/
def bidiDigitsSpec : ChangeSpec := { name := "bidiDigits", fn := fun _ => fun
  | [d1, d2] => { results := [.lit (.bool true)], args := [d1, d2] }
  | _ => none }
def bidiDigitsRow : OpenClaim := { program := "ytcngaekdjnompaa", sum := "b7981f6ed4fda7a12d3c743214084b191db63d4b4a767ae75af726dad87693b8", func := "pillarbox/pillarboxlaw06.BidiDigits", spec := "bidiDigits", unfollowed := true, recurses := true, apart := false }
def BidiDigitsSaid : Prop := bidiDigitsRow.holds Try.pinned (OpenSpec.ofChange bidiDigitsSpec)

/-- ITS FALSE NEIGHBOUR: 'it returns false'. Refute it at one input. -/
def bidiDigitsWrong : ChangeSpec := { name := "bidiDigits", fn := fun _ => fun
  | [d1, d2] => { results := [.lit (.bool false)], args := [d1, d2] }
  | _ => none }
def BidiDigitsWrongFalsely : Prop := bidiDigitsRow.holds Try.pinned (OpenSpec.ofChange bidiDigitsWrong)

/- THE SECOND FORM. 'bulk': how many values and letters a reading holds, each counted each time it is reached (what is shared counts as often as it is met; a slice's spare places count too). A statement '..UptoSaid' is the law's where the arguments, and the package variables that the reading takes, are together of bulk at most 1048576: NARROWER than '..Said'. Prove '..Said' where nothing that the law and all that it calls make is longer than what came in: it says more and counts as full. Else prove '..UptoSaid'. A law counts once. -/
mutual
def uptoBulk {H : Type} : DataW H → Nat
  | .lit (.string bytes) => bytes.length + 1
  | .lit _ => 1
  | .nil => 1
  | .ptr d => uptoBulk d + 1
  | .slice elems spare => uptoBulkAll elems + uptoBulkAll spare + 1
  | .agg parts => uptoBulkAll parts + 1
  | .iface _ d => uptoBulk d + 1
  | .map entries => uptoBulkEntries entries + 1
  | .held _ => 1
def uptoBulkAll {H : Type} : List (DataW H) → Nat
  | [] => 0
  | d :: r => uptoBulk d + uptoBulkAll r
def uptoBulkEntries {H : Type} : List (Lit × DataW H) → Nat
  | [] => 0
  | x :: r => uptoBulkEntry x + uptoBulkEntries r
def uptoBulkEntry {H : Type} : Lit × DataW H → Nat
  | (.string bytes, d) => bytes.length + uptoBulk d + 1
  | (_, d) => uptoBulk d + 1
 end
def uptoSmall : (H : Type) → List (DataW H) → Bool := fun _ ds => decide (uptoBulkAll ds ≤ 1048576)
def OpenSpec.upto (s : _root_.Go.ChangeSpec) : _root_.Go.OpenSpec := { _root_.Go.OpenSpec.ofChange s with cond := some uptoSmall }

/-- 'pillarboxlaw06.BidiTells', WHERE WHAT IT READS IS OF BULK AT MOST 1048576: true; the input reads as it did. -/
def bidiTellsUptoRow : OpenClaim := { program := "ytcngaekdjnompaa", sum := "b7981f6ed4fda7a12d3c743214084b191db63d4b4a767ae75af726dad87693b8", func := "pillarbox/pillarboxlaw06.BidiTells", spec := "bidiTells", unfollowed := true, recurses := true, apart := false, narrowed := true }
def BidiTellsUptoSaid : Prop := bidiTellsUptoRow.holds Try.pinned (OpenSpec.upto bidiTellsSpec)

/-- 'pillarboxlaw06.BidiMarks', WHERE WHAT IT READS IS OF BULK AT MOST 1048576: true; the input reads as it did. -/
def bidiMarksUptoRow : OpenClaim := { program := "ytcngaekdjnompaa", sum := "b7981f6ed4fda7a12d3c743214084b191db63d4b4a767ae75af726dad87693b8", func := "pillarbox/pillarboxlaw06.BidiMarks", spec := "bidiMarks", unfollowed := true, recurses := true, apart := false, narrowed := true }
def BidiMarksUptoSaid : Prop := bidiMarksUptoRow.holds Try.pinned (OpenSpec.upto bidiMarksSpec)

/-- 'pillarboxlaw06.BidiSides', WHERE WHAT IT READS IS OF BULK AT MOST 1048576: true; the input reads as it did. -/
def bidiSidesUptoRow : OpenClaim := { program := "ytcngaekdjnompaa", sum := "b7981f6ed4fda7a12d3c743214084b191db63d4b4a767ae75af726dad87693b8", func := "pillarbox/pillarboxlaw06.BidiSides", spec := "bidiSides", unfollowed := true, recurses := true, apart := false, narrowed := true }
def BidiSidesUptoSaid : Prop := bidiSidesUptoRow.holds Try.pinned (OpenSpec.upto bidiSidesSpec)

/-- 'pillarboxlaw06.BidiPlain', WHERE WHAT IT READS IS OF BULK AT MOST 1048576: true; the input reads as it did. -/
def bidiPlainUptoRow : OpenClaim := { program := "ytcngaekdjnompaa", sum := "b7981f6ed4fda7a12d3c743214084b191db63d4b4a767ae75af726dad87693b8", func := "pillarbox/pillarboxlaw06.BidiPlain", spec := "bidiPlain", unfollowed := true, recurses := true, apart := false, narrowed := true }
def BidiPlainUptoSaid : Prop := bidiPlainUptoRow.holds Try.pinned (OpenSpec.upto bidiPlainSpec)

/-- 'pillarboxlaw06.BidiDigits', WHERE WHAT IT READS IS OF BULK AT MOST 1048576: true; the input reads as it did. -/
def bidiDigitsUptoRow : OpenClaim := { program := "ytcngaekdjnompaa", sum := "b7981f6ed4fda7a12d3c743214084b191db63d4b4a767ae75af726dad87693b8", func := "pillarbox/pillarboxlaw06.BidiDigits", spec := "bidiDigits", unfollowed := true, recurses := true, apart := false, narrowed := true }
def BidiDigitsUptoSaid : Prop := bidiDigitsUptoRow.holds Try.pinned (OpenSpec.upto bidiDigitsSpec)

end Rows
end Go.Proofs.Ytcngaekdjnompaa
