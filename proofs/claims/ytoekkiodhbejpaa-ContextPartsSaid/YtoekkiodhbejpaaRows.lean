/-
  No cell of these rows narrows 'for every input' (looked for: loops, veiled, ifaces, maps, wideKeys, modest, calm, conditions, laid).
  DERIVED. THE GIVEN ROWS OF THIS SEAT. 5 by the template 'for every input the law returns true; each argument reads behind the call as it read before'; 0 by the template 'total and deterministic' (their statements: YtoekkiodhbejpaaTotals.lean).
  GIVEN WITH THE SEED: the statements are not yours to turn. If you find one false, say at which input.
  Laid BY PROGRAM, IN A SANDBOX (cutbox-rows.mjs): the forced cells as the released guide's own fill.sh prints them over the translation 2653165661445e71… (all of the seat's roots in one cut). By AI agents, Wed Nov 11 2026. No macro, syntax, notation, axiom, sorry.
-/
import Derived.Test.YtoekkiodhbejpaaChecked
import GoSem.Claim
import GoSem.ClaimJoined
import GoSem.ClaimMapViews
import Derived.JoinedTies
import Derived.KernelRfl
namespace Go.Proofs.Ytoekkiodhbejpaa
/- THE CELL 'sum', in the pinned program and in every row, IS THE sha256 OF THE DUMP (.gsa) THAT YtoekkiodhbejpaaProg.lean LOADS. Nothing in Lean hashes anything: it is a label: what it is worth is what the hold of that sum in a sandbox is worth. -/
noncomputable def Try.pinned : Pinned := { name := "ytoekkiodhbejpaa", sum := "2653165661445e710bbff205e982f26c13e874f307517cddf597cbe32279e7dd", checked := Try.checked }
namespace Rows
def none {H : Type} : Left H := { results := [], args := [] }

/-- 'pillarboxlaw07.ContextTells': WHATEVER THE INPUT: true; the input reads as it did. -/
def contextTellsSpec : ChangeSpec := { name := "contextTells", fn := fun _ => fun
  | [d1, d2, d3] => { results := [.lit (.bool true)], args := [d1, d2, d3] }
  | _ => none }
def contextTellsRow : OpenClaim := { program := "ytoekkiodhbejpaa", sum := "2653165661445e710bbff205e982f26c13e874f307517cddf597cbe32279e7dd", func := "pillarbox/pillarboxlaw07.ContextTells", spec := "contextTells", unfollowed := true, recurses := true, apart := false }
def ContextTellsSaid : Prop := contextTellsRow.holds Try.pinned (OpenSpec.ofChange contextTellsSpec)

/-- ITS FALSE NEIGHBOUR: 'it returns false'. Refute it at one input. -/
def contextTellsWrong : ChangeSpec := { name := "contextTells", fn := fun _ => fun
  | [d1, d2, d3] => { results := [.lit (.bool false)], args := [d1, d2, d3] }
  | _ => none }
def ContextTellsWrongFalsely : Prop := contextTellsRow.holds Try.pinned (OpenSpec.ofChange contextTellsWrong)

/-- 'pillarboxlaw07.ContextEnds': WHATEVER THE INPUT: true; the input reads as it did. -/
def contextEndsSpec : ChangeSpec := { name := "contextEnds", fn := fun _ => fun
  | [d] => { results := [.lit (.bool true)], args := [d] }
  | _ => none }
def contextEndsRow : OpenClaim := { program := "ytoekkiodhbejpaa", sum := "2653165661445e710bbff205e982f26c13e874f307517cddf597cbe32279e7dd", func := "pillarbox/pillarboxlaw07.ContextEnds", spec := "contextEnds", unfollowed := true, recurses := true, apart := false }
def ContextEndsSaid : Prop := contextEndsRow.holds Try.pinned (OpenSpec.ofChange contextEndsSpec)

/-- ITS FALSE NEIGHBOUR: 'it returns false'. Refute it at one input. -/
def contextEndsWrong : ChangeSpec := { name := "contextEnds", fn := fun _ => fun
  | [d] => { results := [.lit (.bool false)], args := [d] }
  | _ => none }
def ContextEndsWrongFalsely : Prop := contextEndsRow.holds Try.pinned (OpenSpec.ofChange contextEndsWrong)

/-- 'pillarboxlaw07.ContextDigits': WHATEVER THE INPUT: true; the input reads as it did. -/
def contextDigitsSpec : ChangeSpec := { name := "contextDigits", fn := fun _ => fun
  | [d] => { results := [.lit (.bool true)], args := [d] }
  | _ => none }
def contextDigitsRow : OpenClaim := { program := "ytoekkiodhbejpaa", sum := "2653165661445e710bbff205e982f26c13e874f307517cddf597cbe32279e7dd", func := "pillarbox/pillarboxlaw07.ContextDigits", spec := "contextDigits", unfollowed := true, recurses := true, apart := false }
def ContextDigitsSaid : Prop := contextDigitsRow.holds Try.pinned (OpenSpec.ofChange contextDigitsSpec)

/-- ITS FALSE NEIGHBOUR: 'it returns false'. Refute it at one input. -/
def contextDigitsWrong : ChangeSpec := { name := "contextDigits", fn := fun _ => fun
  | [d] => { results := [.lit (.bool false)], args := [d] }
  | _ => none }
def ContextDigitsWrongFalsely : Prop := contextDigitsRow.holds Try.pinned (OpenSpec.ofChange contextDigitsWrong)

/-- 'pillarboxlaw07.ContextParts': WHATEVER THE INPUT: true; the input reads as it did. -/
def contextPartsSpec : ChangeSpec := { name := "contextParts", fn := fun _ => fun
  | [d1, d2] => { results := [.lit (.bool true)], args := [d1, d2] }
  | _ => none }
def contextPartsRow : OpenClaim := { program := "ytoekkiodhbejpaa", sum := "2653165661445e710bbff205e982f26c13e874f307517cddf597cbe32279e7dd", func := "pillarbox/pillarboxlaw07.ContextParts", spec := "contextParts", unfollowed := true, recurses := true, apart := false }
def ContextPartsSaid : Prop := contextPartsRow.holds Try.pinned (OpenSpec.ofChange contextPartsSpec)

/-- ITS FALSE NEIGHBOUR: 'it returns false'. Refute it at one input. -/
def contextPartsWrong : ChangeSpec := { name := "contextParts", fn := fun _ => fun
  | [d1, d2] => { results := [.lit (.bool false)], args := [d1, d2] }
  | _ => none }
def ContextPartsWrongFalsely : Prop := contextPartsRow.holds Try.pinned (OpenSpec.ofChange contextPartsWrong)

/-- 'pillarboxlaw07.ContextDots': WHATEVER THE INPUT: true; the input reads as it did. -/
def contextDotsSpec : ChangeSpec := { name := "contextDots", fn := fun _ => fun
  | [d] => { results := [.lit (.bool true)], args := [d] }
  | _ => none }
def contextDotsRow : OpenClaim := { program := "ytoekkiodhbejpaa", sum := "2653165661445e710bbff205e982f26c13e874f307517cddf597cbe32279e7dd", func := "pillarbox/pillarboxlaw07.ContextDots", spec := "contextDots", unfollowed := true, recurses := true, apart := false }
def ContextDotsSaid : Prop := contextDotsRow.holds Try.pinned (OpenSpec.ofChange contextDotsSpec)

/-- ITS FALSE NEIGHBOUR: 'it returns false'. Refute it at one input. -/
def contextDotsWrong : ChangeSpec := { name := "contextDots", fn := fun _ => fun
  | [d] => { results := [.lit (.bool false)], args := [d] }
  | _ => none }
def ContextDotsWrongFalsely : Prop := contextDotsRow.holds Try.pinned (OpenSpec.ofChange contextDotsWrong)

/- THE SECOND FORM. 'bulk': how many values and letters a reading holds, each counted each time it is reached (what is shared counts as often as it is met; a slice's spare places count too). A statement '..UptoSaid' is the law's where the arguments, and the package variables that the reading takes, are together of bulk at most 1048576: NARROWER than '..Said'. Prove '..Said' where nothing that the law and all that it calls make is longer than what came in: it says more and counts as full. Else prove '..UptoSaid'. A law counts once. -/
mutual
def uptoBulk {H : Type} : DataW H → Nat
  | .lit (.string bytes) => bytes.length + 1
  | .lit _ => 1
  | .nil => 1
  | .ptr d => uptoBulk d + 1
  | .slice elems spare => uptoBulkAll elems + uptoBulkAll spare + 1
  | .agg parts => uptoBulkAll parts + 1
  | .iface _ d => uptoBulk d + 1
  | .map entries => uptoBulkEntries entries + 1
  | .held _ => 1
def uptoBulkAll {H : Type} : List (DataW H) → Nat
  | [] => 0
  | d :: r => uptoBulk d + uptoBulkAll r
def uptoBulkEntries {H : Type} : List (Lit × DataW H) → Nat
  | [] => 0
  | x :: r => uptoBulkEntry x + uptoBulkEntries r
def uptoBulkEntry {H : Type} : Lit × DataW H → Nat
  | (.string bytes, d) => bytes.length + uptoBulk d + 1
  | (_, d) => uptoBulk d + 1
 end
def uptoSmall : (H : Type) → List (DataW H) → Bool := fun _ ds => decide (uptoBulkAll ds ≤ 1048576)
def OpenSpec.upto (s : _root_.Go.ChangeSpec) : _root_.Go.OpenSpec := { _root_.Go.OpenSpec.ofChange s with cond := some uptoSmall }

/-- 'pillarboxlaw07.ContextTells', WHERE WHAT IT READS IS OF BULK AT MOST 1048576: true; the input reads as it did. -/
def contextTellsUptoRow : OpenClaim := { program := "ytoekkiodhbejpaa", sum := "2653165661445e710bbff205e982f26c13e874f307517cddf597cbe32279e7dd", func := "pillarbox/pillarboxlaw07.ContextTells", spec := "contextTells", unfollowed := true, recurses := true, apart := false, narrowed := true }
def ContextTellsUptoSaid : Prop := contextTellsUptoRow.holds Try.pinned (OpenSpec.upto contextTellsSpec)

/-- 'pillarboxlaw07.ContextEnds', WHERE WHAT IT READS IS OF BULK AT MOST 1048576: true; the input reads as it did. -/
def contextEndsUptoRow : OpenClaim := { program := "ytoekkiodhbejpaa", sum := "2653165661445e710bbff205e982f26c13e874f307517cddf597cbe32279e7dd", func := "pillarbox/pillarboxlaw07.ContextEnds", spec := "contextEnds", unfollowed := true, recurses := true, apart := false, narrowed := true }
def ContextEndsUptoSaid : Prop := contextEndsUptoRow.holds Try.pinned (OpenSpec.upto contextEndsSpec)

/-- 'pillarboxlaw07.ContextDigits', WHERE WHAT IT READS IS OF BULK AT MOST 1048576: true; the input reads as it did. -/
def contextDigitsUptoRow : OpenClaim := { program := "ytoekkiodhbejpaa", sum := "2653165661445e710bbff205e982f26c13e874f307517cddf597cbe32279e7dd", func := "pillarbox/pillarboxlaw07.ContextDigits", spec := "contextDigits", unfollowed := true, recurses := true, apart := false, narrowed := true }
def ContextDigitsUptoSaid : Prop := contextDigitsUptoRow.holds Try.pinned (OpenSpec.upto contextDigitsSpec)

/-- 'pillarboxlaw07.ContextParts', WHERE WHAT IT READS IS OF BULK AT MOST 1048576: true; the input reads as it did. -/
def contextPartsUptoRow : OpenClaim := { program := "ytoekkiodhbejpaa", sum := "2653165661445e710bbff205e982f26c13e874f307517cddf597cbe32279e7dd", func := "pillarbox/pillarboxlaw07.ContextParts", spec := "contextParts", unfollowed := true, recurses := true, apart := false, narrowed := true }
def ContextPartsUptoSaid : Prop := contextPartsUptoRow.holds Try.pinned (OpenSpec.upto contextPartsSpec)

/-- 'pillarboxlaw07.ContextDots', WHERE WHAT IT READS IS OF BULK AT MOST 1048576: true; the input reads as it did. -/
def contextDotsUptoRow : OpenClaim := { program := "ytoekkiodhbejpaa", sum := "2653165661445e710bbff205e982f26c13e874f307517cddf597cbe32279e7dd", func := "pillarbox/pillarboxlaw07.ContextDots", spec := "contextDots", unfollowed := true, recurses := true, apart := false, narrowed := true }
def ContextDotsUptoSaid : Prop := contextDotsUptoRow.holds Try.pinned (OpenSpec.upto contextDotsSpec)

end Rows
end Go.Proofs.Ytoekkiodhbejpaa
