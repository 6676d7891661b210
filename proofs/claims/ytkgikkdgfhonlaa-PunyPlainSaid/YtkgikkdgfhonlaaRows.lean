/-
  No cell of these rows narrows 'for every input' (looked for: loops, veiled, ifaces, maps, wideKeys, modest, calm, conditions, laid).
  DERIVED. THE GIVEN ROWS OF THIS SEAT. 6 by the template 'for every input the law returns true; each argument reads behind the call as it read before'; 0 by the template 'total and deterministic' (their statements: YtkgikkdgfhonlaaTotals.lean).
  GIVEN WITH THE SEED: the statements are not yours to turn. If you find one false, say at which input.
  Laid BY PROGRAM, IN A SANDBOX (cutbox-rows.mjs): the forced cells as the released guide's own fill.sh prints them over the translation 4ff642f49b98d419… (all of the seat's roots in one cut). By AI agents, Wed Nov 11 2026. No macro, syntax, notation, axiom, sorry.
-/
import Derived.Test.YtkgikkdgfhonlaaChecked
import GoSem.Claim
import GoSem.ClaimJoined
import GoSem.ClaimMapViews
import Derived.JoinedTies
import Derived.KernelRfl
namespace Go.Proofs.Ytkgikkdgfhonlaa
/- THE CELL 'sum', in the pinned program and in every row, IS THE sha256 OF THE DUMP (.gsa) THAT YtkgikkdgfhonlaaProg.lean LOADS. Nothing in Lean hashes anything: it is a label: what it is worth is what the hold of that sum in a sandbox is worth. -/
noncomputable def Try.pinned : Pinned := { name := "ytkgikkdgfhonlaa", sum := "4ff642f49b98d419fc0cd45665e928e9f4263a563bd3e3110c8949d60e0e3598", checked := Try.checked }
namespace Rows
def none {H : Type} : Left H := { results := [], args := [] }

/-- 'pillarboxlaw05.PunyDigits': WHATEVER THE INPUT: true; the input reads as it did. -/
def punyDigitsSpec : ChangeSpec := { name := "punyDigits", fn := fun _ => fun
  | [d1, d2, d3, d4, d5] => { results := [.lit (.bool true)], args := [d1, d2, d3, d4, d5] }
  | _ => none }
def punyDigitsRow : OpenClaim := { program := "ytkgikkdgfhonlaa", sum := "4ff642f49b98d419fc0cd45665e928e9f4263a563bd3e3110c8949d60e0e3598", func := "pillarbox/pillarboxlaw05.PunyDigits", spec := "punyDigits", inPlace := ["slices.overlaps[rune]"], apart := false }
def PunyDigitsSaid : Prop := punyDigitsRow.holds Try.pinned (OpenSpec.ofChange punyDigitsSpec)

/-- ITS FALSE NEIGHBOUR: 'it returns false'. Refute it at one input. -/
def punyDigitsWrong : ChangeSpec := { name := "punyDigits", fn := fun _ => fun
  | [d1, d2, d3, d4, d5] => { results := [.lit (.bool false)], args := [d1, d2, d3, d4, d5] }
  | _ => none }
def PunyDigitsWrongFalsely : Prop := punyDigitsRow.holds Try.pinned (OpenSpec.ofChange punyDigitsWrong)

/-- 'pillarboxlaw05.PunyWrites': WHATEVER THE INPUT: true; the input reads as it did. -/
def punyWritesSpec : ChangeSpec := { name := "punyWrites", fn := fun _ => fun
  | [d] => { results := [.lit (.bool true)], args := [d] }
  | _ => none }
def punyWritesRow : OpenClaim := { program := "ytkgikkdgfhonlaa", sum := "4ff642f49b98d419fc0cd45665e928e9f4263a563bd3e3110c8949d60e0e3598", func := "pillarbox/pillarboxlaw05.PunyWrites", spec := "punyWrites", inPlace := ["slices.overlaps[rune]"], apart := false }
def PunyWritesSaid : Prop := punyWritesRow.holds Try.pinned (OpenSpec.ofChange punyWritesSpec)

/-- ITS FALSE NEIGHBOUR: 'it returns false'. Refute it at one input. -/
def punyWritesWrong : ChangeSpec := { name := "punyWrites", fn := fun _ => fun
  | [d] => { results := [.lit (.bool false)], args := [d] }
  | _ => none }
def PunyWritesWrongFalsely : Prop := punyWritesRow.holds Try.pinned (OpenSpec.ofChange punyWritesWrong)

/-- 'pillarboxlaw05.PunyReads': WHATEVER THE INPUT: true; the input reads as it did. -/
def punyReadsSpec : ChangeSpec := { name := "punyReads", fn := fun _ => fun
  | [d] => { results := [.lit (.bool true)], args := [d] }
  | _ => none }
def punyReadsRow : OpenClaim := { program := "ytkgikkdgfhonlaa", sum := "4ff642f49b98d419fc0cd45665e928e9f4263a563bd3e3110c8949d60e0e3598", func := "pillarbox/pillarboxlaw05.PunyReads", spec := "punyReads", inPlace := ["slices.overlaps[rune]"], apart := false }
def PunyReadsSaid : Prop := punyReadsRow.holds Try.pinned (OpenSpec.ofChange punyReadsSpec)

/-- ITS FALSE NEIGHBOUR: 'it returns false'. Refute it at one input. -/
def punyReadsWrong : ChangeSpec := { name := "punyReads", fn := fun _ => fun
  | [d] => { results := [.lit (.bool false)], args := [d] }
  | _ => none }
def PunyReadsWrongFalsely : Prop := punyReadsRow.holds Try.pinned (OpenSpec.ofChange punyReadsWrong)

/-- 'pillarboxlaw05.PunyBack': WHATEVER THE INPUT: true; the input reads as it did. -/
def punyBackSpec : ChangeSpec := { name := "punyBack", fn := fun _ => fun
  | [d1, d2] => { results := [.lit (.bool true)], args := [d1, d2] }
  | _ => none }
def punyBackRow : OpenClaim := { program := "ytkgikkdgfhonlaa", sum := "4ff642f49b98d419fc0cd45665e928e9f4263a563bd3e3110c8949d60e0e3598", func := "pillarbox/pillarboxlaw05.PunyBack", spec := "punyBack", inPlace := ["slices.overlaps[rune]"], unfollowed := true, recurses := true, apart := false }
def PunyBackSaid : Prop := punyBackRow.holds Try.pinned (OpenSpec.ofChange punyBackSpec)

/-- ITS FALSE NEIGHBOUR: 'it returns false'. Refute it at one input. -/
def punyBackWrong : ChangeSpec := { name := "punyBack", fn := fun _ => fun
  | [d1, d2] => { results := [.lit (.bool false)], args := [d1, d2] }
  | _ => none }
def PunyBackWrongFalsely : Prop := punyBackRow.holds Try.pinned (OpenSpec.ofChange punyBackWrong)

/-- 'pillarboxlaw05.PunyApart': WHATEVER THE INPUT: true; the input reads as it did. -/
def punyApartSpec : ChangeSpec := { name := "punyApart", fn := fun _ => fun
  | [d1, d2] => { results := [.lit (.bool true)], args := [d1, d2] }
  | _ => none }
def punyApartRow : OpenClaim := { program := "ytkgikkdgfhonlaa", sum := "4ff642f49b98d419fc0cd45665e928e9f4263a563bd3e3110c8949d60e0e3598", func := "pillarbox/pillarboxlaw05.PunyApart", spec := "punyApart", inPlace := ["slices.overlaps[rune]"], apart := false }
def PunyApartSaid : Prop := punyApartRow.holds Try.pinned (OpenSpec.ofChange punyApartSpec)

/-- ITS FALSE NEIGHBOUR: 'it returns false'. Refute it at one input. -/
def punyApartWrong : ChangeSpec := { name := "punyApart", fn := fun _ => fun
  | [d1, d2] => { results := [.lit (.bool false)], args := [d1, d2] }
  | _ => none }
def PunyApartWrongFalsely : Prop := punyApartRow.holds Try.pinned (OpenSpec.ofChange punyApartWrong)

/-- 'pillarboxlaw05.PunyPlain': WHATEVER THE INPUT: true; the input reads as it did. -/
def punyPlainSpec : ChangeSpec := { name := "punyPlain", fn := fun _ => fun
  | [d1, d2] => { results := [.lit (.bool true)], args := [d1, d2] }
  | _ => none }
def punyPlainRow : OpenClaim := { program := "ytkgikkdgfhonlaa", sum := "4ff642f49b98d419fc0cd45665e928e9f4263a563bd3e3110c8949d60e0e3598", func := "pillarbox/pillarboxlaw05.PunyPlain", spec := "punyPlain", inPlace := ["slices.overlaps[rune]"], apart := false }
def PunyPlainSaid : Prop := punyPlainRow.holds Try.pinned (OpenSpec.ofChange punyPlainSpec)

/-- ITS FALSE NEIGHBOUR: 'it returns false'. Refute it at one input. -/
def punyPlainWrong : ChangeSpec := { name := "punyPlain", fn := fun _ => fun
  | [d1, d2] => { results := [.lit (.bool false)], args := [d1, d2] }
  | _ => none }
def PunyPlainWrongFalsely : Prop := punyPlainRow.holds Try.pinned (OpenSpec.ofChange punyPlainWrong)

/- THE SECOND FORM. 'bulk': how many values and letters a reading holds, each counted each time it is reached (what is shared counts as often as it is met; a slice's spare places count too). A statement '..UptoSaid' is the law's where the arguments, and the package variables that the reading takes, are together of bulk at most 1048576: NARROWER than '..Said'. Prove '..Said' where nothing that the law and all that it calls make is longer than what came in: it says more and counts as full. Else prove '..UptoSaid'. A law counts once. -/
mutual
def uptoBulk {H : Type} : DataW H → Nat
  | .lit (.string bytes) => bytes.length + 1
  | .lit _ => 1
  | .nil => 1
  | .ptr d => uptoBulk d + 1
  | .slice elems spare => uptoBulkAll elems + uptoBulkAll spare + 1
  | .agg parts => uptoBulkAll parts + 1
  | .iface _ d => uptoBulk d + 1
  | .map entries => uptoBulkEntries entries + 1
  | .held _ => 1
def uptoBulkAll {H : Type} : List (DataW H) → Nat
  | [] => 0
  | d :: r => uptoBulk d + uptoBulkAll r
def uptoBulkEntries {H : Type} : List (Lit × DataW H) → Nat
  | [] => 0
  | x :: r => uptoBulkEntry x + uptoBulkEntries r
def uptoBulkEntry {H : Type} : Lit × DataW H → Nat
  | (.string bytes, d) => bytes.length + uptoBulk d + 1
  | (_, d) => uptoBulk d + 1
 end
def uptoSmall : (H : Type) → List (DataW H) → Bool := fun _ ds => decide (uptoBulkAll ds ≤ 1048576)
def OpenSpec.upto (s : _root_.Go.ChangeSpec) : _root_.Go.OpenSpec := { _root_.Go.OpenSpec.ofChange s with cond := some uptoSmall }

/-- 'pillarboxlaw05.PunyDigits', WHERE WHAT IT READS IS OF BULK AT MOST 1048576: true; the input reads as it did. -/
def punyDigitsUptoRow : OpenClaim := { program := "ytkgikkdgfhonlaa", sum := "4ff642f49b98d419fc0cd45665e928e9f4263a563bd3e3110c8949d60e0e3598", func := "pillarbox/pillarboxlaw05.PunyDigits", spec := "punyDigits", inPlace := ["slices.overlaps[rune]"], apart := false, narrowed := true }
def PunyDigitsUptoSaid : Prop := punyDigitsUptoRow.holds Try.pinned (OpenSpec.upto punyDigitsSpec)

/-- 'pillarboxlaw05.PunyWrites', WHERE WHAT IT READS IS OF BULK AT MOST 1048576: true; the input reads as it did. -/
def punyWritesUptoRow : OpenClaim := { program := "ytkgikkdgfhonlaa", sum := "4ff642f49b98d419fc0cd45665e928e9f4263a563bd3e3110c8949d60e0e3598", func := "pillarbox/pillarboxlaw05.PunyWrites", spec := "punyWrites", inPlace := ["slices.overlaps[rune]"], apart := false, narrowed := true }
def PunyWritesUptoSaid : Prop := punyWritesUptoRow.holds Try.pinned (OpenSpec.upto punyWritesSpec)

/-- 'pillarboxlaw05.PunyReads', WHERE WHAT IT READS IS OF BULK AT MOST 1048576: true; the input reads as it did. -/
def punyReadsUptoRow : OpenClaim := { program := "ytkgikkdgfhonlaa", sum := "4ff642f49b98d419fc0cd45665e928e9f4263a563bd3e3110c8949d60e0e3598", func := "pillarbox/pillarboxlaw05.PunyReads", spec := "punyReads", inPlace := ["slices.overlaps[rune]"], apart := false, narrowed := true }
def PunyReadsUptoSaid : Prop := punyReadsUptoRow.holds Try.pinned (OpenSpec.upto punyReadsSpec)

/-- 'pillarboxlaw05.PunyBack', WHERE WHAT IT READS IS OF BULK AT MOST 1048576: true; the input reads as it did. -/
def punyBackUptoRow : OpenClaim := { program := "ytkgikkdgfhonlaa", sum := "4ff642f49b98d419fc0cd45665e928e9f4263a563bd3e3110c8949d60e0e3598", func := "pillarbox/pillarboxlaw05.PunyBack", spec := "punyBack", inPlace := ["slices.overlaps[rune]"], unfollowed := true, recurses := true, apart := false, narrowed := true }
def PunyBackUptoSaid : Prop := punyBackUptoRow.holds Try.pinned (OpenSpec.upto punyBackSpec)

/-- 'pillarboxlaw05.PunyApart', WHERE WHAT IT READS IS OF BULK AT MOST 1048576: true; the input reads as it did. -/
def punyApartUptoRow : OpenClaim := { program := "ytkgikkdgfhonlaa", sum := "4ff642f49b98d419fc0cd45665e928e9f4263a563bd3e3110c8949d60e0e3598", func := "pillarbox/pillarboxlaw05.PunyApart", spec := "punyApart", inPlace := ["slices.overlaps[rune]"], apart := false, narrowed := true }
def PunyApartUptoSaid : Prop := punyApartUptoRow.holds Try.pinned (OpenSpec.upto punyApartSpec)

/-- 'pillarboxlaw05.PunyPlain', WHERE WHAT IT READS IS OF BULK AT MOST 1048576: true; the input reads as it did. -/
def punyPlainUptoRow : OpenClaim := { program := "ytkgikkdgfhonlaa", sum := "4ff642f49b98d419fc0cd45665e928e9f4263a563bd3e3110c8949d60e0e3598", func := "pillarbox/pillarboxlaw05.PunyPlain", spec := "punyPlain", inPlace := ["slices.overlaps[rune]"], apart := false, narrowed := true }
def PunyPlainUptoSaid : Prop := punyPlainUptoRow.holds Try.pinned (OpenSpec.upto punyPlainSpec)

end Rows
end Go.Proofs.Ytkgikkdgfhonlaa
