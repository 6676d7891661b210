/-
  Proved here: the head of the laws of layer 8 comes out true, given what the program's six functions tell.
-/
import Derived.Test.YtbmgkfnoknomdaaGreatLabFine
namespace Go.Proofs.YtbmgkfnoknomdaaGreat
open Go.RowKit Utf
end Go.Proofs.YtbmgkfnoknomdaaGreat
