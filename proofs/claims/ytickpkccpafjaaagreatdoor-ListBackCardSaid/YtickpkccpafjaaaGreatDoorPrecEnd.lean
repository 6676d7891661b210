import Derived.Test.YtickpkccpafjaaaGreatDoorPrecPl
import Derived.Test.YtickpkccpafjaaaGreatDoorLabMid
namespace Go.Proofs.YtickpkccpafjaaaGreatDoor
open Go.RowKit Utf
namespace Prec
end Prec
