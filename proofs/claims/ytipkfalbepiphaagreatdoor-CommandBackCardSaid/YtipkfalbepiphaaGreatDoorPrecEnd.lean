import Derived.Test.YtipkfalbepiphaaGreatDoorPrecPl
import Derived.Test.YtipkfalbepiphaaGreatDoorLabMid
namespace Go.Proofs.YtipkfalbepiphaaGreatDoor
open Go.RowKit Utf
namespace Prec
end Prec
