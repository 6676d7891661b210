import Derived.Test.YtipkfalbepiphaaGreatDoorMbxOk
namespace Go.Proofs.YtipkfalbepiphaaGreatDoor
open Go.RowKit Utf
