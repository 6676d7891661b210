import Derived.Test.YtickpkccpafjaaaGreatDoorMbxOk
namespace Go.Proofs.YtickpkccpafjaaaGreatDoor
open Go.RowKit Utf
