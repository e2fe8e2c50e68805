import Derived.Test.YthlpjlnehonpdaaGreatDoorJ40
namespace Go.Proofs.YthlpjlnehonpdaaGreatDoor
namespace F
open Go.RowKit
open T
end F
end Go.Proofs.YthlpjlnehonpdaaGreatDoor
