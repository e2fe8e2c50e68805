import Derived.Test.YthlpjlnehonpdaaGreatDoorK43
namespace Go.Proofs.YthlpjlnehonpdaaGreatDoor
namespace F
open Go.RowKit
open T
end F
end Go.Proofs.YthlpjlnehonpdaaGreatDoor
