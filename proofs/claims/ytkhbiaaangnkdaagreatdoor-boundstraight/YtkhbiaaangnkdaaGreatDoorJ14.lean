import Derived.Test.YtkhbiaaangnkdaaGreatDoorJ13
namespace Go.Proofs.YtkhbiaaangnkdaaGreatDoor
namespace F
open Go.RowKit
open T
end F
end Go.Proofs.YtkhbiaaangnkdaaGreatDoor
