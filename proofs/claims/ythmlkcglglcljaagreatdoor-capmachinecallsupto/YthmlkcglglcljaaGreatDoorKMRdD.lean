import Derived.Test.YthmlkcglglcljaaGreatDoorK21
namespace Go.Proofs.YthmlkcglglcljaaGreatDoor
open Go.RowKit

end Go.Proofs.YthmlkcglglcljaaGreatDoor
