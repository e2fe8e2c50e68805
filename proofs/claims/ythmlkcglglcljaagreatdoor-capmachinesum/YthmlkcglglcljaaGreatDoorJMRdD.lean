import Derived.Test.YthmlkcglglcljaaGreatDoorJ19
namespace Go.Proofs.YthmlkcglglcljaaGreatDoor
open Go.RowKit

end Go.Proofs.YthmlkcglglcljaaGreatDoor
