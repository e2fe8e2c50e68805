import Derived.Test.YtkmikpofjoppgaaGreatDoorF21
namespace Go.Proofs.YtkmikpofjoppgaaGreatDoor
open Go.RowKit

end Go.Proofs.YtkmikpofjoppgaaGreatDoor
