import Derived.Test.YtkmikpofjoppgaaGreatDoorP21
namespace Go.Proofs.YtkmikpofjoppgaaGreatDoor
open Go.RowKit

end Go.Proofs.YtkmikpofjoppgaaGreatDoor
