import Derived.Test.YtiigpncfmakgjaaGreatDoorJ21
namespace Go.Proofs.YtiigpncfmakgjaaGreatDoor
open Go.RowKit

end Go.Proofs.YtiigpncfmakgjaaGreatDoor
