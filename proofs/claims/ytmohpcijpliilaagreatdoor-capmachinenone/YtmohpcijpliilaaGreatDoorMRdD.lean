import Derived.Test.YtmohpcijpliilaaGreatDoorP19
namespace Go.Proofs.YtmohpcijpliilaaGreatDoor
open Go.RowKit

end Go.Proofs.YtmohpcijpliilaaGreatDoor
