import Derived.Test.YtfidlchgmgmcbaaGreatDoorJTBase
import Derived.Shelf.Strings.Builder2
import Derived.Shelf.Spec.BuilderWrite
namespace Go.Proofs.YtfidlchgmgmcbaaGreatDoor
namespace T
open Go.RowKit Go.Shelf

end T
end Go.Proofs.YtfidlchgmgmcbaaGreatDoor
