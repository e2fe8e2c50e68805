import Derived.Test.YtmohpcijpliilaaGreatDoorTBase
import Derived.Shelf.Strings.Builder2
import Derived.Shelf.Spec.BuilderWrite
namespace Go.Proofs.YtmohpcijpliilaaGreatDoor
namespace T
open Go.RowKit Go.Shelf

end T
end Go.Proofs.YtmohpcijpliilaaGreatDoor
