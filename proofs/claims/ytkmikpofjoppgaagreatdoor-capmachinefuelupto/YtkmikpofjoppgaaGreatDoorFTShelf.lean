import Derived.Test.YtkmikpofjoppgaaGreatDoorFTBase
import Derived.Shelf.Strings.Builder2
import Derived.Shelf.Spec.BuilderWrite
namespace Go.Proofs.YtkmikpofjoppgaaGreatDoor
namespace T
open Go.RowKit Go.Shelf

end T
end Go.Proofs.YtkmikpofjoppgaaGreatDoor
