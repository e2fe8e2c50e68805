import Derived.Test.YthmlkcglglcljaaGreatDoorKTBase
import Derived.Shelf.Strings.Builder2
import Derived.Shelf.Spec.BuilderWrite
namespace Go.Proofs.YthmlkcglglcljaaGreatDoor
namespace T
open Go.RowKit Go.Shelf

end T
end Go.Proofs.YthmlkcglglcljaaGreatDoor
