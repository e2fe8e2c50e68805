import Derived.Test.YtiigpncfmakgjaaGreatDoorJTBase
import Derived.Shelf.Strings.Builder2
import Derived.Shelf.Spec.BuilderWrite
namespace Go.Proofs.YtiigpncfmakgjaaGreatDoor
namespace T
open Go.RowKit Go.Shelf

end T
end Go.Proofs.YtiigpncfmakgjaaGreatDoor
