import Derived.Test.YtkhbiaaangnkdaaGreatDoorJTBase
import Derived.Shelf.Strings.Builder2
import Derived.Shelf.Spec.BuilderWrite
namespace Go.Proofs.YtkhbiaaangnkdaaGreatDoor
namespace T
open Go.RowKit Go.Shelf
end T
end Go.Proofs.YtkhbiaaangnkdaaGreatDoor
