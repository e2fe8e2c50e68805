import Derived.Test.YthlpjlnehonpdaaGreatDoorKTBase
import Derived.Shelf.Strings.Builder2
import Derived.Shelf.Spec.BuilderWrite
namespace Go.Proofs.YthlpjlnehonpdaaGreatDoor
namespace T
open Go.RowKit Go.Shelf
end T
end Go.Proofs.YthlpjlnehonpdaaGreatDoor
