import Derived.Test.YtpbepbbomdkcgaaGreatDoorTBase
import Derived.Shelf.Strings.Builder2
import Derived.Shelf.Spec.BuilderWrite
namespace Go.Proofs.YtpbepbbomdkcgaaGreatDoor
namespace T
open Go.RowKit Go.Shelf

end T
end Go.Proofs.YtpbepbbomdkcgaaGreatDoor
