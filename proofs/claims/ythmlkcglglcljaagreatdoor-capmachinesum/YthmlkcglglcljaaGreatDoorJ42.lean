import Derived.Test.YthmlkcglglcljaaGreatDoorJ41
import Derived.BigFrame
namespace Go.Proofs.YthmlkcglglcljaaGreatDoor
namespace Q
open Go.RowKit

end Q
end Go.Proofs.YthmlkcglglcljaaGreatDoor


namespace Go.Proofs.YthmlkcglglcljaaGreatDoor
namespace Q
open Go.RowKit

end Q
end Go.Proofs.YthmlkcglglcljaaGreatDoor


namespace Go.Proofs.YthmlkcglglcljaaGreatDoor
namespace Q
open Go.RowKit

end Q
end Go.Proofs.YthmlkcglglcljaaGreatDoor


namespace Go.Proofs.YthmlkcglglcljaaGreatDoor
namespace C
open Go.RowKit

end C
end Go.Proofs.YthmlkcglglcljaaGreatDoor
