import Derived.Test.YtdlcphinjnnhcaaGreatDoorK16
namespace Go.Proofs.YtdlcphinjnnhcaaGreatDoor
namespace F
open Go.RowKit
open T

end F
end Go.Proofs.YtdlcphinjnnhcaaGreatDoor


namespace Go.Proofs.YtdlcphinjnnhcaaGreatDoor
namespace F
open Go.RowKit
open T

end F
end Go.Proofs.YtdlcphinjnnhcaaGreatDoor


namespace Go.Proofs.YtdlcphinjnnhcaaGreatDoor
namespace F
open Go.RowKit
open T

end F
end Go.Proofs.YtdlcphinjnnhcaaGreatDoor


namespace Go.Proofs.YtdlcphinjnnhcaaGreatDoor
namespace F
open Go.RowKit
open T

end F
end Go.Proofs.YtdlcphinjnnhcaaGreatDoor
