import Derived.Test.YtpbepbbomdkcgaaGreatDoorP21
namespace Go.Proofs.YtpbepbbomdkcgaaGreatDoor
open Go.RowKit

end Go.Proofs.YtpbepbbomdkcgaaGreatDoor
