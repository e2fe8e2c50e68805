import Derived.Test.YtfidlchgmgmcbaaGreatDoorJ21
namespace Go.Proofs.YtfidlchgmgmcbaaGreatDoor
open Go.RowKit

end Go.Proofs.YtfidlchgmgmcbaaGreatDoor
