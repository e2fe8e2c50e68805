import Derived.Test.YtfidlchgmgmcbaaGreatDoorJ42
import Derived.Test.YtfidlchgmgmcbaaGreatDoorJ06
import Derived.BigFrame
namespace Go.Proofs.YtfidlchgmgmcbaaGreatDoor
namespace C
open Go.RowKit
open T (Sep Ob Kp Mf TgIn boxOb Fm Tc Ed Vl Cp Bx tgOb mRow updV flt)

end C
end Go.Proofs.YtfidlchgmgmcbaaGreatDoor


namespace Go.Proofs.YtfidlchgmgmcbaaGreatDoor
namespace Q
open Go.RowKit

end Q
end Go.Proofs.YtfidlchgmgmcbaaGreatDoor


namespace Go.Proofs.YtfidlchgmgmcbaaGreatDoor
namespace Q
open Go.RowKit

end Q
end Go.Proofs.YtfidlchgmgmcbaaGreatDoor


namespace Go.Proofs.YtfidlchgmgmcbaaGreatDoor
namespace C
open Go.RowKit

end C
end Go.Proofs.YtfidlchgmgmcbaaGreatDoor
