import Derived.Test.YthlpjlnehonpdaaGreatDoorK42
import Derived.BigFrame
import Derived.Test.YthlpjlnehonpdaaGreatDoorK41
import Derived.Test.YthlpjlnehonpdaaGreatDoorK05
import Derived.Test.YthlpjlnehonpdaaGreatDoorK37
import Derived.Test.YthlpjlnehonpdaaGreatDoorK39
namespace Go.Proofs.YthlpjlnehonpdaaGreatDoor
namespace Q
open Go.RowKit
end Q
namespace Bd
open Go.RowKit
open T (Kp)
open Q (RgV CpV GtV Sl LsOk TwIn marked instM rootM)
section
variable {kk kr kc kg:Nat} {m:PImg} {lr:List RgV} {lc:List CpV} {lg:List GtV} {w wr:World} {i:Nat}
end
open Q (RgV CpV GtV TwIn)
section
variable {w:World} {kt kk kr kc kg:Nat} {z m:PImg} {ra ca ga:Option Addr} {rc cc gc:Nat} {lr:List RgV} {lc:List CpV} {lg:List GtV} {W W':World}
end
end Bd
namespace F
open Go.RowKit
open T
end F
end Go.Proofs.YthlpjlnehonpdaaGreatDoor
