import Derived.Test.YtkhbiaaangnkdaaGreatDoorJ14
import Derived.Test.YtkhbiaaangnkdaaGreatDoorJ13
namespace Go.Proofs.YtkhbiaaangnkdaaGreatDoor
namespace F
open Go.RowKit
open T
end F
namespace Bd
open Go.RowKit
open T (Kp)
open F (folB wyF wayN cnt)
section
variable {m:PImg} {l0 l:Nat→Int} {a:Bool} {g:Nat}
end
noncomputable def dpV (m:PImg) (g:Nat):Int:=match ev (nxG m) dpF (List.range m.gates.length) g with|some v=>v|none=> -1
section
variable {m:PImg} {l0 l:Nat→Int} {a:Bool}
end
open F (thB folB cnt Rch)
section
variable {L:List Ins} {cF:Nat→Int} (hc:∀pc,0≤cF pc∧cF pc≤1099511627777) (hl:L.length≤400)
include hc hl
end
section
variable {L:List Ins} {cF dF:Nat→Int} {d0 dn:Nat→Bool} {st ip:Nat→Int} {a:Bool} {p:Nat}
end
section
variable {L:List Ins} {cF dF:Nat→Int} {d0 dn:Nat→Bool} {st ip:Nat→Int} {a:Bool} {p:Nat}
end
open F (Rch rchB_iff)
section
variable {m:PImg} {F:Nat→Option Cst} {n:Int} {g:Nat}
end
open F (folB Rch rchB_iff)
section
variable {m:PImg} {g pc:Nat} {v:Cst} {a b:Int}
end
end Bd
end Go.Proofs.YtkhbiaaangnkdaaGreatDoor
