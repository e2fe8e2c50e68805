import Derived.Test.YtkhbiaaangnkdaaGreatDoorJ24
import Derived.Test.YtkhbiaaangnkdaaGreatDoorJ23
import Derived.Test.YtkhbiaaangnkdaaGreatDoorJ10
namespace Go.Proofs.YtkhbiaaangnkdaaGreatDoor
open Go.RowKit
theorem infoInst:(Tryz.prog.info? 29).map (fun i=>(i.zero,i.size,i.bytes))=some (some (.agg #[.int .u8 0,.int .i64 0,.int .i64 0,.int .i64 0,.int .i64 0]),5,40):=by kernel_rfl
theorem vals_one (k:Ins):∀u∈k.vals,u.oneCell'=true:=by
 intro u hu;simp[Ins.vals]at hu;rcases hu with rfl|rfl|rfl|rfl|rfl<;>rfl
end Go.Proofs.YtkhbiaaangnkdaaGreatDoor
