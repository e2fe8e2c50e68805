import Derived.Test.YthmlkcglglcljaaGreatDoorK16
namespace Go.Proofs.YthmlkcglglcljaaGreatDoor
open Go.RowKit

end Go.Proofs.YthmlkcglglcljaaGreatDoor


namespace Go.Proofs.YthmlkcglglcljaaGreatDoor
open Go.RowKit

end Go.Proofs.YthmlkcglglcljaaGreatDoor


namespace Go.Proofs.YthmlkcglglcljaaGreatDoor
open Go.RowKit

end Go.Proofs.YthmlkcglglcljaaGreatDoor


namespace Go.Proofs.YthmlkcglglcljaaGreatDoor
open Go.RowKit

theorem infoInst : (Tryz.prog.info? 56).map (fun i => (i.zero, i.size, i.bytes)) = some (some (.agg #[.int .u8 0, .int .i64 0, .int .i64 0, .int .i64 0, .int .i64 0]), 5, 40) := by kernel_rfl
theorem vals_one (k : Ins) : ∀ u ∈ k.vals, u.oneCell' = true := by
 intro u hu
 simp [Ins.vals] at hu
 rcases hu with rfl | rfl | rfl | rfl | rfl <;> rfl
end Go.Proofs.YthmlkcglglcljaaGreatDoor
