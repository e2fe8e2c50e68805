/-
  Stage 3, instr: the document's rows.
-/
import Derived.Test.YtknefcpfmggonaaDoorITabIn
import Derived.Great.Walk
namespace Go.Proofs.YtknefcpfmggonaaDoor
open Go.RowKit

def rowCells : Array Value := (docL.map fun r => [Value.int .u8 r.1, .string (str r.2.1), .string (str r.2.2)]).flatten.toArray
set_option maxRecDepth 1000000 in
set_option maxHeartbeats 8000000 in
theorem Rows_any (w : World) :
    Calls Tryd.prog 14 #[] w fun x w' => x = .returned (.slice (some ⟨w.heap.size, 0, none⟩) 52 52) ∧ w.alloc (.cells rowCells 46) = w' := by
  go_enter Tryd.func14, Tryd.ntmps14
  go_upto_region 1 with fail
  refine wp_region_lit ?_
  refine Great.wpList_readTo rfl (some 1) rfl (.agg #[.int .u8 1, .string ⟨#[108, 105]⟩, .string ⟨#[114, 105]⟩]) (by kernel_rfl) ?_
  refine Great.wpList_readTo rfl (some 2) rfl (.agg #[.int .u8 2, .string ⟨#[109, 111, 118]⟩, .string ⟨#[114, 114]⟩]) (by kernel_rfl) ?_
  refine Great.wpList_readTo rfl (some 3) rfl (.agg #[.int .u8 3, .string ⟨#[97, 100, 100]⟩, .string ⟨#[114, 114, 114]⟩]) (by kernel_rfl) ?_
  refine Great.wpList_readTo rfl (some 4) rfl (.agg #[.int .u8 4, .string ⟨#[115, 117, 98]⟩, .string ⟨#[114, 114, 114]⟩]) (by kernel_rfl) ?_
  refine Great.wpList_readTo rfl (some 5) rfl (.agg #[.int .u8 5, .string ⟨#[109, 117, 108]⟩, .string ⟨#[114, 114, 114]⟩]) (by kernel_rfl) ?_
  refine Great.wpList_readTo rfl (some 6) rfl (.agg #[.int .u8 6, .string ⟨#[97, 110, 100]⟩, .string ⟨#[114, 114, 114]⟩]) (by kernel_rfl) ?_
  refine Great.wpList_readTo rfl (some 7) rfl (.agg #[.int .u8 7, .string ⟨#[111, 114]⟩, .string ⟨#[114, 114, 114]⟩]) (by kernel_rfl) ?_
  refine Great.wpList_readTo rfl (some 8) rfl (.agg #[.int .u8 8, .string ⟨#[120, 111, 114]⟩, .string ⟨#[114, 114, 114]⟩]) (by kernel_rfl) ?_
  refine Great.wpList_readTo rfl (some 9) rfl (.agg #[.int .u8 9, .string ⟨#[115, 104, 108]⟩, .string ⟨#[114, 114, 114]⟩]) (by kernel_rfl) ?_
  refine Great.wpList_readTo rfl (some 10) rfl (.agg #[.int .u8 10, .string ⟨#[115, 104, 114]⟩, .string ⟨#[114, 114, 114]⟩]) (by kernel_rfl) ?_
  refine Great.wpList_readTo rfl (some 11) rfl (.agg #[.int .u8 11, .string ⟨#[97, 100, 100, 105]⟩, .string ⟨#[114, 114, 105]⟩]) (by kernel_rfl) ?_
  refine Great.wpList_readTo rfl (some 12) rfl (.agg #[.int .u8 12, .string ⟨#[115, 108, 116]⟩, .string ⟨#[114, 114, 114]⟩]) (by kernel_rfl) ?_
  refine Great.wpList_readTo rfl (some 13) rfl (.agg #[.int .u8 13, .string ⟨#[115, 101, 113]⟩, .string ⟨#[114, 114, 114]⟩]) (by kernel_rfl) ?_
  refine Great.wpList_readTo rfl (some 14) rfl (.agg #[.int .u8 20, .string ⟨#[106, 109, 112]⟩, .string ⟨#[116]⟩]) (by kernel_rfl) ?_
  refine Great.wpList_readTo rfl (some 15) rfl (.agg #[.int .u8 21, .string ⟨#[98, 101, 113]⟩, .string ⟨#[114, 114, 116]⟩]) (by kernel_rfl) ?_
  refine Great.wpList_readTo rfl (some 16) rfl (.agg #[.int .u8 22, .string ⟨#[98, 110, 101]⟩, .string ⟨#[114, 114, 116]⟩]) (by kernel_rfl) ?_
  refine Great.wpList_readTo rfl (some 17) rfl (.agg #[.int .u8 23, .string ⟨#[98, 108, 116]⟩, .string ⟨#[114, 114, 116]⟩]) (by kernel_rfl) ?_
  refine Great.wpList_readTo rfl (some 18) rfl (.agg #[.int .u8 24, .string ⟨#[98, 103, 101]⟩, .string ⟨#[114, 114, 116]⟩]) (by kernel_rfl) ?_
  refine Great.wpList_readTo rfl (some 19) rfl (.agg #[.int .u8 25, .string ⟨#[99, 112, 99]⟩, .string ⟨#[114, 116]⟩]) (by kernel_rfl) ?_
  refine Great.wpList_readTo rfl (some 20) rfl (.agg #[.int .u8 26, .string ⟨#[106, 99]⟩, .string ⟨#[114]⟩]) (by kernel_rfl) ?_
  refine Great.wpList_readTo rfl (some 21) rfl (.agg #[.int .u8 27, .string ⟨#[104, 97, 108, 116]⟩, .string ⟨#[114]⟩]) (by kernel_rfl) ?_
  refine Great.wpList_readTo rfl (some 22) rfl (.agg #[.int .u8 28, .string ⟨#[116, 114, 97, 112]⟩, .string ⟨#[99]⟩]) (by kernel_rfl) ?_
  refine Great.wpList_readTo rfl (some 23) rfl (.agg #[.int .u8 29, .string ⟨#[105, 110]⟩, .string ⟨#[114]⟩]) (by kernel_rfl) ?_
  refine Great.wpList_readTo rfl (some 24) rfl (.agg #[.int .u8 30, .string ⟨#[111, 117, 116]⟩, .string ⟨#[114]⟩]) (by kernel_rfl) ?_
  refine Great.wpList_readTo rfl (some 25) rfl (.agg #[.int .u8 31, .string ⟨#[99, 97, 108, 108]⟩, .string ⟨#[103]⟩]) (by kernel_rfl) ?_
  refine Great.wpList_readTo rfl (some 26) rfl (.agg #[.int .u8 32, .string ⟨#[114, 101, 116]⟩, .string ⟨#[]⟩]) (by kernel_rfl) ?_
  refine Great.wpList_readTo rfl (some 27) rfl (.agg #[.int .u8 40, .string ⟨#[99, 105, 110, 99]⟩, .string ⟨#[114, 114, 114]⟩]) (by kernel_rfl) ?_
  refine Great.wpList_readTo rfl (some 28) rfl (.agg #[.int .u8 41, .string ⟨#[99, 105, 110, 99, 105]⟩, .string ⟨#[114, 114, 105]⟩]) (by kernel_rfl) ?_
  refine Great.wpList_readTo rfl (some 29) rfl (.agg #[.int .u8 42, .string ⟨#[99, 115, 101, 116, 98]⟩, .string ⟨#[114, 114, 114]⟩]) (by kernel_rfl) ?_
  refine Great.wpList_readTo rfl (some 30) rfl (.agg #[.int .u8 43, .string ⟨#[99, 115, 101, 116, 98, 105]⟩, .string ⟨#[114, 114, 110]⟩]) (by kernel_rfl) ?_
  refine Great.wpList_readTo rfl (some 31) rfl (.agg #[.int .u8 44, .string ⟨#[99, 97, 110, 100, 112]⟩, .string ⟨#[114, 114, 112]⟩]) (by kernel_rfl) ?_
  refine Great.wpList_readTo rfl (some 32) rfl (.agg #[.int .u8 45, .string ⟨#[99, 115, 101, 97, 108]⟩, .string ⟨#[114, 114, 114]⟩]) (by kernel_rfl) ?_
  refine Great.wpList_readTo rfl (some 33) rfl (.agg #[.int .u8 46, .string ⟨#[99, 117, 110, 115, 101, 97, 108]⟩, .string ⟨#[114, 114, 114]⟩]) (by kernel_rfl) ?_
  refine Great.wpList_readTo rfl (some 34) rfl (.agg #[.int .u8 50, .string ⟨#[99, 97, 100, 100, 114]⟩, .string ⟨#[114, 114]⟩]) (by kernel_rfl) ?_
  refine Great.wpList_readTo rfl (some 35) rfl (.agg #[.int .u8 51, .string ⟨#[99, 98, 97, 115, 101]⟩, .string ⟨#[114, 114]⟩]) (by kernel_rfl) ?_
  refine Great.wpList_readTo rfl (some 36) rfl (.agg #[.int .u8 52, .string ⟨#[99, 101, 110, 100]⟩, .string ⟨#[114, 114]⟩]) (by kernel_rfl) ?_
  refine Great.wpList_readTo rfl (some 37) rfl (.agg #[.int .u8 53, .string ⟨#[99, 112, 101, 114, 109]⟩, .string ⟨#[114, 114]⟩]) (by kernel_rfl) ?_
  refine Great.wpList_readTo rfl (some 38) rfl (.agg #[.int .u8 54, .string ⟨#[99, 115, 101, 97, 108, 101, 100]⟩, .string ⟨#[114, 114]⟩]) (by kernel_rfl) ?_
  refine Great.wpList_readTo rfl (some 39) rfl (.agg #[.int .u8 55, .string ⟨#[99, 116, 97, 103]⟩, .string ⟨#[114, 114]⟩]) (by kernel_rfl) ?_
  refine Great.wpList_readTo rfl (some 40) rfl (.agg #[.int .u8 56, .string ⟨#[99, 115, 97, 109, 101]⟩, .string ⟨#[114, 114, 114]⟩]) (by kernel_rfl) ?_
  refine Great.wpList_readTo rfl (some 41) rfl (.agg #[.int .u8 60, .string ⟨#[108, 98]⟩, .string ⟨#[114, 114, 105]⟩]) (by kernel_rfl) ?_
  refine Great.wpList_readTo rfl (some 42) rfl (.agg #[.int .u8 61, .string ⟨#[108, 119]⟩, .string ⟨#[114, 114, 105]⟩]) (by kernel_rfl) ?_
  refine Great.wpList_readTo rfl (some 43) rfl (.agg #[.int .u8 62, .string ⟨#[115, 98]⟩, .string ⟨#[114, 114, 105]⟩]) (by kernel_rfl) ?_
  refine Great.wpList_readTo rfl (some 44) rfl (.agg #[.int .u8 63, .string ⟨#[115, 119]⟩, .string ⟨#[114, 114, 105]⟩]) (by kernel_rfl) ?_
  refine Great.wpList_readTo rfl (some 45) rfl (.agg #[.int .u8 64, .string ⟨#[108, 99]⟩, .string ⟨#[114, 114, 105]⟩]) (by kernel_rfl) ?_
  refine Great.wpList_readTo rfl (some 46) rfl (.agg #[.int .u8 65, .string ⟨#[115, 99]⟩, .string ⟨#[114, 114, 105]⟩]) (by kernel_rfl) ?_
  refine Great.wpList_readTo rfl (some 47) rfl (.agg #[.int .u8 70, .string ⟨#[103, 108, 116]⟩, .string ⟨#[114, 105, 99]⟩]) (by kernel_rfl) ?_
  refine Great.wpList_readTo rfl (some 48) rfl (.agg #[.int .u8 71, .string ⟨#[103, 103, 101]⟩, .string ⟨#[114, 105, 99]⟩]) (by kernel_rfl) ?_
  refine Great.wpList_readTo rfl (some 49) rfl (.agg #[.int .u8 72, .string ⟨#[103, 116, 97, 103]⟩, .string ⟨#[114, 99]⟩]) (by kernel_rfl) ?_
  refine Great.wpList_readTo rfl (some 50) rfl (.agg #[.int .u8 73, .string ⟨#[103, 105, 110]⟩, .string ⟨#[114, 110, 99]⟩]) (by kernel_rfl) ?_
  refine Great.wpList_readTo rfl (some 51) rfl (.agg #[.int .u8 74, .string ⟨#[103, 112, 101, 114, 109]⟩, .string ⟨#[114, 112, 99]⟩]) (by kernel_rfl) ?_
  refine Great.wpList_readTo rfl (some 52) rfl (.agg #[.int .u8 75, .string ⟨#[103, 115, 101, 97, 108]⟩, .string ⟨#[114, 115, 99]⟩]) (by kernel_rfl) ?_
  refine Great.wpList_buildSliceTo rfl 47 46 52 _ rfl w.heap.size rfl (some 53) rfl (by kernel_rfl) rowCells (by kernel_rfl) ?_
  refine Great.wpList_readTo rfl (some 0) rfl (.slice (some ⟨w.heap.size, 0, none⟩) 52 52) (by kernel_rfl) ?_
  refine wpList_nil ?_
  rename_i K hK
  refine hK _ _ (wp_ret ?_)
  refine bodyPost_ret (results_tmp rfl _ _ _) (by kernel_rfl) ⟨?_, rfl⟩
  have : ∀ v, Value.slice (some ⟨w.heap.size, 0, none⟩) 52 52 = v → Ending.returned v = Ending.returned (Value.slice (some ⟨w.heap.size, 0, none⟩) 52 52) := fun v h => by rw [h]
  exact this _ (by kernel_rfl)
end Go.Proofs.YtknefcpfmggonaaDoor
