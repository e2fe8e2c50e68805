import Derived.Test.YthfphgjjieddjaaGreatP29
import Derived.Laws.StructEq
namespace Go.Proofs.YthfphgjjieddjaaGreat
set_option maxRecDepth 100000
set_option maxHeartbeats 40000000
namespace Z
open Go.RowKit
open T (Sep Ob Kp Mf FlIn boxOb)

theorem regs_lit (r : Nat → Int) : regs r = [Value.int .u64 (r 0), .int .u64 (r 1), .int .u64 (r 2), .int .u64 (r 3), .int .u64 (r 4), .int .u64 (r 5), .int .u64 (r 6), .int .u64 (r 7), .int .u64 (r 8), .int .u64 (r 9), .int .u64 (r 10), .int .u64 (r 11), .int .u64 (r 12), .int .u64 (r 13), .int .u64 (r 14), .int .u64 (r 15)] := rfl
theorem part_r (r : Nat → Int) (i : Nat) (hi : i < 16) (W : World) : (part 34 (regs r).toArray (i * 1)).run Tryz.prog W = .ok (.int .u64 (r i)) W := by
 have h := regs_at r i hi
 rw [Nat.mul_one]
 unfold part
 simp [go_sem, h]
theorem items_r (d : Nat) (r : Nat → Int) (W : World) : ∀ is : List Nat, (∀ i ∈ is, i < 16) → (Op.eqItems (d + 4) 34 1 (regs r).toArray (regs r).toArray is).run Tryz.prog W = .ok true W
 | [], _ => by simp [Op.eqItems]
 | i :: is, h => by
   have hi := h i (List.mem_cons_self ..)
   have e : (Op.equalIn (d + 4) 34 (.int .u64 (r i)) (.int .u64 (r i))).run Tryz.prog W = .ok true W := by simp [go_sem]
   simp only [Op.eqItems, Sem.run_bind, part_r r i hi, Result.andThen_ok, e]
   simpa using items_r d r W is (fun j hj => h j (List.mem_cons_of_mem _ hj))
theorem arr_in (dd : Nat) (r : Nat → Int) (W : World) : (Op.equalIn (dd + 5) 35 (.agg (regs r).toArray) (.agg (regs r).toArray)).run Tryz.prog W = .ok true W := by
 have hi := items_r dd r W (List.range 16) (fun i hi => by simpa using hi)
 have ha := run_equalIn_array (P := Tryz.prog) W (dd + 4) (regs r).toArray (regs r).toArray Tryz.underlying35 (e := 34) rfl
 rw [show Tryz.prog.cellsOf 34 = 1 by kernel_rfl, hi] at ha
 exact ha
theorem sn_in (dd : Nat) (g p d : Int) (r : Nat → Int) (W : World) : (Op.equalIn (dd + 6) 37 (.agg (snV g p d r).toArray) (.agg (snV g p d r).toArray)).run Tryz.prog W = .ok true W := by
 have ha := arr_in dd r W
 unfold snV
 rw [regs_lit] at ha ⊢
 simp [go_sem, ha]
theorem sn_eql (g p d : Int) (r : Nat → Int) (W : World) : (binOp .eql 37 (.agg (snV g p d r).toArray) (.agg (snV g p d r).toArray)).run Tryz.prog W = .ok (.bool true) W := by
 rw [run_eql_struct, sn_in 9994 g p d r W]
 rfl
end Z
end Go.Proofs.YthfphgjjieddjaaGreat
