import Derived.Test.YtiigpncfmakgjaaGreatDoorJ44
import Derived.Test.YtiigpncfmakgjaaGreatDoorJ42
import Derived.Laws.StructEq
import Derived.Test.YtiigpncfmakgjaaGreatDoorJ37
namespace Go.Proofs.YtiigpncfmakgjaaGreatDoor
namespace C
open Go.RowKit
open T (Sep Ob Kp Mf TgIn boxOb Fm Tc Ed Vl Cp Bx tgOb mRow updV flt ofI)

section
variable {P : PImg} {s s' : Ms}
end
end C
end Go.Proofs.YtiigpncfmakgjaaGreatDoor


namespace Go.Proofs.YtiigpncfmakgjaaGreatDoor
set_option maxRecDepth 100000
set_option maxHeartbeats 40000000
namespace C
open Go.RowKit
open T (Sep Ob Kp Mf TgIn boxOb Fm Tc Ed Vl Cp Bx tgOb mRow regRow regRow_at regRow_len Vl.row_len)

theorem reg_ext (r : Nat → Vl) (i : Nat) (hi : i < 16) : List.take 7 (List.drop (i * 7) (regRow r 16)) = (r i).row := by
 refine List.ext_getElem? fun j => ?_
 by_cases hj : j < 7
 · rw [List.getElem?_take_of_lt hj, List.getElem?_drop, regRow_at r 16 _ (by omega), show (i * 7 + j) / 7 = i by omega, show (i * 7 + j) % 7 = j by omega]
 · rw [List.getElem?_take_eq_none (by omega), List.getElem?_eq_none (by rw [Vl.row_len]; omega)]
theorem part_v (r : Nat → Vl) (i : Nat) (hi : i < 16) (W : World) : (part 37 (regRow r 16).toArray (i * 7)).run Tryz.prog W = .ok (.agg (r i).row.toArray) W := by
 have h := reg_ext r i hi
 unfold part
 simp [go_sem]
 exact h
theorem val_in (d : Nat) (v : Vl) (W : World) : (Op.equalIn (d + 6) 37 (.agg v.row.toArray) (.agg v.row.toArray)).run Tryz.prog W = .ok true W := by
 obtain ⟨g, n, b, e, c, p, s⟩ := v
 simp [go_sem, Vl.row]
theorem items_v (d : Nat) (r : Nat → Vl) (W : World) : ∀ is : List Nat, (∀ i ∈ is, i < 16) → (Op.eqItems (d + 6) 37 7 (regRow r 16).toArray (regRow r 16).toArray is).run Tryz.prog W = .ok true W
 | [], _ => by simp [Op.eqItems]
 | i :: is, h => by
   have hi := h i (List.mem_cons_self ..)
   simp only [Op.eqItems, Sem.run_bind, part_v r i hi, Result.andThen_ok, val_in d (r i) W]
   simpa using items_v d r W is (fun j hj => h j (List.mem_cons_of_mem _ hj))
theorem arr_in (dd : Nat) (r : Nat → Vl) (W : World) : (Op.equalIn (dd + 7) 38 (.agg (regRow r 16).toArray) (.agg (regRow r 16).toArray)).run Tryz.prog W = .ok true W := by
 have hi := items_v dd r W (List.range 16) (fun i hi => by simpa using hi)
 have ha := run_equalIn_array (P := Tryz.prog) W (dd + 6) (regRow r 16).toArray (regRow r 16).toArray Tryz.underlying38 (e := 37) rfl
 rw [show Tryz.prog.cellsOf 37 = 7 by kernel_rfl, hi] at ha
 exact ha
theorem sn_in (dd : Nat) (s : Ms) (W : World) : (Op.equalIn (dd + 8) 40 (.agg (snR s).toArray) (.agg (snR s).toArray)).run Tryz.prog W = .ok true W := by
 have ha := arr_in dd s.at_.regs W
 have hl := regRow_len s.at_.regs 16
 unfold snR
 generalize regRow s.at_.regs 16 = R at *
 have ht : R.take 112 = R := List.take_of_length_le (by omega)
 simp [go_sem, ha, ht]
theorem sn_eql (s : Ms) (W : World) : (binOp .eql 40 (.agg (snR s).toArray) (.agg (snR s).toArray)).run Tryz.prog W = .ok (.bool true) W := by
 rw [run_eql_struct, sn_in 9992 s W]
 rfl
end C
end Go.Proofs.YtiigpncfmakgjaaGreatDoor


namespace Go.Proofs.YtiigpncfmakgjaaGreatDoor
namespace C
open Go.RowKit
open T (Sep Ob Kp Mf TgIn boxOb Fm Tc Ed Vl Cp Bx tgOb mRow updV flt)

theorem run_alloc_sn (W : World) : (Instr.alloc 40 true (.tuple #[])).run Tryz.prog W = .ok (.pointer (some ⟨W.heap.size, 0, none⟩)) (W.alloc (.cells (snR zS).toArray 40)) := by
 have : (Instr.alloc 40 true (.tuple #[])).run Tryz.prog W = .ok (.pointer (some ⟨W.heap.size, 0, none⟩)) (W.alloc (.cells Tryz.zeroCells40 40)) := by kernel_rfl
 rw [this, show Tryz.zeroCells40 = (snR zS).toArray by rw [← zero_sn]]
theorem wp_alloc_sn {o : Oper} {a : Act} {K : Act → World → Prop} {Q : Exit → Act → World → Prop} {w : World} (ho : o.op = .alloc 40) (h : K (a.put o.dst (.pointer (some ⟨w.heap.size, 0, none⟩))) (w.alloc (.cells (snR zS).toArray 40))) : o.wp Tryz.prog a w K Q := by
 unfold Oper.wp execOp
 simp only [ho, run_alloc_sn, Sem.run_bind, Sem.run_pure, Result.andThen_ok]
 exact h
end C
end Go.Proofs.YtiigpncfmakgjaaGreatDoor


namespace Go.Proofs.YtiigpncfmakgjaaGreatDoor
namespace C
open Go.RowKit
open T (Sep Ob Kp Mf TgIn boxOb Fm Tc Ed Vl Cp Bx tgOb mRow updV flt regRow regRow_at regRow_len Vl.row_len)

def rgR (r : Nat → Vl) : List Value := regRow r 16
theorem rgR_len (r : Nat → Vl) : (rgR r).length = 112 := by simp [rgR, regRow_len]
theorem rgR_at (r : Nat → Vl) (k j : Nat) (hk : k < 16) (hj : j < 7) : (rgR r)[k * 7 + j]? = (r k).row[j]? := by
 unfold rgR
 rw [regRow_at _ 16 _ (by omega), show (k * 7 + j) / 7 = k by omega, show (k * 7 + j) % 7 = j by omega]
theorem snR_from (s : Ms) : snR s = [.int .i64 s.at_.gate, .int .i64 s.at_.pc, .int .i64 s.st.length] ++ rgR s.at_.regs := by simp [snR, rgR]
theorem sn_reg {W : World} {k : Nat} {s : Ms} (h : At W k (snR s).toArray) (r : Nat) (hr : r < 16) : W.rangeAt k (3 + r * 7) (s.at_.regs r).row := fun j v q => by
 have hj : j < 7 := by have := (List.getElem?_eq_some_iff.1 q).1; rwa [Vl.row_len] at this
 rw [h.2.1, List.getElem?_toArray, snR_from, List.getElem?_append_right (by simp; omega), show (3 + r * 7 + j) - ([Value.int .i64 s.at_.gate, .int .i64 s.at_.pc, .int .i64 s.st.length] : List Value).length = r * 7 + j by simp; omega, rgR_at _ r j hr hj]
 exact q
theorem sn_regs {W : World} {k : Nat} {s : Ms} (h : At W k (snR s).toArray) : W.rangeAt k 3 (rgR s.at_.regs) := fun j v q => by
 rw [h.2.1, List.getElem?_toArray, snR_from, List.getElem?_append_right (by simp), show (3 + j) - ([Value.int .i64 s.at_.gate, .int .i64 s.at_.pc, .int .i64 s.st.length] : List Value).length = j by simp]
 exact q
theorem cl_at3 (w : World) (A B C : Array Value) (ta tb tc : TypeId) : At (((w.alloc (.cells A ta)).alloc (.cells B tb)).alloc (.cells C tc)) w.heap.size A ∧ At (((w.alloc (.cells A ta)).alloc (.cells B tb)).alloc (.cells C tc)) (w.heap.size + 1) B ∧ At (((w.alloc (.cells A ta)).alloc (.cells B tb)).alloc (.cells C tc)) (w.heap.size + 1 + 1) C ∧ Bl w (((w.alloc (.cells A ta)).alloc (.cells B tb)).alloc (.cells C tc)) := by
 have h1 := At.new w A ta
 have h2 := At.new (w.alloc (.cells A ta)) B tb
 have h3 := At.new ((w.alloc (.cells A ta)).alloc (.cells B tb)) C tc
 simp only [World.size_alloc] at h2 h3
 exact ⟨(h1.alloc _).alloc _, h2.alloc _, h3, (((Bl.refl w).alloc _).alloc _).alloc _⟩
end C
end Go.Proofs.YtiigpncfmakgjaaGreatDoor
