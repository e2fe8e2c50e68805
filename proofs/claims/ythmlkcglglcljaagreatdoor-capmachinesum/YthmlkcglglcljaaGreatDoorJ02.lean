import Derived.Test.YthmlkcglglcljaaGreatDoorJ01
import Derived.Test.YthmlkcglglcljaaGreatDoorChecked
import Derived.WalkKit
import Derived.WalkSpells
import Derived.WalkLawsBesides
import Derived.Laws.Shifts
import Derived.Lib.OthersKept
import Derived.Deep.DeepCutAuto
import Derived.Deep.Light
import Derived.Test.YthmlkcglglcljaaGreatDoorRows
import Derived.ProofKit
import Derived.OpenShut
import Derived.ChangeOld
import Derived.LaidMore
import Derived.Deep.DeepHandedRow
import Derived.Lib.LaidTab
namespace Go.Proofs.YthmlkcglglcljaaGreatDoor
open Go.RowKit

theorem modify_past {α : Type} (h : Array α) (k : Nat) (f : α → α) (hk : h.size ≤ k) : h.modify k f = h := by
 apply Array.ext_getElem?
 intro i
 rw [Array.getElem?_modify]
 by_cases e : k = i
 · subst e
   rw [if_pos rfl, Array.getElem?_eq_none hk]; rfl
 · rw [if_neg e]
theorem modify_last {α : Type} (h : Array α) (x : α) (f : α → α) : (h.push x).modify h.size f = h.push (f x) := by
 apply Array.ext_getElem?
 intro i
 rw [Array.getElem?_modify]
 by_cases e : h.size = i
 · subst e
   simp
 · have e' : ¬ i = h.size := fun q => e q.symm
   simp [e, e', Array.getElem?_push]
theorem set_past (w : World) (k o : Nat) (v : Value) (h : w.heap.size ≤ k) : w.setCell ⟨k, o, none⟩ v = w := by
 unfold World.setCell
 rw [modify_past w.heap k _ h]
theorem alloc_set (w : World) (ob : Obj) (o : Nat) (v : Value) : ∃ ob', (w.alloc ob).setCell ⟨w.heap.size, o, none⟩ v = w.alloc ob' := by
 unfold World.setCell World.alloc
 exact ⟨_, by rw [modify_last]⟩
theorem Gr.setCell {w W : World} (h : Gr w W) (k o : Nat) (v : Value) (hk : w.heap.size ≤ k) : Gr w (W.setCell ⟨k, o, none⟩ v) := by
 obtain ⟨l, rfl⟩ := h
 induction l generalizing w with
 | nil => exact ⟨[], (set_past w k o v hk).symm⟩
 | cons ob l ih =>
   cases ob with
   | none =>
     obtain ⟨m, hm⟩ := ih (w := w.drew) (by simpa using hk)
     exact ⟨none :: m, hm⟩
   | some ob =>
     rcases Nat.eq_or_lt_of_le hk with e | e
     · subst e
       obtain ⟨ob', hob⟩ := alloc_set w ob o v
       refine ⟨some ob' :: l, ?_⟩
       show Go.Proofs.YthmlkcglglcljaaGreatDoor.grow (w.alloc ob') l = (Go.Proofs.YthmlkcglglcljaaGreatDoor.grow (w.alloc ob) l).setCell _ v
       rw [grow_set _ _ _ _ _ (by simp), hob]
     · obtain ⟨m, hm⟩ := ih (w := w.alloc ob) (by simp; omega)
       exact ⟨some ob :: m, hm⟩
theorem At.at_ (w : World) (cs : Array Value) (t : TypeId) {k : Nat} (h : w.heap.size = k) : At (w.alloc (.cells cs t)) k cs := h ▸ At.new w cs t
end Go.Proofs.YthmlkcglglcljaaGreatDoor


namespace Go.Proofs.YthmlkcglglcljaaGreatDoor
set_option maxRecDepth 100000
set_option maxHeartbeats 40000000
open Go.RowKit

structure TabIn (w : World) : Prop where
 size : 3 ≤ w.heap.size
 name : ∀ i : Nat, i < 76 → w.cell? ⟨1, i, none⟩ = some (.string (str (nameL.getD i [])))
 shape : ∀ i : Nat, i < 76 → w.cell? ⟨2, i, none⟩ = some (.string (str (shapeL.getD i [])))
theorem TabIn.below {w w' : World} {n : Nat} (h : TabIn w) (hb : Below n w w') (hn : 3 ≤ n) : TabIn w' :=
 ⟨Nat.le_trans h.size hb.size, fun i hi => (hb.cell (p := ⟨1, i, none⟩) (show 1 < n by omega)).trans (h.name i hi), fun i hi => (hb.cell (p := ⟨2, i, none⟩) (show 2 < n by omega)).trans (h.shape i hi)⟩
theorem TabIn.gr {w w' : World} (h : TabIn w) (hb : Gr w w') : TabIn w' := h.below hb.below h.size
theorem TabIn.nameAt {w : World} (h : TabIn w) (op : Int) (h0 : 0 ≤ op) (h1 : op < 76) : w.cell? ⟨1, op.toNat, none⟩ = some (.string (str (nameOf op))) := h.name op.toNat (by omega)
theorem TabIn.shapeAt {w : World} (h : TabIn w) (op : Int) (h0 : 0 ≤ op) (h1 : op < 76) : w.cell? ⟨2, op.toNat, none⟩ = some (.string (str (shapeOf op))) := h.shape op.toNat (by omega)
theorem nameOf_past (op : Int) (h : 76 ≤ op) : nameOf op = [] := by
 unfold nameOf; rw [List.getD_eq_getElem?_getD, List.getElem?_eq_none (by rw [nameL_len]; omega)]; rfl
theorem shapeOf_past (op : Int) (h : 76 ≤ op) : shapeOf op = [] := by
 unfold shapeOf; rw [List.getD_eq_getElem?_getD, List.getElem?_eq_none (by rw [shapeL_len]; omega)]; rfl
theorem str_nil : str [] = ⟨#[]⟩ := rfl

theorem Name_any (op : Int) (w : World) (ht : TabIn w) (h0 : 0 ≤ op) (h1 : op < 256) :
   Calls Tryz.prog 127 #[.int .u8 op] w fun x w' => x = .returned (.string (str (nameOf op))) ∧ w = w' := by
 by_cases h : 76 ≤ op
 · rw [nameOf_past op h, str_nil]
   go_enter Tryz.func127, Tryz.ntmps127
   go_wp2_with fail
   go_ret
   exact ⟨rfl, rfl⟩
 · have c := ht.nameAt op h0 (by omega)
   have h' : decide (76 ≤ op) = false := by simpa using h
   have h2 : op < 76 := by omega
   go_enter Tryz.func127, Tryz.ntmps127
   go_wp2_with fail
   go_ret
   exact ⟨rfl, rfl⟩
theorem Shape_any (op : Int) (w : World) (ht : TabIn w) (h0 : 0 ≤ op) (h1 : op < 256) :
   Calls Tryz.prog 147 #[.int .u8 op] w fun x w' => x = .returned (.string (str (shapeOf op))) ∧ w = w' := by
 by_cases h : 76 ≤ op
 · rw [shapeOf_past op h, str_nil]
   go_enter Tryz.func147, Tryz.ntmps147
   go_wp2_with fail
   go_ret
   exact ⟨rfl, rfl⟩
 · have c := ht.shapeAt op h0 (by omega)
   have h' : decide (76 ≤ op) = false := by simpa using h
   have h2 : op < 76 := by omega
   go_enter Tryz.func147, Tryz.ntmps147
   go_wp2_with fail
   go_ret
   exact ⟨rfl, rfl⟩
def regNo (n : Int) : Nat := if n = 0 then 1 else if n = 1 then 2 else 3
theorem register_any (k : Nat) (n : Int) (w : World) :
   Calls Tryz.prog 148 #[.pointer (some ⟨k, 0, none⟩), .int .i64 n] w fun x w' => x = .returned (.pointer (some ⟨k, regNo n, none⟩)) ∧ w = w' := by
 go_enter Tryz.func148, Tryz.ntmps148
 go_wp2_with fail
 all_goals go_ret
 all_goals go_light
 all_goals simp_all [regNo]
theorem ends_any (op l : Int) (w : World) :
   Calls Tryz.prog 149 #[.int .u8 op, .int .i32 l] w fun x w' => x = .returned (.tuple #[.int .i64 (loE op l), .int .i64 (hiE l)]) ∧ w = w' := by
 go_enter Tryz.func149, Tryz.ntmps149
 go_wp2_with fail
 all_goals simp [bodyPost, results, Tryz.results149, go_sem]
 all_goals go_light
 all_goals simp_all [loE, hiE]
end Go.Proofs.YthmlkcglglcljaaGreatDoor


namespace Go.Proofs.YthmlkcglglcljaaGreatDoor
set_option maxRecDepth 100000
set_option maxHeartbeats 40000000
open Go.ChangeShapes Go.WideShapes Go.ChangeAt Go.RowKit

theorem own : ownKnob Tryz.prog.godebug = none := by kernel_rfl
theorem laidOut : laidOutB Tryz.prog = true := by kernel_rfl
theorem gNames : Tryz.prog.globalNamed "paddock/instr.names" = some 1 := by kernel_rfl
theorem gShapes : Tryz.prog.globalNamed "paddock/instr.shapes" = some 2 := by kernel_rfl
theorem tNames : (Tryz.prog.globals[1]?).map (·.type) = some 215 := by kernel_rfl
theorem tShapes : (Tryz.prog.globals[2]?).map (·.type) = some 215 := by kernel_rfl
theorem cellsTab : Tryz.prog.cellsOf 215 = 76 := by kernel_rfl
theorem cellsStr : Tryz.prog.cellsOf 9 = 1 := by kernel_rfl
def strTab {H : Type} (l : List (List UInt8)) : DataW H := .agg (l.map fun b => .lit (.string b))
theorem cells_of_strTab {H : Type} {enc : TypeId × Value → H} {P : Program} {w : World} {base : Nat} {sp : Nat → Bool} {held : Bool} {fuel : Nat} {t e : TypeId} {n : Nat} {cs : List Value} {zs : List (List UInt8)} {p : List MemPlace}
   (ht : P.underlying t = some (.array n e)) (he : P.underlying e = some .string) (hce : P.cellsOf e = 1) (hct : P.cellsOf t = n)
   (h : DataW.trod enc P w base sp held fuel t cs = some (strTab zs, p)) : cs = zs.map fun z => Value.string (str z) := by
 cases fuel with
 | zero => simp [DataW.trod] at h
 | succ fuel =>
   simp only [DataW.trod, ht, hce, hct, Nat.mul_one] at h
   split at h
   · rename_i hl
     obtain ⟨xs, hm, hx⟩ := Option.map_eq_some_iff.1 h
     have hxs : xs.map (·.1) = zs.map fun z => (DataW.lit (.string z) : DataW H) := by
       have := congrArg Prod.fst hx
       simpa [strTab] using this
     have hxl : xs.length = n := by simpa using Lib.mapM_length hm
     have hzl : zs.length = n := by
       have := congrArg List.length hxs
       simp at this
       omega
     apply List.ext_getElem?
     intro i
     by_cases hi : i < n
     · obtain ⟨b, hb, hf⟩ := Lib.mapM_at hm i i (by simp [hi])
       obtain ⟨z, hc, rfl, _⟩ := DataW.trod_string he hf
       have h1 : cs[i]? = some (.string z) := by
         have := congrArg (·[0]?) hc
         simpa [List.getElem?_take, List.getElem?_drop] using this
       have h2 : (xs.map (·.1))[i]? = some (DataW.lit (.string z.data.toList) : DataW H) := by simp [hb]
       rw [hxs] at h2
       simp only [List.getElem?_map, Option.map_eq_some_iff, DataW.lit.injEq, Lit.string.injEq] at h2
       obtain ⟨z', hz', rfl⟩ := h2
       simp [h1, hz', str]
     · rw [List.getElem?_eq_none (by omega), List.getElem?_eq_none (by simp; omega)]
   · cases h
theorem tab_of_laid {W : World} (h : laidMetH Tryz.prog [("paddock/instr.names", Rows.laid_paddock_instr_names), ("paddock/instr.shapes", Rows.laid_paddock_instr_shapes)] W) : TabIn W := by
 rw [MakeChecks.laidMetH_plain _ _ _ (by kernel_rfl)] at h
 obtain ⟨ps, ⟨g0, t0, cs0, f0, p0, q0, hg0, ht0, hv0, hd0, ⟨g1, t1, cs1, f1, p1, q1, hg1, ht1, hv1, hd1, _, _⟩, _⟩, _, _⟩ := h
 obtain rfl := Option.some.inj (gNames.symm.trans hg0)
 obtain rfl := Option.some.inj (gShapes.symm.trans hg1)
 obtain rfl := Option.some.inj (tNames.symm.trans ht0)
 obtain rfl := Option.some.inj (tShapes.symm.trans ht1)
 have e0 : (Rows.laid_paddock_instr_names : DataW Unit) = strTab nameL := by kernel_rfl
 have e1 : (Rows.laid_paddock_instr_shapes : DataW Unit) = strTab shapeL := by kernel_rfl
 rw [e0] at hd0
 rw [e1] at hd1
 have c0 := cells_of_strTab Tryz.underlying215 Tryz.underlying9 cellsStr cellsTab hd0
 have c1 := cells_of_strTab Tryz.underlying215 Tryz.underlying9 cellsStr cellsTab hd1
 have n : ∀ i : Nat, i < 76 → W.cell? ⟨1, i, none⟩ = some (.string (str (nameL.getD i []))) := fun i hi => by
   have := World.var?_cell hg0 hv0 i
   have hl : i < nameL.length := by rw [nameL_len]; exact hi
   have e : cs0[i]? = cs0.toList[i]? := by simp
   rw [this, e, c0]
   simp [hl]
 have s : ∀ i : Nat, i < 76 → W.cell? ⟨2, i, none⟩ = some (.string (str (shapeL.getD i []))) := fun i hi => by
   have := World.var?_cell hg1 hv1 i
   have hl : i < shapeL.length := by rw [shapeL_len]; exact hi
   have e : cs1[i]? = cs1.toList[i]? := by simp
   rw [this, e, c1]
   simp [hl]
 exact ⟨World.block_lt_of_cell? W _ (s 0 (by omega)), n, s⟩
theorem open_text {H : Type} {enc : TypeId × Value → H} {W : World} {r : Reach} {base b0 : Nat} {sp : Nat → Bool} {held : Bool} {t : TypeId} {v : Value} {d : DataW H} {ps : List MemPlace}
   (ht : Tryz.prog.underlying t = some .string) (hval : Value.okWide Tryz.prog W r b0 t v) (hd : DataW.Trod enc Tryz.prog W base sp held t v d ps) :
   ∃ s : List UInt8, v = .string (str s) ∧ d = .lit (.string s) ∧ ps = [] ∧ s.length ≤ maxLen := by
 obtain ⟨s, rfl⟩ := okWide_string ht hval
 obtain ⟨fuel, hf⟩ := hd
 obtain ⟨s', h', hx, h⟩ := DataW.trod_string ht hf
 simp [Value.cells] at h'
 subst h'
 simp only [Prod.mk.injEq] at hx
 obtain ⟨rfl, rfl⟩ := hx
 exact ⟨s.data.toList, rfl, rfl, rfl, h⟩
end Go.Proofs.YthmlkcglglcljaaGreatDoor
