import Derived.Test.YtdlcphinjnnhcaaGreatDoorK01
import Derived.Test.YtdlcphinjnnhcaaGreatDoorChecked
import Derived.WalkKit
import Derived.WalkSpells
import Derived.WalkLawsBesides
import Derived.Laws.Shifts
import Derived.Lib.OthersKept
import Derived.Deep.DeepCutAuto
import Derived.Deep.Light
import Derived.Test.YtdlcphinjnnhcaaGreatDoorRows
import Derived.ProofKit
import Derived.OpenShut
import Derived.ChangeOld
import Derived.LaidMore
import Derived.Deep.DeepHandedRow
import Derived.Lib.LaidTab
namespace Go.Proofs.YtdlcphinjnnhcaaGreatDoor
open Go.RowKit

theorem modify_past {α : Type} (h : Array α) (k : Nat) (f : α → α) (hk : h.size ≤ k) : h.modify k f = h := by
 apply Array.ext_getElem?
 intro i
 rw [Array.getElem?_modify]
 by_cases e : k = i
 · subst e
   rw [if_pos rfl, Array.getElem?_eq_none hk]; rfl
 · rw [if_neg e]
theorem modify_last {α : Type} (h : Array α) (x : α) (f : α → α) : (h.push x).modify h.size f = h.push (f x) := by
 apply Array.ext_getElem?
 intro i
 rw [Array.getElem?_modify]
 by_cases e : h.size = i
 · subst e
   simp
 · have e' : ¬ i = h.size := fun q => e q.symm
   simp [e, e', Array.getElem?_push]
theorem set_past (w : World) (k o : Nat) (v : Value) (h : w.heap.size ≤ k) : w.setCell ⟨k, o, none⟩ v = w := by
 unfold World.setCell
 rw [modify_past w.heap k _ h]
theorem alloc_set (w : World) (ob : Obj) (o : Nat) (v : Value) : ∃ ob', (w.alloc ob).setCell ⟨w.heap.size, o, none⟩ v = w.alloc ob' := by
 unfold World.setCell World.alloc
 exact ⟨_, by rw [modify_last]⟩
theorem Gr.setCell {w W : World} (h : Gr w W) (k o : Nat) (v : Value) (hk : w.heap.size ≤ k) : Gr w (W.setCell ⟨k, o, none⟩ v) := by
 obtain ⟨l, rfl⟩ := h
 induction l generalizing w with
 | nil => exact ⟨[], (set_past w k o v hk).symm⟩
 | cons ob l ih =>
   cases ob with
   | none =>
     obtain ⟨m, hm⟩ := ih (w := w.drew) (by simpa using hk)
     exact ⟨none :: m, hm⟩
   | some ob =>
     rcases Nat.eq_or_lt_of_le hk with e | e
     · subst e
       obtain ⟨ob', hob⟩ := alloc_set w ob o v
       refine ⟨some ob' :: l, ?_⟩
       show Go.Proofs.YtdlcphinjnnhcaaGreatDoor.grow (w.alloc ob') l = (Go.Proofs.YtdlcphinjnnhcaaGreatDoor.grow (w.alloc ob) l).setCell _ v
       rw [grow_set _ _ _ _ _ (by simp), hob]
     · obtain ⟨m, hm⟩ := ih (w := w.alloc ob) (by simp; omega)
       exact ⟨some ob :: m, hm⟩
theorem At.at_ (w : World) (cs : Array Value) (t : TypeId) {k : Nat} (h : w.heap.size = k) : At (w.alloc (.cells cs t)) k cs := h ▸ At.new w cs t
end Go.Proofs.YtdlcphinjnnhcaaGreatDoor


namespace Go.Proofs.YtdlcphinjnnhcaaGreatDoor
set_option maxRecDepth 100000
set_option maxHeartbeats 40000000
open Go.RowKit

structure TabIn (w : World) : Prop where
 size : 2 ≤ w.heap.size
 name : ∀ i : Nat, i < 76 → w.cell? ⟨0, i, none⟩ = some (.string (str (nameL.getD i [])))
 shape : ∀ i : Nat, i < 76 → w.cell? ⟨1, i, none⟩ = some (.string (str (shapeL.getD i [])))
theorem TabIn.below {w w' : World} {n : Nat} (h : TabIn w) (hb : Below n w w') (hn : 2 ≤ n) : TabIn w' :=
 ⟨Nat.le_trans h.size hb.size, fun i hi => (hb.cell (p := ⟨0, i, none⟩) (show 0 < n by omega)).trans (h.name i hi), fun i hi => (hb.cell (p := ⟨1, i, none⟩) (show 1 < n by omega)).trans (h.shape i hi)⟩
theorem TabIn.gr {w w' : World} (h : TabIn w) (hb : Gr w w') : TabIn w' := h.below hb.below h.size
theorem TabIn.nameAt {w : World} (h : TabIn w) (op : Int) (h0 : 0 ≤ op) (h1 : op < 76) : w.cell? ⟨0, op.toNat, none⟩ = some (.string (str (nameOf op))) := h.name op.toNat (by omega)
theorem TabIn.shapeAt {w : World} (h : TabIn w) (op : Int) (h0 : 0 ≤ op) (h1 : op < 76) : w.cell? ⟨1, op.toNat, none⟩ = some (.string (str (shapeOf op))) := h.shape op.toNat (by omega)
theorem nameOf_past (op : Int) (h : 76 ≤ op) : nameOf op = [] := by
 unfold nameOf; rw [List.getD_eq_getElem?_getD, List.getElem?_eq_none (by rw [nameL_len]; omega)]; rfl
theorem shapeOf_past (op : Int) (h : 76 ≤ op) : shapeOf op = [] := by
 unfold shapeOf; rw [List.getD_eq_getElem?_getD, List.getElem?_eq_none (by rw [shapeL_len]; omega)]; rfl
theorem str_nil : str [] = ⟨#[]⟩ := rfl

theorem Name_any (op : Int) (w : World) (ht : TabIn w) (h0 : 0 ≤ op) (h1 : op < 256) :
   Calls Tryz.prog 100 #[.int .u8 op] w fun x w' => x = .returned (.string (str (nameOf op))) ∧ w = w' := by
 by_cases h : 76 ≤ op
 · rw [nameOf_past op h, str_nil]
   go_enter Tryz.func100, Tryz.ntmps100
   go_wp2_with fail
   go_ret
   exact ⟨rfl, rfl⟩
 · have c := ht.nameAt op h0 (by omega)
   have h' : decide (76 ≤ op) = false := by simpa using h
   have h2 : op < 76 := by omega
   go_enter Tryz.func100, Tryz.ntmps100
   go_wp2_with fail
   go_ret
   exact ⟨rfl, rfl⟩
theorem Shape_any (op : Int) (w : World) (ht : TabIn w) (h0 : 0 ≤ op) (h1 : op < 256) :
   Calls Tryz.prog 107 #[.int .u8 op] w fun x w' => x = .returned (.string (str (shapeOf op))) ∧ w = w' := by
 by_cases h : 76 ≤ op
 · rw [shapeOf_past op h, str_nil]
   go_enter Tryz.func107, Tryz.ntmps107
   go_wp2_with fail
   go_ret
   exact ⟨rfl, rfl⟩
 · have c := ht.shapeAt op h0 (by omega)
   have h' : decide (76 ≤ op) = false := by simpa using h
   have h2 : op < 76 := by omega
   go_enter Tryz.func107, Tryz.ntmps107
   go_wp2_with fail
   go_ret
   exact ⟨rfl, rfl⟩
def regNo (n : Int) : Nat := if n = 0 then 1 else if n = 1 then 2 else 3
theorem register_any (k : Nat) (n : Int) (w : World) :
   Calls Tryz.prog 108 #[.pointer (some ⟨k, 0, none⟩), .int .i64 n] w fun x w' => x = .returned (.pointer (some ⟨k, regNo n, none⟩)) ∧ w = w' := by
 go_enter Tryz.func108, Tryz.ntmps108
 go_wp2_with fail
 all_goals go_ret
 all_goals go_light
 all_goals simp_all [regNo]
theorem ends_any (op l : Int) (w : World) :
   Calls Tryz.prog 109 #[.int .u8 op, .int .i32 l] w fun x w' => x = .returned (.tuple #[.int .i64 (loE op l), .int .i64 (hiE l)]) ∧ w = w' := by
 go_enter Tryz.func109, Tryz.ntmps109
 go_wp2_with fail
 all_goals simp [bodyPost, results, Tryz.results109, go_sem]
 all_goals go_light
 all_goals simp_all [loE, hiE]
end Go.Proofs.YtdlcphinjnnhcaaGreatDoor


namespace Go.Proofs.YtdlcphinjnnhcaaGreatDoor
open Go.ChangeShapes Go.WideShapes Go.ChangeAt Go.RowKit

theorem own : ownKnob Tryz.prog.godebug = none := by kernel_rfl
theorem laidOut : laidOutB Tryz.prog = true := by kernel_rfl
theorem cellsInst : Tryz.prog.cellsOf 41 = 5 := by kernel_rfl
theorem gNames : Tryz.prog.globalNamed "paddock/instr.names" = some 0 := by kernel_rfl
theorem gShapes : Tryz.prog.globalNamed "paddock/instr.shapes" = some 1 := by kernel_rfl
theorem tNames : (Tryz.prog.globals[0]?).map (·.type) = some 168 := by kernel_rfl
theorem tShapes : (Tryz.prog.globals[1]?).map (·.type) = some 168 := by kernel_rfl
theorem cellsTab : Tryz.prog.cellsOf 168 = 76 := by kernel_rfl
theorem cellsStr : Tryz.prog.cellsOf 9 = 1 := by kernel_rfl
def strTab {H : Type} (l : List (List UInt8)) : DataW H := .agg (l.map fun b => .lit (.string b))
theorem cells_of_strTab {H : Type} {enc : TypeId × Value → H} {P : Program} {w : World} {base : Nat} {sp : Nat → Bool} {held : Bool} {fuel : Nat} {t e : TypeId} {n : Nat} {cs : List Value} {zs : List (List UInt8)} {p : List MemPlace}
   (ht : P.underlying t = some (.array n e)) (he : P.underlying e = some .string) (hce : P.cellsOf e = 1) (hct : P.cellsOf t = n)
   (h : DataW.trod enc P w base sp held fuel t cs = some (strTab zs, p)) : cs = zs.map fun z => Value.string (str z) := by
 cases fuel with
 | zero => simp [DataW.trod] at h
 | succ fuel =>
   simp only [DataW.trod, ht, hce, hct, Nat.mul_one] at h
   split at h
   · rename_i hl
     obtain ⟨xs, hm, hx⟩ := Option.map_eq_some_iff.1 h
     have hxs : xs.map (·.1) = zs.map fun z => (DataW.lit (.string z) : DataW H) := by
       have := congrArg Prod.fst hx
       simpa [strTab] using this
     have hxl : xs.length = n := by simpa using Lib.mapM_length hm
     have hzl : zs.length = n := by
       have := congrArg List.length hxs
       simp at this
       omega
     apply List.ext_getElem?
     intro i
     by_cases hi : i < n
     · obtain ⟨b, hb, hf⟩ := Lib.mapM_at hm i i (by simp [hi])
       obtain ⟨z, hc, rfl, _⟩ := DataW.trod_string he hf
       have h1 : cs[i]? = some (.string z) := by
         have := congrArg (·[0]?) hc
         simpa [List.getElem?_take, List.getElem?_drop] using this
       have h2 : (xs.map (·.1))[i]? = some (DataW.lit (.string z.data.toList) : DataW H) := by simp [hb]
       rw [hxs] at h2
       simp only [List.getElem?_map, Option.map_eq_some_iff, DataW.lit.injEq, Lit.string.injEq] at h2
       obtain ⟨z', hz', rfl⟩ := h2
       simp [h1, hz', str]
     · rw [List.getElem?_eq_none (by omega), List.getElem?_eq_none (by simp; omega)]
   · cases h
theorem tab_of_laid {W : World} (h : laidMetH Tryz.prog [("paddock/instr.names", Rows.laid_paddock_instr_names), ("paddock/instr.shapes", Rows.laid_paddock_instr_shapes)] W) : TabIn W := by
 rw [MakeChecks.laidMetH_plain _ _ _ (by kernel_rfl)] at h
 obtain ⟨ps, ⟨g0, t0, cs0, f0, p0, q0, hg0, ht0, hv0, hd0, ⟨g1, t1, cs1, f1, p1, q1, hg1, ht1, hv1, hd1, _, _⟩, _⟩, _, _⟩ := h
 obtain rfl := Option.some.inj (gNames.symm.trans hg0)
 obtain rfl := Option.some.inj (gShapes.symm.trans hg1)
 obtain rfl := Option.some.inj (tNames.symm.trans ht0)
 obtain rfl := Option.some.inj (tShapes.symm.trans ht1)
 have e0 : (Rows.laid_paddock_instr_names : DataW Unit) = strTab nameL := by kernel_rfl
 have e1 : (Rows.laid_paddock_instr_shapes : DataW Unit) = strTab shapeL := by kernel_rfl
 rw [e0] at hd0
 rw [e1] at hd1
 have c0 := cells_of_strTab Tryz.underlying168 Tryz.underlying9 cellsStr cellsTab hd0
 have c1 := cells_of_strTab Tryz.underlying168 Tryz.underlying9 cellsStr cellsTab hd1
 have n : ∀ i : Nat, i < 76 → W.cell? ⟨0, i, none⟩ = some (.string (str (nameL.getD i []))) := fun i hi => by
   have := World.var?_cell hg0 hv0 i
   have hl : i < nameL.length := by rw [nameL_len]; exact hi
   have e : cs0[i]? = cs0.toList[i]? := by simp
   rw [this, e, c0]
   simp [hl]
 have s : ∀ i : Nat, i < 76 → W.cell? ⟨1, i, none⟩ = some (.string (str (shapeL.getD i []))) := fun i hi => by
   have := World.var?_cell hg1 hv1 i
   have hl : i < shapeL.length := by rw [shapeL_len]; exact hi
   have e : cs1[i]? = cs1.toList[i]? := by simp
   rw [this, e, c1]
   simp [hl]
 exact ⟨World.block_lt_of_cell? W _ (s 0 (by omega)), n, s⟩
theorem bd_u8 {n : Int} (h : (Lit.int .u8 n).wf = true) : 0 ≤ n ∧ n < 256 := by
 have := bounds_u8 h; omega
theorem bd_i64 {n : Int} (h : (Lit.int .i64 n).wf = true) : -9223372036854775808 ≤ n ∧ n < 9223372036854775808 := by
 have := bounds_i64 h; omega
end Go.Proofs.YtdlcphinjnnhcaaGreatDoor


namespace Go.Proofs.YtdlcphinjnnhcaaGreatDoor
set_option maxRecDepth 100000
set_option maxHeartbeats 40000000
open Go.RowKit

structure Hid (p : Prop) : Prop where
 out : p
theorem ret_bool {a b : Bool} (h : a = b) : Ending.returned (.bool a) = .returned (.bool b) := by rw [h]
theorem letters_small (s : List UInt8) (hs : s ∈ shapes) : s.length ≤ 3 ∧ ∀ l ∈ s, l.toNat < 128 := by
 have : shapes.all (fun s => decide (s.length ≤ 3) && s.all fun l => decide (l.toNat < 128)) = true := by kernel_rfl
 have := List.all_eq_true.1 this s hs
 simp only [Bool.and_eq_true, decide_eq_true_eq, List.all_eq_true] at this
 exact this
theorem str_size (s : List UInt8) : (str s).size = s.length := by simp [str, ByteArray.size]
theorem str_at (s : List UInt8) (i : Nat) (h : i < (str s).size) (h' : i < s.length) : (str s)[i]'h = s[i] := by
 simp [str, ByteArray.getElem_eq_getElem_data]
theorem next_str (w : World) (ob : Obj) (s : List UInt8) (pos : Nat) (ty : TypeId) (h : pos < s.length) (ha : ∀ l ∈ s, l.toNat < 128) :
   (Instr.next (.pointer (some ⟨w.heap.size + 1, 0, none⟩)) true ty).run Tryz.prog ((w.alloc ob).alloc (.stringIter (str s) pos)) = .ok (.tuple #[.bool true, .int .i64 pos, .int .i32 (s[pos]'h).toNat]) ((w.alloc ob).alloc (.stringIter (str s) (pos + 1))) := by
 have h1 : pos < (str s).size := by rw [str_size]; exact h
 have := run_next_ascii (P := Tryz.prog) (w.alloc ob) (str s) pos ty h1 (by rw [str_at s pos h1 h]; exact ha _ (List.getElem_mem h))
 rwa [str_at s pos h1 h, World.size_alloc] at this
theorem next_str_end (w : World) (ob : Obj) (s : List UInt8) (pos : Nat) (ty : TypeId) (h : ¬ pos < s.length) :
   (Instr.next (.pointer (some ⟨w.heap.size + 1, 0, none⟩)) true ty).run Tryz.prog ((w.alloc ob).alloc (.stringIter (str s) pos)) = .ok (.tuple #[.bool false]) ((w.alloc ob).alloc (.stringIter (str s) pos)) := by
 have := run_next_end (P := Tryz.prog) (w.alloc ob) (str s) pos ty (by rw [str_size]; exact h)
 rwa [World.size_alloc] at this
theorem iterPos_at (w : World) (ob : Obj) (s : ByteArray) (pos : Nat) : ((w.alloc ob).alloc (.stringIter s pos)).iterPos (w.heap.size + 1) = pos := by
 have := (MapKept.heap_alloc (w.alloc ob) (.stringIter s pos)).1
 rw [World.size_alloc] at this
 unfold World.iterPos
 rw [this]
theorem out_lo {op l x : Int} {b : Bool} (h : x < loE op l) : false = (inE op l x && b) := by
 have : ¬ loE op l ≤ x := by omega
 simp [inE, this]
theorem out_hi {op l x : Int} {b : Bool} (h : hiE l < x) : false = (inE op l x && b) := by
 have : ¬ x ≤ hiE l := by omega
 simp [inE, this]
theorem in_e {op l x : Int} {b : Bool} (h : ¬ x < loE op l) (h' : ¬ hiE l < x) : (inE op l x && b) = b := by
 have h1 : loE op l ≤ x := by omega
 have h2 : x ≤ hiE l := by omega
 simp [inE, h1, h2]
theorem fR_r0 (op : Int) (l : UInt8) (r : List UInt8) (n a b c m : Int) (hl : (l.toNat : Int) = 114) (hn : n = 0) : fR op (l :: r) n a b c m = (inE op l.toNat a && fR op r (n + 1) 0 b c m) := by
 rw [fR, if_pos hl, if_pos hn]
theorem fR_r1 (op : Int) (l : UInt8) (r : List UInt8) (n a b c m : Int) (hl : (l.toNat : Int) = 114) (hn : n = 1) : fR op (l :: r) n a b c m = (inE op l.toNat b && fR op r (n + 1) a 0 c m) := by
 rw [fR, if_pos hl, if_neg (by omega), if_pos hn]
theorem fR_r2 (op : Int) (l : UInt8) (r : List UInt8) (n a b c m : Int) (hl : (l.toNat : Int) = 114) (hn : n ≠ 0) (hn1 : n ≠ 1) : fR op (l :: r) n a b c m = (inE op l.toNat c && fR op r (n + 1) a b 0 m) := by
 rw [fR, if_pos hl, if_neg hn, if_neg hn1]
theorem fR_c (op : Int) (l : UInt8) (r : List UInt8) (n a b c m : Int) (hl : (l.toNat : Int) = 99) (h : op ≠ 28) : fR op (l :: r) n a b c m = (inE op l.toNat c && fR op r n a b 0 m) := by
 rw [fR, if_neg (by omega), if_pos ⟨hl, h⟩]
theorem fR_m (op : Int) (l : UInt8) (r : List UInt8) (n a b c m : Int) (hl : (l.toNat : Int) ≠ 114) (h : ¬ ((l.toNat : Int) = 99 ∧ op ≠ 28)) : fR op (l :: r) n a b c m = (inE op l.toNat m && fR op r n a b c 0) := by
 rw [fR, if_neg hl, if_neg h]
theorem drop_cons {s r : List UInt8} {pos : Nat} (h : s.drop pos = r) (hp : pos < s.length) : ∃ r', r = s[pos] :: r' ∧ s.drop (pos + 1) = r' := by
 rw [List.drop_eq_getElem_cons hp] at h
 exact ⟨_, h.symm, rfl⟩

theorem fieldsRight_any (op a b c m : Int) (w : World) (ht : TabIn w) (h0 : 0 ≤ op) (h1 : op < 256) :
   Calls Tryz.prog 101 #[.agg #[.int .u8 op, .int .i64 a, .int .i64 b, .int .i64 c, .int .i64 m]] w fun x w' => x = .returned (.bool (fR op (shapeOf op) 0 a b c m)) ∧ Gr w w' := by
 have hsh := Shape_any op (w.alloc (.cells #[.int .u8 op, .int .i64 a, .int .i64 b, .int .i64 c, .int .i64 m] 41)) (ht.gr ((Gr.refl w).alloc _)) h0 h1
 obtain ⟨hl3, hasc⟩ := letters_small _ (shape_in op h1)
 generalize shapeOf op = s at hsh hl3 hasc
 replace hasc := Hid.mk hasc
 clear ht
 go_enter Tryz.func101, Tryz.ntmps101
 go_wp2_with (go_at_call 107; refine hsh.mono ?_; rintro x w' ⟨rfl, rfl⟩)
 clear hsh
 go_loopw [3] (fun n w' => ∃ (pos : Nat) (r : List UInt8) (n0 a1 b1 c1 m1 : Int), n = .int .i64 n0 ∧ 0 ≤ n0 ∧ n0 ≤ pos ∧ pos ≤ s.length ∧ w' = (w.alloc (.cells #[.int .u8 op, .int .i64 a1, .int .i64 b1, .int .i64 c1, .int .i64 m1] 41)).alloc (.stringIter (str s) pos) ∧ Hid (s.drop pos = r) ∧ Hid (fR op r n0 a1 b1 c1 m1 = fR op s 0 a b c m)) (fun _ w' => s.length - w'.iterPos (w.heap.size + 1))
 case atStart => exact ⟨0, s, 0, a, b, c, m, rfl, by omega, by omega, by omega, rfl, ⟨rfl⟩, ⟨rfl⟩⟩
 case round =>
   obtain ⟨pos, r, n0, a1, b1, c1, m1, rfl, hn0, hnp, hp, rfl, hr, hf⟩ := hrel
   by_cases hlt : pos < s.length
   · obtain ⟨r', rfl, hr'⟩ := drop_cons hr.out hlt
     have hnx := fun ty => next_str w (.cells #[.int .u8 op, .int .i64 a1, .int .i64 b1, .int .i64 c1, .int .i64 m1] 41) s pos ty hlt hasc.out
     clear hr
     generalize s[pos] = l at hf hnx
     by_cases hl : (l.toNat : Int) = 114
     · have q1 : ((l.toNat : Int) == 114) = true := by simpa using hl
       by_cases hz : n0 = 0
       · have rn : regNo n0 = 1 := by simp [regNo, hz]
         have st := fR_r0 op l r' n0 a1 b1 c1 m1 hl hz
         rw [st] at hf
         clear st
         generalize (l.toNat : Int) = L at *
         replace hl := Hid.mk hl
         replace hz := Hid.mk hz
         by_cases g1 : a1 < loE op L
         · have g2 : decide (a1 < loE op L) = true := by simpa using g1
           go_wp2_with (first | (go_at_call 108; refine (register_any _ _ _).mono ?_; rintro x w' ⟨rfl, rfl⟩) | (go_at_call 109; refine (ends_any _ _ _).mono ?_; rintro x w' ⟨rfl, rfl⟩))
           go_ret
           exact ⟨ret_bool ((out_lo g1).trans hf.out), ((Gr.refl w).alloc _).alloc _⟩
         · have g2 : decide (a1 < loE op L) = false := by simpa using g1
           by_cases g3 : hiE L < a1
           · have g4 : decide (hiE L < a1) = true := by simpa using g3
             go_wp2_with (first | (go_at_call 108; refine (register_any _ _ _).mono ?_; rintro x w' ⟨rfl, rfl⟩) | (go_at_call 109; refine (ends_any _ _ _).mono ?_; rintro x w' ⟨rfl, rfl⟩))
             go_ret
             exact ⟨ret_bool ((out_hi g3).trans hf.out), ((Gr.refl w).alloc _).alloc _⟩
           · have g4 : decide (hiE L < a1) = false := by simpa using g3
             rw [in_e g1 g3] at hf
             go_wp2_with (first | (go_at_call 108; refine (register_any _ _ _).mono ?_; rintro x w' ⟨rfl, rfl⟩) | (go_at_call 109; refine (ends_any _ _ _).mono ?_; rintro x w' ⟨rfl, rfl⟩))
             go_roundw
             case rel => exact ⟨pos + 1, r', n0 + 1, 0, b1, c1, m1, rfl, by omega, by omega, by omega, rfl, ⟨hr'⟩, hf⟩
             case measure => rw [iterPos_at, iterPos_at]; omega
       · by_cases ho : n0 = 1
         · have rn : regNo n0 = 2 := by simp [regNo, ho]
           have st := fR_r1 op l r' n0 a1 b1 c1 m1 hl ho
           rw [st] at hf
           clear st
           generalize (l.toNat : Int) = L at *
           replace hl := Hid.mk hl
           replace hz := Hid.mk hz
           replace ho := Hid.mk ho
           by_cases g1 : b1 < loE op L
           · have g2 : decide (b1 < loE op L) = true := by simpa using g1
             go_wp2_with (first | (go_at_call 108; refine (register_any _ _ _).mono ?_; rintro x w' ⟨rfl, rfl⟩) | (go_at_call 109; refine (ends_any _ _ _).mono ?_; rintro x w' ⟨rfl, rfl⟩))
             go_ret
             exact ⟨ret_bool ((out_lo g1).trans hf.out), ((Gr.refl w).alloc _).alloc _⟩
           · have g2 : decide (b1 < loE op L) = false := by simpa using g1
             by_cases g3 : hiE L < b1
             · have g4 : decide (hiE L < b1) = true := by simpa using g3
               go_wp2_with (first | (go_at_call 108; refine (register_any _ _ _).mono ?_; rintro x w' ⟨rfl, rfl⟩) | (go_at_call 109; refine (ends_any _ _ _).mono ?_; rintro x w' ⟨rfl, rfl⟩))
               go_ret
               exact ⟨ret_bool ((out_hi g3).trans hf.out), ((Gr.refl w).alloc _).alloc _⟩
             · have g4 : decide (hiE L < b1) = false := by simpa using g3
               rw [in_e g1 g3] at hf
               go_wp2_with (first | (go_at_call 108; refine (register_any _ _ _).mono ?_; rintro x w' ⟨rfl, rfl⟩) | (go_at_call 109; refine (ends_any _ _ _).mono ?_; rintro x w' ⟨rfl, rfl⟩))
               go_roundw
               case rel => exact ⟨pos + 1, r', n0 + 1, a1, 0, c1, m1, rfl, by omega, by omega, by omega, rfl, ⟨hr'⟩, hf⟩
               case measure => rw [iterPos_at, iterPos_at]; omega
         · have rn : regNo n0 = 3 := by simp [regNo, hz, ho]
           have st := fR_r2 op l r' n0 a1 b1 c1 m1 hl hz ho
           rw [st] at hf
           clear st
           generalize (l.toNat : Int) = L at *
           replace hl := Hid.mk hl
           replace hz := Hid.mk hz
           replace ho := Hid.mk ho
           by_cases g1 : c1 < loE op L
           · have g2 : decide (c1 < loE op L) = true := by simpa using g1
             go_wp2_with (first | (go_at_call 108; refine (register_any _ _ _).mono ?_; rintro x w' ⟨rfl, rfl⟩) | (go_at_call 109; refine (ends_any _ _ _).mono ?_; rintro x w' ⟨rfl, rfl⟩))
             go_ret
             exact ⟨ret_bool ((out_lo g1).trans hf.out), ((Gr.refl w).alloc _).alloc _⟩
           · have g2 : decide (c1 < loE op L) = false := by simpa using g1
             by_cases g3 : hiE L < c1
             · have g4 : decide (hiE L < c1) = true := by simpa using g3
               go_wp2_with (first | (go_at_call 108; refine (register_any _ _ _).mono ?_; rintro x w' ⟨rfl, rfl⟩) | (go_at_call 109; refine (ends_any _ _ _).mono ?_; rintro x w' ⟨rfl, rfl⟩))
               go_ret
               exact ⟨ret_bool ((out_hi g3).trans hf.out), ((Gr.refl w).alloc _).alloc _⟩
             · have g4 : decide (hiE L < c1) = false := by simpa using g3
               rw [in_e g1 g3] at hf
               go_wp2_with (first | (go_at_call 108; refine (register_any _ _ _).mono ?_; rintro x w' ⟨rfl, rfl⟩) | (go_at_call 109; refine (ends_any _ _ _).mono ?_; rintro x w' ⟨rfl, rfl⟩))
               go_roundw
               case rel => exact ⟨pos + 1, r', n0 + 1, a1, b1, 0, m1, rfl, by omega, by omega, by omega, rfl, ⟨hr'⟩, hf⟩
               case measure => rw [iterPos_at, iterPos_at]; omega
     · have q1 : ((l.toNat : Int) == 114) = false := by simpa using hl
       by_cases hc : (l.toNat : Int) = 99 ∧ op ≠ 28
       · have q2 : ((l.toNat : Int) == 99) = true := by simpa using hc.1
         have q3 : (op != 28) = true := by simpa using hc.2
         have st := fR_c op l r' n0 a1 b1 c1 m1 hc.1 hc.2
         rw [st] at hf
         clear st
         generalize (l.toNat : Int) = L at *
         replace hl := Hid.mk hl
         replace hc := Hid.mk hc
         by_cases g1 : c1 < loE op L
         · have g2 : decide (c1 < loE op L) = true := by simpa using g1
           go_wp2_with (first | (go_at_call 108; refine (register_any _ _ _).mono ?_; rintro x w' ⟨rfl, rfl⟩) | (go_at_call 109; refine (ends_any _ _ _).mono ?_; rintro x w' ⟨rfl, rfl⟩))
           go_ret
           exact ⟨ret_bool ((out_lo g1).trans hf.out), ((Gr.refl w).alloc _).alloc _⟩
         · have g2 : decide (c1 < loE op L) = false := by simpa using g1
           by_cases g3 : hiE L < c1
           · have g4 : decide (hiE L < c1) = true := by simpa using g3
             go_wp2_with (first | (go_at_call 108; refine (register_any _ _ _).mono ?_; rintro x w' ⟨rfl, rfl⟩) | (go_at_call 109; refine (ends_any _ _ _).mono ?_; rintro x w' ⟨rfl, rfl⟩))
             go_ret
             exact ⟨ret_bool ((out_hi g3).trans hf.out), ((Gr.refl w).alloc _).alloc _⟩
           · have g4 : decide (hiE L < c1) = false := by simpa using g3
             rw [in_e g1 g3] at hf
             go_wp2_with (first | (go_at_call 108; refine (register_any _ _ _).mono ?_; rintro x w' ⟨rfl, rfl⟩) | (go_at_call 109; refine (ends_any _ _ _).mono ?_; rintro x w' ⟨rfl, rfl⟩))
             go_roundw
             case rel => exact ⟨pos + 1, r', n0, a1, b1, 0, m1, rfl, by omega, by omega, by omega, rfl, ⟨hr'⟩, hf⟩
             case measure => rw [iterPos_at, iterPos_at]; omega
       · by_cases hd : (l.toNat : Int) = 99
         · have q2 : ((l.toNat : Int) == 99) = true := by simpa using hd
           have q3 : (op != 28) = false := by simp; omega
           have st := fR_m op l r' n0 a1 b1 c1 m1 hl hc
           rw [st] at hf
           clear st
           generalize (l.toNat : Int) = L at *
           replace hl := Hid.mk hl
           replace hc := Hid.mk hc
           replace hd := Hid.mk hd
           by_cases g1 : m1 < loE op L
           · have g2 : decide (m1 < loE op L) = true := by simpa using g1
             go_wp2_with (first | (go_at_call 108; refine (register_any _ _ _).mono ?_; rintro x w' ⟨rfl, rfl⟩) | (go_at_call 109; refine (ends_any _ _ _).mono ?_; rintro x w' ⟨rfl, rfl⟩))
             go_ret
             exact ⟨ret_bool ((out_lo g1).trans hf.out), ((Gr.refl w).alloc _).alloc _⟩
           · have g2 : decide (m1 < loE op L) = false := by simpa using g1
             by_cases g3 : hiE L < m1
             · have g4 : decide (hiE L < m1) = true := by simpa using g3
               go_wp2_with (first | (go_at_call 108; refine (register_any _ _ _).mono ?_; rintro x w' ⟨rfl, rfl⟩) | (go_at_call 109; refine (ends_any _ _ _).mono ?_; rintro x w' ⟨rfl, rfl⟩))
               go_ret
               exact ⟨ret_bool ((out_hi g3).trans hf.out), ((Gr.refl w).alloc _).alloc _⟩
             · have g4 : decide (hiE L < m1) = false := by simpa using g3
               rw [in_e g1 g3] at hf
               go_wp2_with (first | (go_at_call 108; refine (register_any _ _ _).mono ?_; rintro x w' ⟨rfl, rfl⟩) | (go_at_call 109; refine (ends_any _ _ _).mono ?_; rintro x w' ⟨rfl, rfl⟩))
               go_roundw
               case rel => exact ⟨pos + 1, r', n0, a1, b1, c1, 0, rfl, by omega, by omega, by omega, rfl, ⟨hr'⟩, hf⟩
               case measure => rw [iterPos_at, iterPos_at]; omega
         · have q2 : ((l.toNat : Int) == 99) = false := by simpa using hd
           have st := fR_m op l r' n0 a1 b1 c1 m1 hl hc
           rw [st] at hf
           clear st
           generalize (l.toNat : Int) = L at *
           replace hl := Hid.mk hl
           replace hc := Hid.mk hc
           replace hd := Hid.mk hd
           by_cases g1 : m1 < loE op L
           · have g2 : decide (m1 < loE op L) = true := by simpa using g1
             go_wp2_with (first | (go_at_call 108; refine (register_any _ _ _).mono ?_; rintro x w' ⟨rfl, rfl⟩) | (go_at_call 109; refine (ends_any _ _ _).mono ?_; rintro x w' ⟨rfl, rfl⟩))
             go_ret
             exact ⟨ret_bool ((out_lo g1).trans hf.out), ((Gr.refl w).alloc _).alloc _⟩
           · have g2 : decide (m1 < loE op L) = false := by simpa using g1
             by_cases g3 : hiE L < m1
             · have g4 : decide (hiE L < m1) = true := by simpa using g3
               go_wp2_with (first | (go_at_call 108; refine (register_any _ _ _).mono ?_; rintro x w' ⟨rfl, rfl⟩) | (go_at_call 109; refine (ends_any _ _ _).mono ?_; rintro x w' ⟨rfl, rfl⟩))
               go_ret
               exact ⟨ret_bool ((out_hi g3).trans hf.out), ((Gr.refl w).alloc _).alloc _⟩
             · have g4 : decide (hiE L < m1) = false := by simpa using g3
               rw [in_e g1 g3] at hf
               go_wp2_with (first | (go_at_call 108; refine (register_any _ _ _).mono ?_; rintro x w' ⟨rfl, rfl⟩) | (go_at_call 109; refine (ends_any _ _ _).mono ?_; rintro x w' ⟨rfl, rfl⟩))
               go_roundw
               case rel => exact ⟨pos + 1, r', n0, a1, b1, c1, 0, rfl, by omega, by omega, by omega, rfl, ⟨hr'⟩, hf⟩
               case measure => rw [iterPos_at, iterPos_at]; omega
   · have hnx := fun ty => next_str_end w (.cells #[.int .u8 op, .int .i64 a1, .int .i64 b1, .int .i64 c1, .int .i64 m1] 41) s pos ty hlt
     have hd : r = [] := by rw [← hr.out, List.drop_eq_nil_iff]; omega
     subst hd
     clear hr
     go_wp2_with fail
     all_goals go_ret
     all_goals refine ⟨?_, ((Gr.refl w).alloc _).alloc _⟩
     all_goals rw [← hf.out]
     all_goals simp [fR, *]
end Go.Proofs.YtdlcphinjnnhcaaGreatDoor
