import Derived.Test.YthmlkcglglcljaaGreatDoorK42
import Derived.Laws.StructEq
import Derived.Test.YthmlkcglglcljaaGreatDoorK44
import Derived.Test.YthmlkcglglcljaaGreatDoorK37
import Derived.Test.YthmlkcglglcljaaGreatDoorK38
import Derived.Test.YthmlkcglglcljaaGreatDoorK31
namespace Go.Proofs.YthmlkcglglcljaaGreatDoor
set_option maxRecDepth 100000
set_option maxHeartbeats 40000000
namespace C
open Go.RowKit
open T (Sep Ob Kp Mf TgIn boxOb Fm Tc Ed Vl Cp Bx tgOb mRow regRow regRow_at regRow_len Vl.row_len)

theorem reg_ext (r : Nat → Vl) (i : Nat) (hi : i < 16) : List.take 7 (List.drop (i * 7) (regRow r 16)) = (r i).row := by
 refine List.ext_getElem? fun j => ?_
 by_cases hj : j < 7
 · rw [List.getElem?_take_of_lt hj, List.getElem?_drop, regRow_at r 16 _ (by omega), show (i * 7 + j) / 7 = i by omega, show (i * 7 + j) % 7 = j by omega]
 · rw [List.getElem?_take_eq_none (by omega), List.getElem?_eq_none (by rw [Vl.row_len]; omega)]
theorem part_v (r : Nat → Vl) (i : Nat) (hi : i < 16) (W : World) : (part 37 (regRow r 16).toArray (i * 7)).run Tryz.prog W = .ok (.agg (r i).row.toArray) W := by
 have h := reg_ext r i hi
 unfold part
 simp [go_sem]
 exact h
theorem val_in (d : Nat) (v : Vl) (W : World) : (Op.equalIn (d + 6) 37 (.agg v.row.toArray) (.agg v.row.toArray)).run Tryz.prog W = .ok true W := by
 obtain ⟨g, n, b, e, c, p, s⟩ := v
 simp [go_sem, Vl.row]
theorem items_v (d : Nat) (r : Nat → Vl) (W : World) : ∀ is : List Nat, (∀ i ∈ is, i < 16) → (Op.eqItems (d + 6) 37 7 (regRow r 16).toArray (regRow r 16).toArray is).run Tryz.prog W = .ok true W
 | [], _ => by simp [Op.eqItems]
 | i :: is, h => by
   have hi := h i (List.mem_cons_self ..)
   simp only [Op.eqItems, Sem.run_bind, part_v r i hi, Result.andThen_ok, val_in d (r i) W]
   simpa using items_v d r W is (fun j hj => h j (List.mem_cons_of_mem _ hj))
theorem arr_in (dd : Nat) (r : Nat → Vl) (W : World) : (Op.equalIn (dd + 7) 38 (.agg (regRow r 16).toArray) (.agg (regRow r 16).toArray)).run Tryz.prog W = .ok true W := by
 have hi := items_v dd r W (List.range 16) (fun i hi => by simpa using hi)
 have ha := run_equalIn_array (P := Tryz.prog) W (dd + 6) (regRow r 16).toArray (regRow r 16).toArray Tryz.underlying38 (e := 37) rfl
 rw [show Tryz.prog.cellsOf 37 = 7 by kernel_rfl, hi] at ha
 exact ha
end C
end Go.Proofs.YthmlkcglglcljaaGreatDoor


namespace Go.Proofs.YthmlkcglglcljaaGreatDoor
namespace C
open Go.RowKit
open T (Sep Ob Kp Mf TgIn boxOb Fm Tc Ed Vl Cp Bx tgOb mRow updV flt)

theorem run_alloc_sn (W : World) : (Instr.alloc 40 true (.tuple #[])).run Tryz.prog W = .ok (.pointer (some ⟨W.heap.size, 0, none⟩)) (W.alloc (.cells (snR zS).toArray 40)) := by
 have : (Instr.alloc 40 true (.tuple #[])).run Tryz.prog W = .ok (.pointer (some ⟨W.heap.size, 0, none⟩)) (W.alloc (.cells Tryz.zeroCells40 40)) := by kernel_rfl
 rw [this, show Tryz.zeroCells40 = (snR zS).toArray by rw [← zero_sn]]
theorem wp_alloc_sn {o : Oper} {a : Act} {K : Act → World → Prop} {Q : Exit → Act → World → Prop} {w : World} (ho : o.op = .alloc 40) (h : K (a.put o.dst (.pointer (some ⟨w.heap.size, 0, none⟩))) (w.alloc (.cells (snR zS).toArray 40))) : o.wp Tryz.prog a w K Q := by
 unfold Oper.wp execOp
 simp only [ho, run_alloc_sn, Sem.run_bind, Sem.run_pure, Result.andThen_ok]
 exact h
end C
end Go.Proofs.YthmlkcglglcljaaGreatDoor


namespace Go.Proofs.YthmlkcglglcljaaGreatDoor
set_option maxRecDepth 100000
set_option maxHeartbeats 40000000
namespace C
open Go.RowKit
open T (Sep Ob Kp Mf TgIn boxOb Fm Tc Ed Vl Cp Bx tgOb mRow updV flt regRow regRow_at regRow_len Vl.row_len)

def rgR (r : Nat → Vl) : List Value := regRow r 16
theorem rgR_len (r : Nat → Vl) : (rgR r).length = 112 := by simp [rgR, regRow_len]
theorem rgR_one (r : Nat → Vl) : (rgR r).toArray.all (fun x => x.oneCell') = true := by
 rw [Array.all_eq_true_iff_forall_mem]
 intro u hu
 exact oneCell_reg r 16 u (by simpa [rgR] using hu)
theorem rgR_at (r : Nat → Vl) (k j : Nat) (hk : k < 16) (hj : j < 7) : (rgR r)[k * 7 + j]? = (r k).row[j]? := by
 unfold rgR
 rw [regRow_at _ 16 _ (by omega), show (k * 7 + j) / 7 = k by omega, show (k * 7 + j) % 7 = j by omega]
theorem run_alloc_rg (W : World) : (Instr.alloc 38 true (.tuple #[])).run Tryz.prog W = .ok (.pointer (some ⟨W.heap.size, 0, none⟩)) (W.alloc (.cells (rgR fun _ => zV).toArray 38)) := by kernel_rfl
theorem wp_alloc_rg {o : Oper} {a : Act} {K : Act → World → Prop} {Q : Exit → Act → World → Prop} {w : World} (ho : o.op = .alloc 38) (h : K (a.put o.dst (.pointer (some ⟨w.heap.size, 0, none⟩))) (w.alloc (.cells (rgR fun _ => zV).toArray 38))) : o.wp Tryz.prog a w K Q := by
 unfold Oper.wp execOp
 simp only [ho, run_alloc_rg, Sem.run_bind, Sem.run_pure, Result.andThen_ok]
 exact h
theorem snR_from (s : Ms) : snR s = [.int .i64 s.at_.gate, .int .i64 s.at_.pc, .int .i64 s.st.length] ++ rgR s.at_.regs := by simp [snR, rgR]
theorem sn_reg {W : World} {k : Nat} {s : Ms} (h : At W k (snR s).toArray) (r : Nat) (hr : r < 16) : W.rangeAt k (3 + r * 7) (s.at_.regs r).row := fun j v q => by
 have hj : j < 7 := by have := (List.getElem?_eq_some_iff.1 q).1; rwa [Vl.row_len] at this
 rw [h.2.1, List.getElem?_toArray, snR_from, List.getElem?_append_right (by simp; omega), show (3 + r * 7 + j) - ([Value.int .i64 s.at_.gate, .int .i64 s.at_.pc, .int .i64 s.st.length] : List Value).length = r * 7 + j by simp; omega, rgR_at _ r j hr hj]
 exact q
theorem sn_regs {W : World} {k : Nat} {s : Ms} (h : At W k (snR s).toArray) : W.rangeAt k 3 (rgR s.at_.regs) := fun j v q => by
 rw [h.2.1, List.getElem?_toArray, snR_from, List.getElem?_append_right (by simp), show (3 + j) - ([Value.int .i64 s.at_.gate, .int .i64 s.at_.pc, .int .i64 s.st.length] : List Value).length = j by simp]
 exact q
theorem rg_reg {W : World} {k : Nat} {f : Nat → Vl} (h : At W k (rgR f).toArray) (r : Nat) (hr : r < 16) : W.rangeAt k (r * 7) (f r).row := fun j v q => by
 have hj : j < 7 := by have := (List.getElem?_eq_some_iff.1 q).1; rwa [Vl.row_len] at this
 rw [h.2.1, List.getElem?_toArray, rgR_at _ r j hr hj]
 exact q
theorem rg_put {W : World} {k : Nat} {f : Nat → Vl} (h : At W k (rgR f).toArray) (r : Nat) (hr : r < 16) (v : Vl) : At (W.setCells k (r * 7) v.row) k (rgR (updV f r v)).toArray := by
 refine At.setRange h (r * 7) v.row (by rw [rgR_len, rgR_len]) (by rw [rgR_len, Vl.row_len]; omega) (fun j hj => ?_) (fun i hi => ?_)
 · rw [Vl.row_len] at hj
   rw [rgR_at _ r j hr hj]
   simp [updV]
 · rw [Vl.row_len] at hi
   by_cases h2 : i < 112
   · unfold rgR
     rw [regRow_at _ 16 _ (by omega), regRow_at _ 16 _ (by omega)]
     have : updV f r v (i / 7) = f (i / 7) := by unfold updV; rw [if_neg (by omega)]
     rw [this]
   · rw [List.getElem?_eq_none (by rw [rgR_len]; omega), List.getElem?_eq_none (by rw [rgR_len]; omega)]
theorem ptv_len (t : PTyp) : t.vals.length = 7 := rfl
theorem vrow_one (v : Vl) : v.row.toArray.all (fun x => x.oneCell') = true := by
 rw [Array.all_eq_true_iff_forall_mem]
 intro u hu
 exact oneCell_vl v u (by simpa using hu)
theorem vrow_info (v : Vl) : (Tryz.prog.info? 37).map (·.size) = some v.row.toArray.size := by rw [List.size_toArray, Vl.row_len]; kernel_rfl
theorem rg_eql (r : Nat → Vl) (W : World) : (binOp .eql 38 (.agg (rgR r).toArray) (.agg (rgR r).toArray)).run Tryz.prog W = .ok (.bool true) W := by
 rw [run_eql_struct, show rgR r = regRow r 16 from rfl, arr_in 9993 r W]
 rfl
theorem rg_neq (r : Nat → Vl) (W : World) : (binOp .neq 38 (.agg (rgR r).toArray) (.agg (rgR r).toArray)).run Tryz.prog W = .ok (.bool false) W := by
 rw [run_neq_struct, show rgR r = regRow r 16 from rfl, arr_in 9993 r W]
 rfl
theorem rootsJ_regs (g e : Nat) (r : Nat → Vl) (L : List PRoot) (j : Nat) (hj : j < L.length) : (rootsJ ⟨g, e, r⟩ L (j + 1)).regs = updV (rootsJ ⟨g, e, r⟩ L j).regs L[j].r.toNat (rootV L[j]) := by
 rw [rootsJ, List.getElem?_eq_getElem hj]; rfl
structure ClA (w : World) (I G : Array Value) (s t : Ms) (k0 k1 k2 kg kw : Nat) (f : Nat → Vl) (W : World) : Prop where
 i : At W k0 I
 s : At W k1 (snR s).toArray
 t : At W k2 (snR t).toArray
 g : At W kg G
 f : At W kw (rgR f).toArray
 b : Bl w W
structure Dif (k0 k1 k2 kg kw n : Nat) : Prop where
 d0 : k0 ≠ kw
 d1 : k1 ≠ kw
 d2 : k2 ≠ kw
 d3 : kg ≠ kw
 n : n ≤ kw
theorem ClA.gr {w : World} {I G : Array Value} {s t : Ms} {k0 k1 k2 kg kw : Nat} {f : Nat → Vl} {W X : World} (h : ClA w I G s t k0 k1 k2 kg kw f W) (g : Bl W X) : ClA w I G s t k0 k1 k2 kg kw f X :=
 ⟨Bl.at_ g h.i, Bl.at_ g h.s, Bl.at_ g h.t, Bl.at_ g h.g, Bl.at_ g h.f, h.b.trans g⟩
theorem ClA.put {w : World} {I G : Array Value} {s t : Ms} {k0 k1 k2 kg kw : Nat} {f : Nat → Vl} {W : World} (h : ClA w I G s t k0 k1 k2 kg kw f W) (d : Dif k0 k1 k2 kg kw w.heap.size) (r : Nat) (hr : r < 16) (v : Vl) : ClA w I G s t k0 k1 k2 kg kw (updV f r v) (W.setCells kw (r * 7) v.row) :=
 ⟨h.i.other d.d0 _ _, h.s.other d.d1 _ _, h.t.other d.d2 _ _, h.g.other d.d3 _ _, rg_put h.f r hr v, h.b.sets kw d.n _ _⟩

theorem cl_w9 {n : Nat} (h : n ≤ 1000000) : IntKind.i64.wrap ((n : Int) + 1) = (n : Int) + 1 := by rw [IntKind.wrap_i64]; omega
theorem cl_w {j j1 : Nat} (h : 1 + j = j1) (h2 : j1 < 16) : wrap64 (1 + (j : Int)) = (j1 : Int) := by unfold wrap64; omega
theorem cl_wi {j j1 : Nat} (h : 1 + j = j1) (h2 : j1 < 16) : IntKind.i64.wrap (1 + (j : Int)) = (j1 : Int) := by rw [IntKind.wrap_i64]; omega
theorem cl_lt {j j1 n : Nat} (h : 1 + j = j1) (hj : j < n) (hn : n ≤ 7) : j1 < 16 := by omega
theorem cl_thr {f : Nat → Vl} {r : Nat} (h : r < 16) : r * 7 + 7 ≤ (rgR f).length := by rw [rgR_len]; omega
theorem cl_at3 (w : World) (A B C : Array Value) (ta tb tc : TypeId) : At (((w.alloc (.cells A ta)).alloc (.cells B tb)).alloc (.cells C tc)) w.heap.size A ∧ At (((w.alloc (.cells A ta)).alloc (.cells B tb)).alloc (.cells C tc)) (w.heap.size + 1) B ∧ At (((w.alloc (.cells A ta)).alloc (.cells B tb)).alloc (.cells C tc)) (w.heap.size + 1 + 1) C ∧ Bl w (((w.alloc (.cells A ta)).alloc (.cells B tb)).alloc (.cells C tc)) := by
 have h1 := At.new w A ta
 have h2 := At.new (w.alloc (.cells A ta)) B tb
 have h3 := At.new ((w.alloc (.cells A ta)).alloc (.cells B tb)) C tc
 simp only [World.size_alloc] at h2 h3
 exact ⟨(h1.alloc _).alloc _, h2.alloc _, h3, (((Bl.refl w).alloc _).alloc _).alloc _⟩
theorem clean_any (m : PImg) (s t : Ms) (g e k : Nat) (ra ca ga : Option Addr) (rc cc gc : Nat) (w : World) (hm : ImgIn w.heap.size w ra ca ga m) (hg : g < m.gates.length) (he : m.gates[g].e = e) (hk : m.gates[g].c = k) (hkl : k < m.comps.length)
   (hr : ∀ x ∈ m.comps[k].roots, 0 ≤ x.r ∧ x.r < 16) (hrl : m.comps[k].roots.length ≤ 1000000) (hal : m.gates[g].args.length ≤ 7) (hfit : fitN s.at_.regs m.gates[g].args m.gates[g].args.length = true)
   (ht : t.at_ = rootsJ ⟨g, e, ovF s.at_.regs (fun _ => zV) m.gates[g].args.length⟩ m.comps[k].roots m.comps[k].roots.length) (htg : t.at_.gate = g) (htp : t.at_.pc = e) (hd : t.st.length = s.st.length + 1) (hdl : s.st.length ≤ 1000000) :
   Calls Tryz.prog 10 #[.agg #[.slice ra m.regs.length rc, .slice ca m.comps.length cc, .slice ga m.gates.length gc, .int .i64 m.depth], .agg (snR s).toArray, .agg (snR t).toArray] w fun x w' => x = .returned (.bool true) ∧ Bl w w' := by
 obtain ⟨gb, goff, xa, xc, ya, yc, rfl, _, hb, c0, c1, c2, c3, hT, z2⟩ := hm.gates g hg
 obtain ⟨cb, coff, la, lc, ka, kc, rfl, _, hb2, d0, d1, hR, z3⟩ := hm.comps k hkl
 rw [hk] at c0
 rw [he] at c1
 have g1 : (g : Int) < m.gates.length := by omega
 have g2 : (k : Int) < m.comps.length := by omega
 clear he hk z2 z3 hm
 generalize m.gates[g].args = Ty at *
 generalize m.gates[g].res.length = nres at *
 generalize m.comps[k].code.length = nk at *
 generalize m.comps[k].roots = L at *
 generalize m.gates.length = ng at *
 generalize m.comps.length = nc at *
 generalize m.regs.length = nr at *
 generalize m.depth = dep at *
 clear m
 replace hT := Hz.mk hT
 replace hR := Hz.mk hR
 replace hr := Hz.mk hr
 replace ht := Hz.mk ht
 replace hfit := Hz.mk hfit
 replace htp := Hz.mk htp
 replace hd := Hz.mk hd
 go_enter Tryz.func10, Tryz.ntmps10
 go_upto_region 1 with fail
 refine wp_world (fun W => ∃ k0 k1 k2, k0 = w.heap.size ∧ k1 = w.heap.size + 1 ∧ k2 = w.heap.size + 1 + 1 ∧ At W k0 #[.slice ra nr rc, .slice (some ⟨cb, coff, none⟩) nc cc, .slice (some ⟨gb, goff, none⟩) ng gc, .int .i64 dep] ∧ At W k1 (snR s).toArray ∧ At W k2 (snR t).toArray ∧ Bl w W) ⟨_, _, _, rfl, rfl, rfl, cl_at3 w _ _ _ _ _ _⟩ ?_
 rintro W ⟨k0, k1, k2, q0, q1, q2, a0, a1, a2, gW⟩
 rw [← q2, ← q1, ← q0]
 have l0 := a0.1
 have l2 := a2.1
 have x2 : W.cell? ⟨k0, 2, none⟩ = some (.slice (some ⟨gb, goff, none⟩) ng gc) := a0.2.1 2
 have x0 : W.cell? ⟨k2, 0, none⟩ = some (.int .i64 (g : Nat)) := (a2.2.1 0).trans (by rw [← htg]; rfl)
 have y0 := (gW.cell (p := ⟨gb, _, none⟩) hb).trans c0
 have y1 := (gW.cell (p := ⟨gb, _, none⟩) hb).trans c1
 have y2 := (gW.cell (p := ⟨gb, _, none⟩) hb).trans c2
 have y3 := (gW.cell (p := ⟨gb, _, none⟩) hb).trans c3
 have lb : gb < W.heap.size := Nat.lt_of_lt_of_le hb gW.size
 clear c0 c1 c2 c3
 replace htg := Hz.mk htg
 replace a0 := Hz.mk a0
 replace a1 := Hz.mk a1
 replace a2 := Hz.mk a2
 replace gW := Hz.mk gW
 replace q0 := Hz.mk q0
 replace q1 := Hz.mk q1
 replace q2 := Hz.mk q2
 replace hb := Hz.mk hb
 go_upto_region 2 with fail
 have gA := Hz.mk ((Bl.refl W).alloc (.cells #[.int .i64 (k : Nat), .int .i64 (e : Nat), .slice xa Ty.length xc, .slice ya nres yc] 53))
 refine wp_world (fun X => At X W.heap.size #[.int .i64 (k : Nat), .int .i64 (e : Nat), .slice xa Ty.length xc, .slice ya nres yc] ∧ Bl W X) ⟨At.new W _ _, gA.out⟩ ?_
 rintro X ⟨a3, gX⟩
 obtain ⟨kg, hkg⟩ : ∃ kg, W.heap.size = kg := ⟨_, rfl⟩
 rw [hkg] at a3 ⊢
 replace hkg := Hz.mk hkg
 replace a3 := Hz.mk a3
 replace gX := Hz.mk gX
 clear x2 x0 y0 y1 y2 y3 l0 l2 lb gA
 refine wp_region_lit ?_
 refine wpList_plain rfl (fun K hK => ?_)
 refine wp_alloc_rg rfl (hK _ _ ?_)
 clear hK K
 try simp only [xap]
 have hC : Hz (ClA w #[.slice ra nr rc, .slice (some ⟨cb, coff, none⟩) nc cc, .slice (some ⟨gb, goff, none⟩) ng gc, .int .i64 dep] #[.int .i64 (k : Nat), .int .i64 (e : Nat), .slice xa Ty.length xc, .slice ya nres yc] s t k0 k1 k2 kg X.heap.size (fun _ => zV) (X.alloc (.cells (rgR fun _ => zV).toArray 38))) := Hz.mk (by
   have gN : Bl X (X.alloc (.cells (rgR fun _ => zV).toArray 38)) := (Bl.refl X).alloc _
   have gY := gX.out.trans gN
   exact ⟨Bl.at_ gY a0.out, Bl.at_ gY a1.out, Bl.at_ gY a2.out, Bl.at_ gN a3.out, At.new X _ _, gW.out.trans gY⟩)
 have hD : Hz (Dif k0 k1 k2 kg X.heap.size w.heap.size) := Hz.mk (by
   have h0 := a0.out.1
   have h1 := a1.out.1
   have h2 := a2.out.1
   have h3 := a3.out.1
   have h4 := gX.out.size
   have h5 := gW.out.size
   exact ⟨by omega, by omega, by omega, by omega, by omega⟩)
 generalize X.alloc _ = Y at *
 generalize X.heap.size = kw at *
 clear a0 a1 a2 a3 gW gX q0 q1 q2 hkg
 go_wp2_with fail
 go_loopw [9] (fun i wr => ∃ j : Nat, i = .int .i64 j ∧ j ≤ Ty.length ∧ ClA w #[.slice ra nr rc, .slice (some ⟨cb, coff, none⟩) nc cc, .slice (some ⟨gb, goff, none⟩) ng gc, .int .i64 dep] #[.int .i64 (k : Nat), .int .i64 (e : Nat), .slice xa Ty.length xc, .slice ya nres yc] s t k0 k1 k2 kg kw (ovF s.at_.regs (fun _ => zV) j) wr) (fun i _ => Ty.length - (intOf i).toNat)
 case atStart => exact ⟨0, rfl, Nat.zero_le _, by rw [ovF_zero]; exact hC.out⟩
 case round =>
   clear hC
   obtain ⟨j, rfl, hj, hC⟩ := hrel
   have lg := hC.g.1
   have u2 : wr.cell? ⟨kg, 2, none⟩ = some (.slice xa Ty.length xc) := hC.g.2.1 2
   by_cases hjl : j < Ty.length
   · have jl : (j : Int) < Ty.length := by omega
     obtain ⟨j1, hj1⟩ : ∃ j1, 1 + j = j1 := ⟨_, rfl⟩
     have hj16 : j1 < 16 := cl_lt hj1 hjl hal
     have w1 : wrap64 (1 + (j : Int)) = (j1 : Int) := cl_w hj1 hj16
     have w1b : IntKind.i64.wrap (1 + (j : Int)) = (j1 : Int) := cl_wi hj1 hj16
     have j16 : (j1 : Int) < 16 := Int.ofNat_lt.2 hj16
     obtain ⟨tb, toff, rfl, _, htb, hc⟩ := hT.out j hjl
     have hS : vfit (s.at_.regs j1) Ty[j] = true := by rw [← hj1]; exact fitN_at hfit.out j hjl hjl
     have hN : ovF s.at_.regs (fun _ => zV) (j + 1) = updV (ovF s.at_.regs (fun _ => zV) j) j1 (s.at_.regs j1) := by rw [ovF_next, hj1]
     have hrg := Hz.mk (sn_reg hC.s j1 hj16)
     have hth := Hz.mk (At.there hC.f (j1 * 7) 7 (cl_thr hj16))
     have hC1 := Hz.mk (hC.put hD.out j1 hj16 (s.at_.regs j1))
     rw [← hN] at hC1
     have hv0 := hN
     clear hN
     have hvt : Hz (∀ X, ClA w #[.slice ra nr rc, .slice (some ⟨cb, coff, none⟩) nc cc, .slice (some ⟨gb, goff, none⟩) ng gc, .int .i64 dep] #[.int .i64 (k : Nat), .int .i64 (e : Nat), .slice (some ⟨tb, toff, none⟩) Ty.length xc, .slice ya nres yc] s t k0 k1 k2 kg kw (ovF s.at_.regs (fun _ => zV) (j + 1)) X → X.rangeAt kw (j1 * 7) (s.at_.regs j1).row) := Hz.mk (fun X q => by
       have := rg_reg q.f j1 hj16
       rw [hv0] at this
       simpa [updV] using this)
     have hF : Hz (∀ X, Calls Tryz.prog 11 #[.agg (s.at_.regs j1).row.toArray, .agg (PTyp.vals Ty[j]).toArray] X fun x w' => x = .returned (.bool true) ∧ Bl X w') := Hz.mk (fun X => (Fits_any (s.at_.regs j1).g (s.at_.regs j1).n (s.at_.regs j1).c.b (s.at_.regs j1).c.e (s.at_.regs j1).c.c (s.at_.regs j1).c.p (s.at_.regs j1).c.s Ty[j] X).mono (by rintro x w' ⟨rfl, g⟩; exact ⟨by rw [← hS]; rfl, g.below⟩))
     have hty : Hz (∀ X, Bl w X → X.rangeAt tb (toff + j * 7) (PTyp.vals Ty[j])) := Hz.mk (fun X q i v hv => by
       have hi : i < 7 := by have := (List.getElem?_eq_some_iff.1 hv).1; rwa [ptv_len] at this
       rw [(q.cell (p := ⟨tb, _, none⟩) htb), hc i hi]
       exact hv)
     have htl : Hz (∀ X, Bl w X → tb < X.heap.size) := Hz.mk (fun X q => Nat.lt_of_lt_of_le htb q.size)
     clear hc hS hv0
     generalize s.at_.regs j1 = v at *
     generalize Ty[j] = ty at *
     replace hC := Hz.mk hC
     go_upto_region 6 with fail
     clear u2 lg
     refine wp_region_lit ?_
     iterate 6 (refine wpList_plain rfl (fun K hK => ?_); go_simp; with_reducible refine hK _ _ ?_; clear hK K; (try simp only [xap]))
     refine wpList_load_mid rfl _ _ rfl _ (3 + j1 * 7) rfl v.row _ hrg.out Tryz.underlying37 rfl (by rw [Vl.row_len]; kernel_rfl) ?_
     try simp only [xap]
     refine wpList_plain rfl (fun K hK => ?_)
     go_simp
     with_reducible refine hK _ _ ?_
     clear hK K
     try simp only [xap]
     refine wpList_store_mid rfl _ _ _ rfl _ _ (List.toArray v.row) rfl rfl (by rw [List.size_toArray, Vl.row_len]; exact hth.out) (vrow_info v) (vrow_one v) ?_
     try simp only [Act.put]
     clear hrg hth hC
     generalize World.setCells _ _ _ _ = X6 at *
     have hKg : Hz (∀ X, Bl X6 X → X.cell? ⟨kg, 2, none⟩ = some (.slice (some ⟨tb, toff, none⟩) Ty.length xc)) := Hz.mk (fun X q => (hC1.out.gr q).g.2.1 2)
     have KS : Hz (∀ X, Bl X6 X → X.rangeAt kw (j1 * 7) v.row ∧ X.cell? ⟨kg, 2, none⟩ = some (.slice (some ⟨tb, toff, none⟩) Ty.length xc) ∧ X.rangeAt tb (toff + j * 7) ty.vals) := Hz.mk (fun X q => ⟨hvt.out X (hC1.out.gr q), hKg.out X q, hty.out X (hC1.out.gr q).b⟩)
     clear hvt hKg hty
     go_upto_region 7 with fail
     have gD := Hz.mk ((Bl.refl X6).drew)
     refine wp_region_held_drew (S := (fun X => X.rangeAt kw (j1 * 7) v.row ∧ X.cell? ⟨kg, 2, none⟩ = some (.slice (some ⟨tb, toff, none⟩) Ty.length xc) ∧ X.rangeAt tb (toff + j * 7) ty.vals)) (by kernel_rfl) (KS.out _ gD.out) (fun hHeld => ?_)
     refine xso 0 ?_ rfl ?_ (xso 1 ?_ rfl ?_ (xso 2 ?_ rfl ?_ ?_))
     iterate 3 (rotate_left; focus ((try simp only [xap]); intro w hSw; (try dsimp only at hSw); go_simp; first | done | with_reducible rfl))
     try simp only [xap]
     refine xtk 3 rfl (yieldsIf_load_mid (by rfl) _ _ rfl _ _ rfl _ _ (fun _ h => h.1) Tryz.underlying37 rfl (by rw [Vl.row_len]; kernel_rfl)) ?_
     try simp only [xap]
     refine xso 4 ?_ rfl ?_ (xso 5 ?_ rfl ?_ (xso 6 ?_ rfl ?_ (xso 7 ?_ rfl ?_ ?_)))
     iterate 4 (rotate_left; focus ((try simp only [xap]); intro w hSw; (try dsimp only at hSw); go_simp; first | done | with_reducible rfl))
     try simp only [xap]
     refine xtk 8 rfl (yieldsIf_load_mid (by rfl) _ _ rfl _ _ rfl _ _ (fun _ h => h.2.2) Tryz.underlying60 rfl (by rw [ptv_len]; kernel_rfl)) ?_
     try simp only [xap]
     refine xrd 9 rfl (fun K hK => ?_)
     go_simp
     clear hHeld
     refine (hF.out _).mono ?_
     rintro r X2 ⟨rfl, e1⟩
     refine hK.out _ _ (KS.out _ (gD.out.trans e1)) (fun hHeld => ?_)
     clear hK K
     try simp only [xap]
     refine xso 10 ?_ rfl ?_ ?_
     rotate_left
     · intro w hSw; (try dsimp only at hSw); go_simp; first | done | with_reducible rfl
     try simp only [xap]
     refine xdn ?_ _
     clear hHeld KS
     have gE := Hz.mk (gD.out.trans e1)
     clear e1 gD hF
     clear w1 w1b j16 hj16 htl
     replace hj1 := Hz.mk hj1
     go_upto_region 8 with fail
     go_upto_region 5 with fail
     go_wp2_with fail
     exact ⟨⟨j + 1, by go_num, by omega, hC1.out.gr gE.out⟩, by simp [intOf]; omega⟩
   · have jl : ¬ (j : Int) < Ty.length := by omega
     obtain rfl : j = Ty.length := by omega
     replace hC := Hz.mk hC
     have u0 : wr.cell? ⟨kg, 0, none⟩ = some (.int .i64 (k : Nat)) := hC.out.g.2.1 0
     have v1 : wr.cell? ⟨k0, 1, none⟩ = some (.slice (some ⟨cb, coff, none⟩) nc cc) := hC.out.i.2.1 1
     have l0 := hC.out.i.1
     have z0 := (hC.out.b.cell (p := ⟨cb, _, none⟩) hb2).trans d0
     have lb : cb < wr.heap.size := Nat.lt_of_lt_of_le hb2 hC.out.b.size
     go_upto_region 12 with fail
     clear u0 v1 z0 u2 lg l0 lb
     go_wp2_with fail
     go_loopw [12] (fun i wr => ∃ j : Nat, i = .int .i64 j ∧ j ≤ L.length ∧ ClA w #[.slice ra nr rc, .slice (some ⟨cb, coff, none⟩) nc cc, .slice (some ⟨gb, goff, none⟩) ng gc, .int .i64 dep] #[.int .i64 (k : Nat), .int .i64 (e : Nat), .slice xa Ty.length xc, .slice ya nres yc] s t k0 k1 k2 kg kw (rootsJ ⟨g, e, ovF s.at_.regs (fun _ => zV) Ty.length⟩ L j).regs wr) (fun i _ => L.length - (intOf i).toNat)
     case atStart => exact ⟨0, rfl, Nat.zero_le _, hC.out⟩
     case round =>
       clear hC
       obtain ⟨j, rfl, hj, hC⟩ := hrel
       by_cases hjl : j < L.length
       · have jl2 : (j : Int) < L.length := by omega
         obtain ⟨rb, roff, rfl, _, hrb, hc⟩ := hR.out j hjl
         have hx := hr.out L[j] (List.getElem_mem hjl)
         have hN := rootsJ_regs g e (ovF s.at_.regs (fun _ => zV) Ty.length) L j hjl
         obtain ⟨r, hr1⟩ : ∃ r : Nat, L[j].r = r := ⟨L[j].r.toNat, by omega⟩
         have hr2 : L[j].r.toNat = r := by omega
         have hr3 : r < 16 := by omega
         have r16 : (r : Int) < 16 := by omega
         rw [hr2] at hN
         have hth := Hz.mk (At.there (Bl.at_ (Bl.refl wr).drew hC.f) (r * 7) 7 (cl_thr hr3))
         have hC0 := Hz.mk (hC.gr (Bl.refl wr).drew)
         have hC1 := Hz.mk (hC0.out.put hD.out r hr3 (rootV L[j]))
         rw [← hN] at hC1
         have hlr : Hz (∀ X, Bl w X → rb < X.heap.size) := Hz.mk (fun X q => Nat.lt_of_lt_of_le hrb q.size)
         have KS : Hz (∀ {f : Nat → Vl} X, ClA w #[.slice ra nr rc, .slice (some ⟨cb, coff, none⟩) nc cc, .slice (some ⟨gb, goff, none⟩) ng gc, .int .i64 dep] #[.int .i64 (k : Nat), .int .i64 (e : Nat), .slice xa Ty.length xc, .slice ya nres yc] s t k0 k1 k2 kg kw f X → X.cell? ⟨rb, roff + j * 6, none⟩ = some (.int .i64 (r : Nat)) ∧ X.cell? ⟨rb, roff + j * 6 + 1, none⟩ = some (.int .u64 L[j].b) ∧ X.cell? ⟨rb, roff + j * 6 + 2, none⟩ = some (.int .u64 L[j].e) ∧ X.cell? ⟨rb, roff + j * 6 + 3, none⟩ = some (.int .u64 L[j].c) ∧ X.cell? ⟨rb, roff + j * 6 + 4, none⟩ = some (.int .u8 L[j].p) ∧ X.cell? ⟨rb, roff + j * 6 + 5, none⟩ = some (.int .i64 L[j].s)) := Hz.mk (fun {f} X q => by
           have b0 := (q.b.cell (p := ⟨rb, _, none⟩) hrb).trans (hc 0 (by omega))
           have b1 := (q.b.cell (p := ⟨rb, _, none⟩) hrb).trans (hc 1 (by omega))
           have b2 := (q.b.cell (p := ⟨rb, _, none⟩) hrb).trans (hc 2 (by omega))
           have b3 := (q.b.cell (p := ⟨rb, _, none⟩) hrb).trans (hc 3 (by omega))
           have b4 := (q.b.cell (p := ⟨rb, _, none⟩) hrb).trans (hc 4 (by omega))
           have b5 := (q.b.cell (p := ⟨rb, _, none⟩) hrb).trans (hc 5 (by omega))
           simp only [PRoot.vals, List.getElem?_cons_zero, List.getElem?_cons_succ, hr1, Nat.add_zero] at b0 b1 b2 b3 b4 b5
           exact ⟨b0, b1, b2, b3, b4, b5⟩)
         clear hc hN hx hr1 hr2
         generalize hfj : rootsJ ⟨g, e, ovF s.at_.regs (fun _ => zV) Ty.length⟩ L (j + 1) = fj1 at *
         replace hfj := Hz.mk hfj
         generalize L[j] = x at *
         replace hC := Hz.mk hC
         go_upto_region 14 with fail
         clear hC
         refine wp_region_held_drew (S := (fun X => X.cell? ⟨rb, roff + j * 6, none⟩ = some (.int .i64 (r : Nat)) ∧ X.cell? ⟨rb, roff + j * 6 + 1, none⟩ = some (.int .u64 x.b) ∧ X.cell? ⟨rb, roff + j * 6 + 2, none⟩ = some (.int .u64 x.e) ∧ X.cell? ⟨rb, roff + j * 6 + 3, none⟩ = some (.int .u64 x.c) ∧ X.cell? ⟨rb, roff + j * 6 + 4, none⟩ = some (.int .u8 x.p) ∧ X.cell? ⟨rb, roff + j * 6 + 5, none⟩ = some (.int .i64 x.s))) (by kernel_rfl) (KS.out _ hC0.out) (fun hHeld => ?_)
         refine xso 0 ?_ rfl ?_ (xso 1 ?_ rfl ?_ (xso 2 ?_ rfl ?_ (xso 3 ?_ rfl ?_ (xso 4 ?_ rfl ?_ (xso 5 ?_ rfl ?_ (xso 6 ?_ rfl ?_ (xso 7 ?_ rfl ?_ (xso 8 ?_ rfl ?_ (xso 9 ?_ rfl ?_ (xso 10 ?_ rfl ?_ (xso 11 ?_ rfl ?_ ?_)))))))))))
         iterate 12 (rotate_left; focus ((try simp only [xap]); intro w hSw; (try dsimp only at hSw); go_simp; first | done | with_reducible rfl))
         try simp only [xap]
         refine xrd 12 rfl (fun K hK => ?_)
         clear hHeld
         try rw [if_pos (by rfl)]
         refine wp_store_mid _ _ _ rfl _ _ (List.toArray (rootV x).row) rfl rfl (by rw [List.size_toArray, Vl.row_len]; exact hth.out) (vrow_info _) (vrow_one _) ?_
         refine hK.out _ _ (KS.out _ hC1.out) (fun hHeld => ?_)
         clear hK K
         try simp only [Act.put]
         refine xdn ?_ _
         clear hHeld KS
         clear hth hC0 hlr
         generalize World.setCells _ _ _ _ = X9 at *
         go_wp2_with fail
         exact ⟨⟨j + 1, by go_num, by omega, by rw [hfj.out]; exact hC1.out⟩, by simp [intOf]; omega⟩
       · have jl2 : ¬ (j : Int) < L.length := by omega
         obtain rfl : j = L.length := by omega
         have hfe : t.at_.regs = (rootsJ ⟨g, e, ovF s.at_.regs (fun _ => zV) Ty.length⟩ L L.length).regs := by rw [ht.out]
         rw [← hfe] at hC
         clear hfe
         have hr1 := Hz.mk (sn_regs hC.t)
         have hr2 := Hz.mk (At.range hC.f)
         have s2 : wr.cell? ⟨k1, 2, none⟩ = some (.int .i64 s.st.length) := hC.s.2.1 2
         have t1 : wr.cell? ⟨k2, 1, none⟩ = some (.int .i64 (e : Nat)) := (hC.t.2.1 1).trans (by rw [← htp.out]; rfl)
         have t2 : wr.cell? ⟨k2, 2, none⟩ = some (.int .i64 ((s.st.length : Int) + 1)) := (hC.t.2.1 2).trans (by rw [show (s.st.length : Int) + 1 = (t.st.length : Nat) by rw [hd.out]; rfl]; rfl)
         have g1_ : wr.cell? ⟨kg, 1, none⟩ = some (.int .i64 (e : Nat)) := hC.g.2.1 1
         have l1 := hC.s.1
         have l2 := hC.t.1
         have l3 := hC.g.1
         have l4 := hC.f.1
         have gF := Hz.mk hC.b
         replace hC := Hz.mk hC
         have w9 : wrap64 ((s.st.length : Int) + 1) = (s.st.length : Int) + 1 := by unfold wrap64; omega
         have w9b : IntKind.i64.wrap ((s.st.length : Int) + 1) = (s.st.length : Int) + 1 := cl_w9 hdl
         have heq := rg_eql t.at_.regs
         generalize t.at_.regs = fe at *
         go_upto_region 15 with fail
         refine wp_region_lit ?_
         refine wpList_plain rfl (fun K hK => ?_)
         go_simp
         with_reducible refine hK _ _ ?_
         clear hK K
         try simp only [xap]
         refine wpList_plain rfl (fun K hK => ?_)
         refine wp_load_mid _ _ rfl _ 3 rfl (rgR fe) _ hr1.out Tryz.underlying38 rfl (by rw [rgR_len]; kernel_rfl) (hK _ _ ?_)
         clear hK K
         try simp only [xap]
         refine wpList_plain rfl (fun K hK => ?_)
         refine wp_load_mid _ _ rfl _ 0 rfl (rgR fe) _ hr2.out Tryz.underlying38 rfl (by rw [rgR_len]; kernel_rfl) (hK _ _ ?_)
         clear hK K
         try simp only [xap]
         iterate 2 (refine wpList_plain rfl (fun K hK => ?_); go_simp; with_reducible refine hK _ _ ?_; clear hK K; (try simp only [xap]))
         refine BigFrame.wpList_want (by rfl) (fun K hK => ?_)
         go_simp
         with_reducible refine hK _ _ ?_
         clear hK K
         try simp only [xap]
         refine BigFrame.wpList_want (by rfl) (fun K hK => ?_)
         go_simp
         with_reducible refine hK _ _ ?_
         clear hK K
         try simp only [xap]
         refine BigFrame.wpList_want (by rfl) (fun K hK => ?_)
         go_simp
         with_reducible refine hK _ _ ?_
         clear hK K
         try simp only [xap]
         refine BigFrame.wpList_want (by rfl) (fun K hK => ?_)
         go_simp
         with_reducible refine hK _ _ ?_
         clear hK K
         try simp only [xap]
         refine BigFrame.wpList_want (by rfl) (fun K hK => ?_)
         go_simp
         with_reducible refine hK _ _ ?_
         clear hK K
         try simp only [xap]
         iterate 2 (refine wpList_plain rfl (fun K hK => ?_); go_simp; with_reducible refine hK _ _ ?_; clear hK K; (try simp only [xap]))
         refine BigFrame.wpList_want (by rfl) (fun K hK => ?_)
         go_simp
         with_reducible refine hK _ _ ?_
         clear hK K
         try simp only [xap]
         refine BigFrame.wpList_want (by rfl) (fun K hK => ?_)
         go_simp
         with_reducible refine hK _ _ ?_
         clear hK K
         try simp only [xap]
         refine BigFrame.wpList_want (by rfl) (fun K hK => ?_)
         go_simp
         with_reducible refine hK _ _ ?_
         clear hK K
         try simp only [xap]
         refine BigFrame.wpList_want (by rfl) (fun K hK => ?_)
         go_simp
         with_reducible refine hK _ _ ?_
         clear hK K
         try simp only [xap]
         refine BigFrame.wpList_want (by rfl) (fun K hK => ?_)
         go_simp
         with_reducible refine hK _ _ ?_
         clear hK K
         try simp only [xap]
         refine BigFrame.wpList_want (by rfl) (fun K hK => ?_)
         go_simp
         with_reducible refine hK _ _ ?_
         clear hK K
         try simp only [xap]
         iterate 2 (refine wpList_plain rfl (fun K hK => ?_); go_simp; with_reducible refine hK _ _ ?_; clear hK K; (try simp only [xap]))
         clear hr1 hr2
         go_wp2_with fail
         go_ret
         exact ⟨rfl, gF.out⟩
end C
end Go.Proofs.YthmlkcglglcljaaGreatDoor


namespace Go.Proofs.YthmlkcglglcljaaGreatDoor
namespace C
open Go.RowKit
open T (Sep Ob Kp Mf TgIn boxOb Fm Tc Ed Vl Cp Bx tgOb mRow updV flt regRow regRow_at regRow_len Vl.row_len kp_setCells)

theorem MIn.sideL {B : Nat} {W W' : World} {a : Nat} {P : PImg} {s : Ms} (l1 l2 : List Ob) {o o' : Ob} (h : MIn B W a P s (l1 ++ o :: l2)) (hi : o'.In W') (hk : Kp o.S W W') (hn : ∀ k, o'.S k → o.S k ∨ W.heap.size ≤ k) : MIn B W' a P s (l1 ++ o' :: l2) ∧ Below B W W' := by
 obtain ⟨⟨q, h1, hp⟩, le⟩ := h
 have e : ∀ x : Ob, obs B a P s q ++ (l1 ++ x :: l2) = (obs B a P s q ++ l1) ++ x :: l2 := fun x => (List.append_assoc _ _ _).symm
 rw [e] at h1
 refine ⟨⟨⟨q, ?_, hp⟩, Nat.le_trans le hk.size⟩, sep_below (l1 := obs B a P s q ++ l1) (o := o) (l2 := l2) h1 hk le⟩
 rw [e]
 exact sep_change (l1 := obs B a P s q ++ l1) (o := o) (o' := o') (l2 := l2) h1 hi hk hn le
def skOb (B : Nat) (v : Value) (K : List Ms) : Ob := rowOb B 40 115 v K.length (K.flatMap snR)
theorem sks_len (K : List Ms) : (K.flatMap snR).length = K.length * 115 := flat_len snR_len K
theorem MIn.voidK {B : Nat} {W : World} {a : Nat} {P : PImg} {s : Ms} (h : MIn B W a P s []) : MIn B W a P s [skOb B (.slice none ([] : List Ms).length 0) []] := h.add (skOb B (.slice none 0 0) []) (World.ownsRow_nil _ _ _ _) (fun k q => by cases q) (Below.refl _ _)
theorem MIn.intoV {B : Nat} {W : World} {a : Nat} {P : PImg} {s : Ms} (l1 l2 : List Ob) {k : Nat} {f : Nat → Vl} (h : MIn B W a P s (l1 ++ boxOb k (rgR f).toArray :: l2)) (r : Nat) (hr : r < 16) (v : Vl) : MIn B (W.setCells k (r * 7) v.row) a P s (l1 ++ boxOb k (rgR (updV f r v)).toArray :: l2) ∧ Below B W (W.setCells k (r * 7) v.row) := by
 have hA : At W k (rgR f).toArray := h.there (boxOb k (rgR f).toArray) (by simp)
 exact h.sideL l1 l2 (o' := boxOb k (rgR (updV f r v)).toArray) (rg_put hA r hr v) (kp_setCells (fun b => b = k) k rfl _ _ W) (fun _ r => .inl r)
theorem MIn.layC {B : Nat} {W : World} {a : Nat} {P : PImg} {s : Ms} {l : List Ob} (h : MIn B W a P s l) (cs vs : List Value) (ty : TypeId) (hl : vs.length = cs.length) :
   MIn B ((W.alloc (.cells cs.toArray ty)).setCells W.heap.size 0 vs) a P s (boxOb W.heap.size vs.toArray :: l) ∧ Below B W ((W.alloc (.cells cs.toArray ty)).setCells W.heap.size 0 vs) ∧ (W.alloc (.cells cs.toArray ty)).there W.heap.size 0 vs.length := by
 obtain ⟨h2, b2⟩ := h.new cs.toArray ty
 have hA := At.new W cs.toArray ty
 have hA9 := At.setAll hA vs hl
 obtain ⟨h3, b3⟩ := h2.side (o' := boxOb W.heap.size vs.toArray) hA9 (kp_setCells (fun b => b = W.heap.size) W.heap.size rfl _ _ _) (fun _ r => .inl r)
 exact ⟨h3, b2.trans b3, hA.there 0 vs.length (by omega)⟩
theorem MIn.pushK {B : Nat} {W W' : World} {a : Nat} {P : PImg} {s : Ms} (l1 : List Ob) {v : Value} {K : List Ms} (k : Ms) (h : MIn B W a P s (l1 ++ [skOb B v K])) {g cap : Nat} (hown : W'.ownsRow B 40 115 (.slice (some ⟨g, 0, none⟩) (K.length + 1) cap) (K.length + 1) (K.flatMap snR ++ snR k)) (gr : W.grownBy W' v.ownBlock) (hg : v.ownBlock = some g ∨ g = W.heap.size) :
   MIn B W' a P s (l1 ++ [skOb B (.slice (some ⟨g, 0, none⟩) (K.length + 1) cap) (K ++ [k])]) ∧ Below B W W' := by
 refine h.sideL l1 [] (o' := skOb B (.slice (some ⟨g, 0, none⟩) (K.length + 1) cap) (K ++ [k])) ?_ (kp_grown gr) (fun b r => ?_)
 · show W'.ownsRow B _ 115 _ (K ++ [k]).length ((K ++ [k]).flatMap snR)
   rw [List.length_append, List.flatMap_append]
   simpa using hown
 · have e : g = b := by simpa [skOb, rowOb, Value.ownBlock] using r
   rcases hg with u | u
   · exact .inl (e ▸ u)
   · exact .inr (by omega)
theorem own_atK {w : World} {lo e k n : Nat} {v : Value} {xs : List Value} (h : w.ownsRow lo e k v n xs) (h0 : 0 < n) : ∃ g cap, v = .slice (some ⟨g, 0, none⟩) n cap ∧ g < w.heap.size ∧ n ≤ cap ∧ ∀ j u, xs[j]? = some u → w.cell? ⟨g, j, none⟩ = some u := by
 have hlt := h.lt
 rcases h.2 with ⟨_, h9⟩ | ⟨g, cap, cur, e1, hb, hg, hc1, hc2, hc3, hc4⟩
 · omega
 · refine ⟨g, cap, e1, (hlt g (by rw [e1]; rfl)).2, hc1, fun j u q => ?_⟩
   have hj : j < xs.length := (List.getElem?_eq_some_iff.1 q).1
   rw [h.1] at hj
   have : w.cell? ⟨g, j, none⟩ = cur[j]? := by simp [World.cell?, hg]
   rw [this, ← q, ← hc4, List.getElem?_take_of_lt hj]
   simp
theorem MIn.topK {B : Nat} {W : World} {a : Nat} {P : PImg} {s : Ms} (l1 : List Ob) {va : Option Addr} {vc : Nat} {K : List Ms} {k : Ms} (h : MIn B W a P s (l1 ++ [skOb B (.slice va (K ++ [k]).length vc) (K ++ [k])])) :
   ∃ g, va = some ⟨g, 0, none⟩ ∧ g < W.heap.size ∧ W.rangeAt g (K.length * 115) (snR k) ∧ K.length ≤ vc ∧ MIn B W a P s (l1 ++ [skOb B (.slice va K.length vc) K]) := by
 have hO : W.ownsRow B 40 115 (.slice va (K ++ [k]).length vc) (K ++ [k]).length ((K ++ [k]).flatMap snR) := h.there (skOb B (.slice va (K ++ [k]).length vc) (K ++ [k])) (by simp)
 obtain ⟨g, cap, e, hg, hcap, hc⟩ := own_atK hO (by simp)
 injection e with e1 e2 e3
 subst e1 e3
 have hpop := own_pop (n := K.length) (ys := K.flatMap snR) (a := some ⟨g, 0, none⟩) (c := vc) (by rw [List.length_append] at hO; exact hO) (by rfl) (by rw [List.flatMap_append, List.take_append_of_le_length (by rw [sks_len]; exact Nat.le_refl _), List.take_of_length_le (by rw [sks_len]; exact Nat.le_refl _)])
 refine ⟨g, rfl, hg, fun j u q => ?_, ?_, ?_⟩
 · refine hc _ u ?_
   rw [List.flatMap_append, List.getElem?_append_right (by rw [sks_len]; omega), sks_len, show K.length * 115 + j - K.length * 115 = j by omega]
   simpa using q
 · rw [List.length_append] at hcap
   omega
 · exact (h.sideL l1 [] (o' := skOb B (.slice (some ⟨g, 0, none⟩) K.length vc) K) hpop (Kp.refl _ W) (fun b r => .inl r)).1
theorem build_sks (k : Ms) (W : World) : (Instr.buildSlice 31 1 #[(0, .agg (snR k).toArray)]).run Tryz.prog W = .ok (.slice (some ⟨W.heap.size, 0, none⟩) 1 1) (W.alloc (.cells (snR k).toArray 40)) := by kernel_rfl
theorem wp_build_sks {o : Oper} {a : Act} {K : Act → World → Prop} {Q : Exit → Act → World → Prop} {w : World} (x : Operand) (ho : o.op = .buildSlice 31 1 #[(0, x)]) (k : Ms) (hx : a.eval x = .agg (snR k).toArray)
   (h : K (a.put o.dst (.slice (some ⟨w.heap.size, 0, none⟩) 1 1)) (w.alloc (.cells (snR k).toArray 40))) : o.wp Tryz.prog a w K Q := by
 unfold Oper.wp execOp
 simp only [ho, List.map_toArray, List.map_cons, List.map_nil, hx, build_sks, Sem.run_bind, Sem.run_pure, Result.andThen_ok]
 exact h
theorem sn_ones (k : Ms) : ∀ u ∈ snR k, u.oneCell' = true := fun u hu => by
 have := snR_one k
 rw [Array.all_eq_true_iff_forall_mem] at this
 exact this u (List.mem_toArray.2 hu)
end C
end Go.Proofs.YthmlkcglglcljaaGreatDoor
