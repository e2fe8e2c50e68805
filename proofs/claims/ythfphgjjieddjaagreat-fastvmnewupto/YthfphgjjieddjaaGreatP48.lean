import Derived.Test.YthfphgjjieddjaaGreatP37
import Derived.Test.YthfphgjjieddjaaGreatP29
import Derived.Test.YthfphgjjieddjaaGreatP35
import Derived.Test.YthfphgjjieddjaaGreatP45
import Derived.Test.YthfphgjjieddjaaGreatP30
import Derived.Test.YthfphgjjieddjaaGreatP46
namespace Go.Proofs.YthfphgjjieddjaaGreat
set_option maxRecDepth 100000
set_option maxHeartbeats 40000000
namespace Z
open Go.RowKit
open T (Sep Ob Kp Mf FlIn boxOb)

theorem lent2_any (R : Rp) (ca ga : Option Addr) (cc gc : Nat) (mem : ByteArray) (w : World) (hP : RpIn w ca ga R) (hc : R.code.length ≤ 1500000) (hr : ∀ r ∈ R.code, r.length ≤ 2000000) (hg : R.gates.length ≤ 2000000) :
   Calls Tryz.prog 17 #[.agg #[.slice ca R.code.length cc, .slice ga R.gates.length gc, .string mem, .int .i64 R.dep]] w fun x w' => ∃ kc kg la lc K, x = .returned (.tuple #[.agg #[.slice (some ⟨kc, 0, none⟩) R.code.length (R.code.length + 8), .slice (some ⟨kg, 0, none⟩) R.gates.length (R.gates.length + 8), .string mem, .int .i64 R.dep], .slice la R.code.length lc]) ∧ LnA w.heap.size w'.heap.size w' kc kg K (.slice la R.code.length lc) R ∧ Below w.heap.size w w' := by
 have w1 : Hz (wrap64 ((R.code.length : Int) + 8) = (R.code.length : Int) + 8) := Hz.mk (w8Z _ (by omega))
 have w3 : Hz (wrap64 ((R.gates.length : Int) + 8) = (R.gates.length : Int) + 8) := Hz.mk (w8Z _ hg)
 replace hg := Hz.mk hg
 replace hr := Hz.mk hr
 go_enter Tryz.func17, Tryz.ntmps17
 go_upto_region 1 with fail
 refine wp_world (fun W => At W w.heap.size #[.slice ca R.code.length cc, .slice ga R.gates.length gc, .string mem, .int .i64 R.dep] ∧ At W (w.heap.size + 1) #[.slice none 0 0, .slice none 0 0, .string ⟨#[]⟩, .int .i64 0] ∧ Gr w W ∧ W.heap.size = w.heap.size + 1 + 1) ⟨(At.new w _ _).alloc _, At.at_ _ _ _ (by simp), ((Gr.refl _).alloc _).alloc _, by simp⟩ ?_
 rintro W ⟨hQ, hZ, G, hs⟩
 have hkp : Hz (w.heap.size < W.heap.size) := Hz.mk hQ.1
 have hkz : Hz (w.heap.size + 1 < W.heap.size) := Hz.mk hZ.1
 have d0 : W.cell? ⟨w.heap.size, 0, none⟩ = some (.slice ca R.code.length cc) := hQ.2.1 0
 have hPW := Hz.mk (hP.gr G)
 clear hP
 have mk1 := make_rowZ (t := 22) (e := 43) (z := .slice none 0 0) (b := 24) Tryz.underlying22 (by kernel_rfl) rfl (by decide) (R.code.length + 8) (by omega) W
 rw [show ((R.code.length + 8 : Nat) : Int) = (R.code.length : Int) + 8 by omega] at mk1
 have hL0 := Hz.mk (show Ln2 W (W.alloc (.cells (Array.replicate (R.code.length + 8) (.slice none 0 0)) 43)) W.heap.size R.code 0 (fun _ => 0) from ⟨(FRow.new W (R.code.length + 8) _ _).congr (fun j _ => by unfold rowF; rw [if_neg (by omega)]), fun j hj => absurd hj (Nat.not_lt_zero j), fun i j hi => absurd hi (Nat.not_lt_zero i), (Below.refl _ W).alloc (Nat.le_refl _) _, Nat.le_refl _⟩)
 generalize hWW : W.alloc (.cells (Array.replicate (R.code.length + 8) (.slice none 0 0)) 43) = W3 at *
 clear hWW
 have hgW : Hz (W.heap.size ≤ W.heap.size) := Hz.mk (Nat.le_refl _)
 replace w1 := w1.out
 generalize hgg : W.heap.size = g at mk1 hL0
 replace hgg := Hz.mk hgg
 replace hQ := Hz.mk hQ
 replace hZ := Hz.mk hZ
 replace G := Hz.mk G
 replace hs := Hz.mk hs
 go_upto_region 4 with fail
 clear mk1 w1
 replace d0 := Hz.mk d0
 go_loopw [5, 6] (fun v x wr => ∃ (la : Option Addr) (lc k : Nat) (KK : Nat → Nat), v = .slice la k lc ∧ x = .int .i64 k ∧ k ≤ R.code.length ∧ Hz (Ln2 W wr g R.code k KK) ∧ Hz (wr.ownsRow W.heap.size 43 1 (.slice la k lc) k (rwsL R.code KK k)) ∧ Hz (Apt2 (.slice la k lc) g k KK)) (fun _ x _ => R.code.length - (intOf x).toNat)
 case atStart => exact ⟨none, 0, 0, _, rfl, rfl, Nat.zero_le _, hL0, Hz.mk (World.ownsRow_nil _ _ _ _), Hz.mk (fun b r => by cases r)⟩
 case round =>
   clear hL0
   obtain ⟨la, lc, k, KK, rfl, rfl, hk, hL, hown, hap⟩ := hrel
   have e0 := (T.cell_of_block (hL.out.bel.block w.heap.size hkp.out) 0).trans d0.out
   by_cases hkl : k < R.code.length
   · have hk1 : (k : Int) < (R.code.length : Int) := Int.ofNat_lt.2 hkl
     obtain ⟨b, off, ra, rc, rfl, hb, hcc, hE⟩ := hPW.out.code k hkl
     have e1 : wr.cell? ⟨b, off + k, none⟩ = some (.slice ra R.code[k].length rc) := (T.cell_of_block (hL.out.bel.block b hb) _).trans hcc
     have hlr : R.code[k].length ≤ 2000000 := hr.out _ (List.getElem_mem hkl)
     have w2 : wrap64 ((R.code[k].length : Int) + 8) = (R.code[k].length : Int) + 8 := w8Z _ hlr
     have u2 : (R.code[k].length : Int) ≤ (R.code[k].length : Int) + 8 := by omega
     obtain ⟨V9, V2, hmk, hcp, hE3, q9, q2, hl2, hl9⟩ := made_copyY (vals := Ri.vals) (Z := riZ) (k := 5) (b := 40) (by omega) ri_len ri_one 3 Tryz.underlying43 (by kernel_rfl) (by kernel_rfl) R.code[k] ra rc wr (hE.below hL.out.bel) (by omega) hlr
     replace hE3 := Hz.mk hE3
     replace q2 := Hz.mk q2
     replace q9 := Hz.mk q9
     replace hl2 := Hz.mk hl2
     replace hl9 := Hz.mk hl9
     replace hcc := Hz.mk hcc
     replace hE := Hz.mk hE
     have hlw := Hz.mk (hown.out.lt)
     have hkg := Hz.mk hL.out.row.lt
     have hkq := Hz.mk (fun j (hj : j < k) => (hL.out.done j hj).2.2.1)
     have hbw : Hz (b < wr.heap.size) := Hz.mk (Nat.lt_of_lt_of_le hb hL.out.bel.size)
     have hpw : Hz (w.heap.size < wr.heap.size) := Hz.mk (Nat.lt_of_lt_of_le hkp.out hL.out.bel.size)
     have hWr : Hz (W.heap.size ≤ wr.heap.size) := Hz.mk hL.out.bel.size
     go_upto_region 7 with fail
     clear hmk w2
     have e2 := (T.cell_of_block (q9.out.below.block w.heap.size hpw.out) 0).trans e0
     have e3 := (T.cell_of_block (q9.out.below.block b hbw.out) _).trans e1
     go_upto_region 8 with fail
     clear hcp e2 e3
     have e2 := (T.cell_of_block (q2.out.below.block w.heap.size hpw.out) 0).trans e0
     have e3 := (T.cell_of_block (q2.out.below.block b hbw.out) _).trans e1
     clear e0 e1
     replace hL := Hz.mk (hL.out.gr q2.out)
     replace hown := Hz.mk (own_grZ hown.out q2.out)
     have hgk : Hz (∀ b, (Value.slice la k lc).ownBlock = some b → b ≠ wr.heap.size) := Hz.mk (fun b r => by have := (hlw.out b r).2; omega)
     have hgn : Hz (wr.heap.size ≠ g) := Hz.mk (by have := hkg.out; omega)
     have hgq : Hz (∀ j, j < k → KK j ≠ wr.heap.size) := Hz.mk (fun j hj => by have := hkq.out j hj; omega)
     have c2 := hL.out.row.at_ k (by omega)
     have f2 := hL.out.row.fr k
     have k2 : (k : Int) < (R.code.length : Int) + 8 := by omega
     generalize wr.heap.size = gk at *
     have hL3 := Hz.mk (hL.out.lay hkl hWr.out hgn.out hgq.out hE3.out)
     have hap3 := Hz.mk (hap.out.lay hgk.out)
     have hown3 := Hz.mk (own_setZ (g := g) (j := k) hown.out (.slice (some ⟨gk, 0, none⟩) R.code[k].length (R.code[k].length + 8)) (fun r => (hap.out g r).1 rfl))
     go_upto_region 9 with fail
     clear c2 f2 e2 e3 k2 u2 hL hap hown
     have hL := hL3
     have hap := hap3
     have hown := hown3
     clear hL3 hap3 hown3 hE3 q2 q9 hl2 hl9
     generalize World.setCell _ _ _ = V3 at *
     refine wp_region_lit ?_
     iterate 3 (refine wpList_plain rfl (fun K hK => ?_); go_simp; with_reducible refine hK _ _ ?_; clear hK K; (try simp only [xap]))
     have hX : At (V3.alloc (.cells #[.slice (some ⟨gk, 0, none⟩) (R.code[k].length + 8) (R.code[k].length + 8)] 43)) V3.heap.size #[.slice (some ⟨gk, 0, none⟩) (R.code[k].length + 8) (R.code[k].length + 8)] := At.new V3 _ _
     have ho2 : (V3.alloc (.cells #[.slice (some ⟨gk, 0, none⟩) (R.code[k].length + 8) (R.code[k].length + 8)] 43)).ownsRow W.heap.size 43 1 (.slice la k lc) k (rwsL R.code (updN KK k gk) k) := (by rw [rwsL_upd]; exact hown.out.alloc _)
     have hL4 := Hz.mk (hL.out.gr ((Gr.refl V3).alloc (.cells #[.slice (some ⟨gk, 0, none⟩) (R.code[k].length + 8) (R.code[k].length + 8)] 43)))
     have hlt4 : V3.heap.size < (V3.alloc (.cells #[.slice (some ⟨gk, 0, none⟩) (R.code[k].length + 8) (R.code[k].length + 8)] 43)).heap.size := hX.1
     generalize hVV : V3.alloc (.cells #[.slice (some ⟨gk, 0, none⟩) (R.code[k].length + 8) (R.code[k].length + 8)] 43) = V4 at *
     clear hVV
     generalize V3.heap.size = kX at *
     have hv4 := Hz.mk (fun b (r : (Value.slice la k lc).ownBlock = some b) => (ho2.lt b r).1)
     have hbs : W.heap.size ≤ V4.heap.size := hL4.out.bel.size
     clear hL hown hlt4
     refine wpList_plain rfl (fun K hK => ?_)
     refine wp_append_zz _ _ 22 43 (.slice none 0 0) 1 24 rfl Tryz.underlying22 (by kernel_rfl) (by kernel_rfl) (by decide) (by decide) W.heap.size (.slice la k lc) k (rwsL R.code (updN KK k gk) k) [.slice (some ⟨gk, 0, none⟩) (R.code[k].length + 8) (R.code[k].length + 8)] (by rfl) ho2 kX (by rfl) hX rfl (by simp [Value.oneCell']) (by omega) hbs ?_
     intro g9 cap w9 k1 k2 k3
     obtain ⟨hL5, ap5⟩ := hL4.out.app (n9 := k + 1) (c9 := cap) hap.out k2 hv4.out k3
     replace hL5 := Hz.mk hL5
     replace ap5 := Hz.mk ap5
     replace k1 := Hz.mk k1
     clear k2 k3 ho2 hX hv4 hL4 hap
     refine hK _ _ ?_
     clear hK K
     try simp only [xap]
     go_wp2_with fail
     refine ⟨⟨_, _, k + 1, updN KK k gk, rfl, ?_, hkl, hL5, Hz.mk (by rw [rwsL_succ, show rwE R.code (updN KK k gk) k = .slice (some ⟨gk, 0, none⟩) (R.code[k].length + 8) (R.code[k].length + 8) by unfold rwE; rw [updN_at]; simp [hkl]]; exact k1.out), ap5⟩, ?_⟩
     · first | rfl | (rw [show wrap64 ((k : Int) + 1) = ((k + 1 : Nat) : Int) by unfold wrap64; omega]) | go_num
     · first | (simp [intOf]; omega) | (rw [show wrap64 ((k : Int) + 1) = ((k + 1 : Nat) : Int) by unfold wrap64; omega]; simp [intOf]; omega)
   · obtain rfl : k = R.code.length := by omega
     have hk1 : ¬ (R.code.length : Int) < (R.code.length : Int) := by omega
     have hPr := Hz.mk (show RpIn wr ca ga R from hPW.out.below_ hL.out.bel)
     have d1 : Hz (wr.cell? ⟨w.heap.size, 1, none⟩ = some (.slice ga R.gates.length gc)) := Hz.mk ((T.cell_of_block (hL.out.bel.block w.heap.size hkp.out) 1).trans (hQ.out.2.1 1))
     go_upto_region 10 with fail
     have hQr := Hz.mk (at_below hQ.out hL.out.bel hkp.out)
     have hZr := Hz.mk (at_below hZ.out hL.out.bel hkz.out)
     clear e0 hk1
     replace d1 := d1.out
     replace w3 := w3.out
     have u3 : (R.gates.length : Int) ≤ (R.gates.length : Int) + 8 := by omega
     obtain ⟨V9, V2, hmk, hcp, hE3, q9, q2, hl2, hl9⟩ := made_copyY (vals := Rg.vals) (Z := rgZ) (k := 19) (b := 152) (by omega) Rg.len rg_one 3 Tryz.underlying23 (by kernel_rfl) (by kernel_rfl) R.gates ga gc wr (gate_ein hPr.out) (by omega) hg.out
     replace hE3 := Hz.mk hE3
     replace q2 := Hz.mk q2
     replace q9 := Hz.mk q9
     replace hl2 := Hz.mk hl2
     replace hl9 := Hz.mk hl9
     go_upto_region 11 with fail
     clear hmk w3 d1
     have d1 : V9.cell? ⟨w.heap.size, 1, none⟩ = some (.slice ga R.gates.length gc) := (hQr.out.gr q9.out).2.1 1
     go_upto_region 12 with fail
     clear hcp d1
     have hL9 := Hz.mk (hL.out.gr q2.out)
     have hown9 := Hz.mk (own_grZ hown.out q2.out)
     have hz1 : Hz (W.heap.size ≤ wr.heap.size) := Hz.mk hL.out.bel.size
     have hz2 : Hz (wr.heap.size ≠ g) := Hz.mk (by have := hL.out.row.lt; omega)
     have hz3 : Hz (∀ j, j < R.code.length → KK j ≠ wr.heap.size) := Hz.mk (fun j hj => by have := (hL.out.done j hj).2.2.1; omega)
     have hz4 : Hz (∀ b, (Value.slice la R.code.length lc).ownBlock = some b → b ≠ wr.heap.size) := Hz.mk (fun b r => by have := (hown.out.lt b r).2; omega)
     replace hQr := Hz.mk (hQr.out.gr q2.out)
     replace hZr := Hz.mk (hZr.out.gr q2.out)
     have hgk : Hz (wr.heap.size ≠ w.heap.size ∧ wr.heap.size ≠ w.heap.size + 1) := Hz.mk (by have := hs.out; have := hL.out.bel.size; omega)
     have hgg2 : Hz (g ≠ w.heap.size ∧ g ≠ w.heap.size + 1) := Hz.mk (by have := hs.out; have := hgg.out; omega)
     clear hL hPr q9 q2 hown
     generalize wr.heap.size = kg at *
     have c0 : V2.cell? ⟨w.heap.size, 0, none⟩ = some (.slice ca R.code.length cc) := hQr.out.2.1 0
     have f0 : V2.frozen? ⟨w.heap.size, 0, none⟩ = false := hQr.out.2.2 0
     have u1 : (R.code.length : Int) ≤ (R.code.length : Int) + 8 := by omega
     have kp0 := Kp.set (S := fun b => b = w.heap.size) V2 ⟨w.heap.size, 0, none⟩ (.slice (some ⟨g, 0, none⟩) R.code.length (R.code.length + 8)) rfl
     have hQ1 := Hz.mk (hQr.out.set 0 (.slice (some ⟨g, 0, none⟩) R.code.length (R.code.length + 8)) (by simp))
     have hZ1 := Hz.mk (hZr.out.set_other (j := 0) (.slice (some ⟨g, 0, none⟩) R.code.length (R.code.length + 8)) (show w.heap.size ≠ w.heap.size + 1 by omega))
     replace kp0 := Hz.mk kp0
     go_upto_region 13 with fail
     clear c0 f0 u1 hQr hZr
     generalize World.setCell _ _ _ = V4 at *
     have c0 : V4.cell? ⟨w.heap.size, 1, none⟩ = some (.slice ga R.gates.length gc) := hQ1.out.2.1 1
     have f0 : V4.frozen? ⟨w.heap.size, 1, none⟩ = false := hQ1.out.2.2 1
     have kp1 := Hz.mk (kp0.out.trans (Kp.set (S := fun b => b = w.heap.size) V4 ⟨w.heap.size, 1, none⟩ (.slice (some ⟨kg, 0, none⟩) R.gates.length (R.gates.length + 8)) rfl) (fun _ r => .inl r))
     have hQ2 := Hz.mk (hQ1.out.set 1 (.slice (some ⟨kg, 0, none⟩) R.gates.length (R.gates.length + 8)) (by simp))
     have hZ2 := Hz.mk (hZ1.out.set_other (j := 1) (.slice (some ⟨kg, 0, none⟩) R.gates.length (R.gates.length + 8)) (show w.heap.size ≠ w.heap.size + 1 by omega))
     go_upto_region 14 with fail
     clear c0 f0 u3 hQ1 hZ1 kp0
     generalize World.setCell _ _ _ = V5 at *
     have hRng := Hz.mk (show V5.rangeAt w.heap.size 0 [Value.slice (some ⟨g, 0, none⟩) R.code.length (R.code.length + 8), .slice (some ⟨kg, 0, none⟩) R.gates.length (R.gates.length + 8), .string mem, .int .i64 R.dep] from fun j v q => by rw [Nat.zero_add]; exact (hQ2.out.2.1 j).trans (by simpa using q))
     have hTh := Hz.mk (hZ2.out.there 0 4 (by simp))
     have hZ3 := Hz.mk (At.setAll (cs := [.slice none 0 0, .slice none 0 0, .string ⟨#[]⟩, .int .i64 0]) hZ2.out [Value.slice (some ⟨g, 0, none⟩) R.code.length (R.code.length + 8), .slice (some ⟨kg, 0, none⟩) R.gates.length (R.gates.length + 8), .string mem, .int .i64 R.dep] rfl)
     have kp2 := Hz.mk (kp_setsZ V5 (w.heap.size + 1) [Value.slice (some ⟨g, 0, none⟩) R.code.length (R.code.length + 8), .slice (some ⟨kg, 0, none⟩) R.gates.length (R.gates.length + 8), .string mem, .int .i64 R.dep] 0)
     refine wp_region_lit ?_
     refine wpList_plain rfl (fun K hK => ?_)
     refine wp_load_mid _ _ rfl _ 0 rfl [Value.slice (some ⟨g, 0, none⟩) R.code.length (R.code.length + 8), .slice (some ⟨kg, 0, none⟩) R.gates.length (R.gates.length + 8), .string mem, .int .i64 R.dep] _ hRng.out Tryz.underlying25 rfl (by kernel_rfl) (hK _ _ ?_)
     clear hK K
     try simp only [xap]
     refine wpList_plain rfl (fun K hK => ?_)
     go_simp
     with_reducible refine hK _ _ ?_
     clear hK K
     try simp only [xap]
     refine wpList_plain rfl (fun K hK => ?_)
     refine wp_store_mid _ _ _ rfl _ _ (List.toArray [Value.slice (some ⟨g, 0, none⟩) R.code.length (R.code.length + 8), .slice (some ⟨kg, 0, none⟩) R.gates.length (R.gates.length + 8), .string mem, .int .i64 R.dep]) rfl rfl hTh.out (by kernel_rfl) (by simp [Value.oneCell']) (hK _ _ ?_)
     clear hK K
     try simp only [Act.put]
     refine wpList_plain rfl (fun K hK => ?_)
     go_simp
     with_reducible refine hK _ _ ?_
     clear hK K
     try simp only [xap]
     generalize World.setCells _ _ _ _ = V6 at *
     have hrun := Hz.mk (run_loadVar_mid (P := Tryz.prog) V6 (w.heap.size + 1) 0 25 [Value.slice (some ⟨g, 0, none⟩) R.code.length (R.code.length + 8), .slice (some ⟨kg, 0, none⟩) R.gates.length (R.gates.length + 8), .string mem, .int .i64 R.dep] _ (fun j v q => by rw [Nat.zero_add]; exact (hZ3.out.2.1 j).trans (by simpa using q)) Tryz.underlying25 rfl (by kernel_rfl))
     go_wp2_with fail
     have hfin : LnA w.heap.size V6.heap.size V6 g kg KK (.slice la R.code.length lc) R := ln_fin hL9.out hown9.out hap.out hE3.out kp1.out kp2.out hs.out hz1.out hz2.out hz3.out hz4.out
     have hbel : Below w.heap.size w V6 := G.out.below.trans ((hL9.out.bel.mono (by have := hs.out; omega)).trans ((kp1.out.below (by have := hs.out; have := hL9.out.bel.size; omega) (fun k r => by have : k = w.heap.size := r; omega)).trans (kp2.out.below (by have := hs.out; have := hL9.out.bel.size; have := kp1.out.size; omega) (fun k r => by have : k = w.heap.size + 1 := r; omega))))
     refine bodyPost_ret (v := .tuple #[.agg (List.toArray [Value.slice (some ⟨g, 0, none⟩) R.code.length (R.code.length + 8), .slice (some ⟨kg, 0, none⟩) R.gates.length (R.gates.length + 8), .string mem, .int .i64 R.dep]), .slice la R.code.length lc]) ?_ rfl ⟨g, kg, la, lc, KK, rfl, hfin, hbel⟩
     exact results_row2 Tryz.results17 _ _ rfl rfl hrun.out
end Z
end Go.Proofs.YthfphgjjieddjaaGreat


namespace Go.Proofs.YthfphgjjieddjaaGreat
set_option maxRecDepth 100000
set_option maxHeartbeats 40000000
namespace Z
open Go.RowKit
open T (Sep Ob Kp Mf FlIn boxOb)

theorem dnew_no70 (R : Rp) (ca ga : Option Addr) (cc gc : Nat) (mem : List UInt8) (gate : Int) (sa : Option Addr) (n sc : Nat) (vi : Value) (w : World) (hP : RpIn w ca ga R) (is : R.Is) (hrl : ∀ r ∈ R.code, r.length ≤ 2000000) (h : ¬ (R.Ok (T.str mem).size ∧ 0 ≤ gate ∧ gate < (R.gates.length : Int))) :
   Calls Tryz.prog 18 #[.agg #[.slice ca R.code.length cc, .slice ga R.gates.length gc, .string (T.str mem), .int .i64 R.dep], .int .i64 gate, .slice sa n sc, vi] w fun x w' => x = .returned (.tuple #[.pointer none, .int .i64 70]) ∧ Gr w w' := by
 go_enter Tryz.func18, Tryz.ntmps18
 go_upto_region 1 with fail
 refine wp_world (fun W => At W w.heap.size #[.slice ca R.code.length cc, .slice ga R.gates.length gc, .string (T.str mem), .int .i64 R.dep] ∧ Gr w W) ⟨At.new w _ _, (Gr.refl _).alloc _⟩ ?_
 rintro W ⟨hA, G⟩
 generalize w.heap.size = kp at *
 have d0 : W.cell? ⟨kp, 0, none⟩ = some (.slice ca R.code.length cc) := hA.2.1 0
 have d1 : W.cell? ⟨kp, 1, none⟩ = some (.slice ga R.gates.length gc) := hA.2.1 1
 have d2 : W.cell? ⟨kp, 2, none⟩ = some (.string (T.str mem)) := hA.2.1 2
 have d3 : W.cell? ⟨kp, 3, none⟩ = some (.int .i64 R.dep) := hA.2.1 3
 have hmy := Hz.mk (dmay_any R ca ga cc gc (T.str mem) W (hP.gr G) is hrl)
 replace hP := Hz.mk (hP.gr G)
 go_wp2_with fail
 refine hmy.out.mono ?_
 rintro r V ⟨⟨b, rfl, hb⟩, gV⟩
 replace hA := hA.gr gV
 replace G := G.trans gV
 replace hP := Hz.mk (hP.out.gr gV)
 clear d0 d1 d2 d3 hmy gV
 have d1 : V.cell? ⟨kp, 1, none⟩ = some (.slice ga R.gates.length gc) := hA.2.1 1
 replace hA := Hz.mk hA
 cases b
 · clear h hb
   go_wp2_with fail
   go_ret2
   exact ⟨rfl, G⟩
 · have ok := Hz.mk (hb.1 rfl)
   clear hb
   by_cases h0 : gate < 0
   · clear h
     go_wp2_with fail
     go_ret2
     exact ⟨rfl, G⟩
   · have h1 : (R.gates.length : Int) ≤ gate := by
       by_cases q : gate < (R.gates.length : Int)
       · exact absurd ⟨ok.out, by omega, q⟩ h
       · omega
     clear h
     go_wp2_with fail
     go_ret2
     exact ⟨rfl, G⟩
theorem dnew_no71 (R : Rp) (ca ga : Option Addr) (cc gc : Nat) (mem : List UInt8) (gate : Nat) (sa : Option Addr) (n sc : Nat) (vi : Value) (w : World) (hP : RpIn w ca ga R) (is : R.Is) (hrl : ∀ r ∈ R.code, r.length ≤ 2000000) (ok : R.Ok (T.str mem).size) (hg : gate < R.gates.length) (h : (n : Int) ≠ R.gates[gate].a) :
   Calls Tryz.prog 18 #[.agg #[.slice ca R.code.length cc, .slice ga R.gates.length gc, .string (T.str mem), .int .i64 R.dep], .int .i64 gate, .slice sa n sc, vi] w fun x w' => x = .returned (.tuple #[.pointer none, .int .i64 71]) ∧ Gr w w' := by
 have h2 : ((n : Int) != R.gates[gate].a) = true := by simpa using h
 replace ok := Hz.mk ok
 replace h := Hz.mk h
 have hi : (gate : Int) < (R.gates.length : Int) := Int.ofNat_lt.2 hg
 have hi2 : ¬ (R.gates.length : Int) ≤ (gate : Int) := by omega
 go_enter Tryz.func18, Tryz.ntmps18
 go_upto_region 1 with fail
 refine wp_world (fun W => At W w.heap.size #[.slice ca R.code.length cc, .slice ga R.gates.length gc, .string (T.str mem), .int .i64 R.dep] ∧ Gr w W) ⟨At.new w _ _, (Gr.refl _).alloc _⟩ ?_
 rintro W ⟨hA, G⟩
 generalize w.heap.size = kp at *
 have d0 : W.cell? ⟨kp, 0, none⟩ = some (.slice ca R.code.length cc) := hA.2.1 0
 have d1 : W.cell? ⟨kp, 1, none⟩ = some (.slice ga R.gates.length gc) := hA.2.1 1
 have d2 : W.cell? ⟨kp, 2, none⟩ = some (.string (T.str mem)) := hA.2.1 2
 have d3 : W.cell? ⟨kp, 3, none⟩ = some (.int .i64 R.dep) := hA.2.1 3
 have hmy := Hz.mk (dmay_any R ca ga cc gc (T.str mem) W (hP.gr G) is hrl)
 replace hP := Hz.mk (hP.gr G)
 go_wp2_with fail
 refine hmy.out.mono ?_
 rintro r V ⟨⟨b, rfl, hb⟩, gV⟩
 replace hA := hA.gr gV
 replace G := G.trans gV
 replace hP := Hz.mk (hP.out.gr gV)
 clear d0 d1 d2 d3 hmy gV
 have d1 : V.cell? ⟨kp, 1, none⟩ = some (.slice ga R.gates.length gc) := hA.2.1 1
 replace hA := Hz.mk hA
 obtain rfl : b = true := hb.2 ok.out
 clear hb
 obtain ⟨gb, goff, rfl, _, hr⟩ := hP.out.gate gate hg
 have d5 : V.cell? ⟨gb, goff + gate * 19 + 1, none⟩ = some (.int .i64 R.gates[gate].a) := hr 1 _ rfl
 replace hr := Hz.mk hr
 go_wp2_with fail
 go_ret2
 exact ⟨rfl, G⟩
end Z
end Go.Proofs.YthfphgjjieddjaaGreat


namespace Go.Proofs.YthfphgjjieddjaaGreat
set_option maxRecDepth 100000
set_option maxHeartbeats 40000000
namespace Z
open Go.RowKit
open T (Sep Ob Kp Mf FlIn boxOb)

theorem dstep_numbers (B : Nat) (W0 : World) (b : Nat) (c : Dc) (P : Pr) (s : Fm) (l : List Ob) (h : DIo B W0 b c P s s.g s.p l) (he : s.e = 0) (hg : s.g < P.code.length) (hpg : DPg B W0 c P) (i : Fi) (s1 : Fm) (hp : s.p < P.code[s.g].length) (hi : P.code[s.g][s.p] = i) (hvf : s1.e = 0 → s1.v = 0 ∧ s1.f = 0) (hop : i.op < 20) (hcon : ∀ V l', DIo B V b c P s s.g s.p l' → DPg B V c P → Calls Tryz.prog 52 #[.pointer (some ⟨b, 0, none⟩), .agg #[.int .u8 i.op, .int .i64 i.a, .int .i64 i.b, .int .i64 i.c, .int .u64 i.i]] V fun x w' => x = .returned (.tuple #[]) ∧ DAft B w' b c P s1 l' ∧ Below B V w') :
   Calls Tryz.prog 40 #[.pointer (some ⟨b, 0, none⟩)] W0 fun x w' => x = .returned (s1).outc ∧ DIo B w' b c P (s1) (s1).g (s1).p l ∧ Below B W0 w' := by
 replace hcon := Hz.mk hcon
 replace hvf := Hz.mk hvf
 have hp0 := hp
 replace hi := Hz.mk hi
 have hpg0 := Hz.mk hpg
 have hgi : (s.g : Int) < (P.code.length : Int) := by omega
 obtain ⟨cb, co, ra, rc, hca, hcb, hco⟩ := hpg.code s.g hg
 replace hco := Hz.mk hco
 replace hca := Hz.mk hca
 obtain ⟨N, hN⟩ : ∃ N, P.code[s.g].length = N := ⟨_, rfl⟩
 rw [hN] at hco hp
 have h2 := Hz.mk (h.new (List.toArray [Value.int .i64 0, .int .u64 0, .int .i64 0, .int .i64 0, .int .i64 0]) 51)
 clear h
 go_enter Tryz.func40, Tryz.ntmps40
 go_upto_region 1 with fail
 refine wp_world (fun W => DIo B W b c P s s.g s.p (boxOb W0.heap.size (List.toArray [Value.int .i64 0, .int .u64 0, .int .i64 0, .int .i64 0, .int .i64 0]) :: l) ∧ Below B W0 W) h2.out ?_
 rintro W ⟨h, hB⟩
 replace h := Hz.mk h
 replace hB := Hz.mk hB
 clear h2
 generalize W0.heap.size = kr at *
 have c27 : W.cell? ⟨b, 27, none⟩ = some (.int .i64 s.e) := h.out.row5 0 _ rfl
 have gd : Gr W W.drew := (Gr.refl W).drew
 go_upto_region 3 with fail
 clear c27
 replace hB := Hz.mk (hB.out.trans (gd.below.mono h.out.le))
 replace h := Hz.mk (h.out.gr gd.below)
 obtain ⟨c0, c4, c5⟩ := h.out.codes cb co hca.out
 obtain ⟨cw, hei⟩ := hco.out _ hB.out
 replace hei := Hz.mk hei
 clear gd
 refine wp_region_held_drew (S := (fun X => X.cell? ⟨b, 0, none⟩ = some (.slice (some ⟨cb, co, none⟩) P.code.length c.cc) ∧ X.cell? ⟨b, 4, none⟩ = some (.int .i64 s.g) ∧ X.cell? ⟨cb, co + s.g, none⟩ = some (.slice ra N rc))) (by kernel_rfl) (⟨c0, c4, cw⟩) (fun hHeld => ?_)
 refine xso 0 ?_ rfl ?_ (xso 1 ?_ rfl ?_ (xso 2 ?_ rfl ?_ (xso 3 ?_ rfl ?_ (xso 4 ?_ rfl ?_ (xso 5 ?_ rfl ?_ (xso 6 ?_ rfl ?_ (xso 7 ?_ rfl ?_ (xso 8 ?_ rfl ?_ (xso 9 ?_ rfl ?_ (xso 10 ?_ rfl ?_ (xso 11 ?_ rfl ?_ ?_)))))))))))
 iterate 12 (rotate_left; focus ((try simp only [xap]); intro w hSw; (try dsimp only at hSw); go_simp; first | done | with_reducible rfl))
 try simp only [xap]
 refine xdn ?_ _
 clear hHeld c0 c4 cw
 generalize W.drew = V at *
 have hpi : (s.p : Int) < (N : Int) := by omega
 have hpn : ¬ (N : Int) ≤ (s.p : Int) := by omega
 obtain ⟨rb, ro, era, hrb, hcel⟩ := hei.out s.p hp0
 subst era
 have hrow : Hz (V.rangeAt rb (ro + s.p * 5) (Fi.vals i)) := Hz.mk (fun j v q => hcel j v (by rw [hi.out]; exact q))
 clear hcel hei
 go_upto_region 7 with fail
 refine wp_region_lit ?_
 iterate 6 (refine wpList_plain rfl (fun K hK => ?_); go_simp; with_reducible refine hK _ _ ?_; clear hK K; (try simp only [xap]))
 refine wpList_plain rfl (fun K hK => ?_)
 refine wp_load_mid _ _ rfl _ (ro + s.p * 5) rfl (Fi.vals i) _ hrow.out Tryz.underlying42 rfl (by kernel_rfl) (hK _ _ ?_)
 clear hK K
 try simp only [xap]
 refine wpList_plain rfl (fun K hK => ?_)
 go_simp
 with_reducible refine hK _ _ ?_
 clear hK K
 try simp only [xap]
 have hA7 : At (V.alloc (.cells (List.toArray [Value.int .u8 0, .int .i64 0, .int .i64 0, .int .i64 0, .int .u64 0]) 42)) V.heap.size (List.toArray [Value.int .u8 0, .int .i64 0, .int .i64 0, .int .i64 0, .int .u64 0]) := At.new V _ _
 have hth := Hz.mk (At.there hA7 0 5 (by decide))
 have hA8 := Hz.mk (At.setAll hA7 (Fi.vals i) rfl)
 have g8 := Hz.mk (Gr.setCells ((Gr.refl V).alloc (.cells (List.toArray [Value.int .u8 0, .int .i64 0, .int .i64 0, .int .i64 0, .int .u64 0]) 42)) V.heap.size (Nat.le_refl _) (Fi.vals i) 0)
 clear hA7
 refine wpList_plain rfl (fun K hK => ?_)
 refine wp_store_mid _ _ _ rfl _ _ (List.toArray (Fi.vals i)) rfl rfl hth.out (by kernel_rfl) (by simp [Fi.vals, Value.oneCell']) (hK _ _ ?_)
 clear hK K
 try simp only [Act.put]
 have hM := Hz.mk (h.out.add (boxOb V.heap.size (List.toArray (Fi.vals i))) hA8.out (fun k q => by have : k = V.heap.size := q; omega) g8.out.below)
 replace hB := Hz.mk (hB.out.trans (g8.out.below.mono h.out.le))
 clear h
 generalize World.setCells _ _ _ _ = V1 at *
 clear g8 hth c5
 generalize V.heap.size = ki at *
 have i0 : V1.cell? ⟨ki, 0, none⟩ = some (.int .u8 i.op) := hA8.out.2.1 0
 have i1 : V1.cell? ⟨ki, 1, none⟩ = some (.int .i64 i.a) := hA8.out.2.1 1
 have i2 : V1.cell? ⟨ki, 2, none⟩ = some (.int .i64 i.b) := hA8.out.2.1 2
 have i3 : V1.cell? ⟨ki, 3, none⟩ = some (.int .i64 i.c) := hA8.out.2.1 3
 have i4 : V1.cell? ⟨ki, 4, none⟩ = some (.int .u64 i.i) := hA8.out.2.1 4
 have hen := Hz.mk (hcon.out V1 _ hM.out (hpg0.out.below hB.out))
 have l20 : (i.op : Int) < 20 := by omega
 have hrow8 : Hz (V1.rangeAt ki 0 (Fi.vals i)) := Hz.mk (fun j v q => by rw [Nat.zero_add]; exact (hA8.out.2.1 j).trans (by simpa using q))
 go_upto_region 9 with fail
 go_upto_region 10 with fail
 refine wp_region_lit ?_
 refine wpList_plain rfl (fun K hK => ?_)
 go_simp
 with_reducible refine hK _ _ ?_
 clear hK K
 try simp only [xap]
 refine wpList_plain rfl (fun K hK => ?_)
 refine wp_load_mid _ _ rfl _ 0 rfl (Fi.vals i) _ hrow8.out Tryz.underlying42 rfl (by kernel_rfl) (hK _ _ ?_)
 clear hK K
 try simp only [xap]
 refine wpList_plain rfl (fun K hK => ?_)
 go_simp
 (refine hen.out.mono ?_; rintro r V9 ⟨rfl, ⟨og, op, h9, e9⟩, hB9⟩)
 with_reducible refine hK _ _ ?_
 clear hK K
 try simp only [xap]
 go_upto_region 17 with fail
 clear i0 i1 i2 i3 i4 hA8 hM
 replace hB := Hz.mk (hB.out.trans hB9)
 replace h := Hz.mk h9.drop
 clear hen hB9 h9
 have c27 : V9.cell? ⟨b, 27, none⟩ = some (.int .i64 s1.e) := h.out.row5 0 _ rfl
 by_cases hE : s1.e = 0
 · obtain ⟨v0, f0⟩ := hvf.out hE
   rw [hE] at c27
   go_upto_region 18 with fail
   have gd : Gr V9 V9.drew := (Gr.refl V9).drew
   replace hB := Hz.mk (hB.out.trans (gd.below.mono h.out.le))
   replace h := Hz.mk (h.out.gr gd.below)
   clear gd c27
   obtain ⟨h5, b5, t5⟩ := h.out.set5 hE v0 f0
   obtain ⟨d4, d5, _⟩ := h.out.hand
   obtain ⟨f4, f5, _⟩ := h5.hand
   have hE5 := Hz.mk hE
   replace h5 := Hz.mk h5
   replace t5 := Hz.mk t5
   clear hE v0 f0
   refine wp_region_held_drew (S := (fun X => X.cell? ⟨b, 4, none⟩ = some (.int .i64 s1.g) ∧ X.cell? ⟨b, 5, none⟩ = some (.int .i64 s1.p))) (by kernel_rfl) (⟨d4, d5⟩) (fun hHeld => ?_)
   generalize V9.drew = V10 at *
   refine xso 0 ?_ rfl ?_ (xso 1 ?_ rfl ?_ (xso 2 ?_ rfl ?_ (xso 3 ?_ rfl ?_ (xso 4 ?_ rfl ?_ (xso 5 ?_ rfl ?_ (xso 6 ?_ rfl ?_ (xso 7 ?_ rfl ?_ (xso 8 ?_ rfl ?_ (xso 9 ?_ rfl ?_ (xso 10 ?_ rfl ?_ (xso 11 ?_ rfl ?_ ?_)))))))))))
   iterate 12 (rotate_left; focus ((try simp only [xap]); intro w hSw; (try dsimp only at hSw); go_simp; first | done | with_reducible rfl))
   try simp only [xap]
   refine xrd 12 rfl (fun K hK => ?_)
   rw [if_pos (by rfl)]
   refine wp_store_mid _ _ _ rfl _ _ (List.toArray _) rfl rfl (t5.out) (by kernel_rfl) (by simp [Value.oneCell']) ?_
   refine hK.out _ _ (⟨f4, f5⟩) (fun hHeld => ?_)
   clear hK K
   try simp only [Act.put]
   refine xdn ?_ _
   clear hHeld d4 d5 f4 f5 h t5
   replace hB := Hz.mk (hB.out.trans b5)
   generalize World.setCells _ _ _ _ = V12 at *
   have h := h5
   clear h5 b5
   have hro := Hz.mk h.out.row5
   have hA9 : At V12 kr (List.toArray [Value.int .i64 0, .int .u64 0, .int .i64 0, .int .i64 0, .int .i64 0]) := h.out.there (boxOb kr (List.toArray [Value.int .i64 0, .int .u64 0, .int .i64 0, .int .i64 0, .int .i64 0])) (.head _)
   have hth := Hz.mk (At.there hA9 0 5 (by decide))
   have hA10 := Hz.mk (At.setAll (cs := [Value.int .i64 0, .int .u64 0, .int .i64 0, .int .i64 0, .int .i64 0]) hA9 [Value.int .i64 s1.e, .int .u64 s1.v, .int .i64 s1.f, .int .i64 s1.g, .int .i64 s1.p] rfl)
   have h10 := h.out.side (o' := boxOb kr (List.toArray [Value.int .i64 s1.e, .int .u64 s1.v, .int .i64 s1.f, .int .i64 s1.g, .int .i64 s1.p])) hA10.out (kp_setsZ V12 kr [Value.int .i64 s1.e, .int .u64 s1.v, .int .i64 s1.f, .int .i64 s1.g, .int .i64 s1.p] 0) (fun _ r => .inl r)
   replace hB := Hz.mk (hB.out.trans h10.2)
   replace h10 := Hz.mk h10.1
   clear hA9 h
   go_upto_region 19 with fail
   refine wp_region_lit ?_
   iterate 3 (refine wpList_plain rfl (fun K hK => ?_); go_simp; with_reducible refine hK _ _ ?_; clear hK K; (try simp only [xap]))
   refine wpList_plain rfl (fun K hK => ?_)
   refine wp_load_mid _ _ rfl _ 27 rfl [Value.int .i64 s1.e, .int .u64 s1.v, .int .i64 s1.f, .int .i64 s1.g, .int .i64 s1.p] _ hro.out Tryz.underlying51 rfl (by kernel_rfl) (hK _ _ ?_)
   clear hK K
   try simp only [xap]
   refine wpList_plain rfl (fun K hK => ?_)
   refine wp_store_mid _ _ _ rfl _ _ (List.toArray [Value.int .i64 s1.e, .int .u64 s1.v, .int .i64 s1.f, .int .i64 s1.g, .int .i64 s1.p]) rfl rfl hth.out (by kernel_rfl) (by simp [Value.oneCell']) (hK _ _ ?_)
   clear hK K
   try simp only [Act.put]
   generalize World.setCells _ _ _ _ = V11 at *
   have hrun := Hz.mk (run_loadVar_mid (P := Tryz.prog) V11 kr 0 51 [Value.int .i64 s1.e, .int .u64 s1.v, .int .i64 s1.f, .int .i64 s1.g, .int .i64 s1.p] _ (fun j v q => by rw [Nat.zero_add]; exact (hA10.out.2.1 j).trans (by simpa using q)) Tryz.underlying51 rfl (by kernel_rfl))
   go_wp2_with fail
   refine bodyPost_ret (v := s1.outc) ?_ rfl ⟨rfl, h10.out.drop, hB.out⟩
   exact results_rowZ Tryz.results40 _ _ rfl hrun.out
 · obtain ⟨rfl, rfl⟩ := e9 hE
   have hro := Hz.mk h.out.row5
   have hA9 : At V9 kr (List.toArray [Value.int .i64 0, .int .u64 0, .int .i64 0, .int .i64 0, .int .i64 0]) := h.out.there (boxOb kr (List.toArray [Value.int .i64 0, .int .u64 0, .int .i64 0, .int .i64 0, .int .i64 0])) (.head _)
   have hth := Hz.mk (At.there hA9 0 5 (by decide))
   have hA10 := Hz.mk (At.setAll (cs := [Value.int .i64 0, .int .u64 0, .int .i64 0, .int .i64 0, .int .i64 0]) hA9 [Value.int .i64 s1.e, .int .u64 s1.v, .int .i64 s1.f, .int .i64 s1.g, .int .i64 s1.p] rfl)
   have h10 := h.out.side (o' := boxOb kr (List.toArray [Value.int .i64 s1.e, .int .u64 s1.v, .int .i64 s1.f, .int .i64 s1.g, .int .i64 s1.p])) hA10.out (kp_setsZ V9 kr [Value.int .i64 s1.e, .int .u64 s1.v, .int .i64 s1.f, .int .i64 s1.g, .int .i64 s1.p] 0) (fun _ r => .inl r)
   replace hB := Hz.mk (hB.out.trans h10.2)
   replace h10 := Hz.mk h10.1
   clear hA9 h
   go_upto_region 19 with fail
   refine wp_region_lit ?_
   iterate 3 (refine wpList_plain rfl (fun K hK => ?_); go_simp; with_reducible refine hK _ _ ?_; clear hK K; (try simp only [xap]))
   refine wpList_plain rfl (fun K hK => ?_)
   refine wp_load_mid _ _ rfl _ 27 rfl [Value.int .i64 s1.e, .int .u64 s1.v, .int .i64 s1.f, .int .i64 s1.g, .int .i64 s1.p] _ hro.out Tryz.underlying51 rfl (by kernel_rfl) (hK _ _ ?_)
   clear hK K
   try simp only [xap]
   refine wpList_plain rfl (fun K hK => ?_)
   refine wp_store_mid _ _ _ rfl _ _ (List.toArray [Value.int .i64 s1.e, .int .u64 s1.v, .int .i64 s1.f, .int .i64 s1.g, .int .i64 s1.p]) rfl rfl hth.out (by kernel_rfl) (by simp [Value.oneCell']) (hK _ _ ?_)
   clear hK K
   try simp only [Act.put]
   generalize World.setCells _ _ _ _ = V11 at *
   have hrun := Hz.mk (run_loadVar_mid (P := Tryz.prog) V11 kr 0 51 [Value.int .i64 s1.e, .int .u64 s1.v, .int .i64 s1.f, .int .i64 s1.g, .int .i64 s1.p] _ (fun j v q => by rw [Nat.zero_add]; exact (hA10.out.2.1 j).trans (by simpa using q)) Tryz.underlying51 rfl (by kernel_rfl))
   go_wp2_with fail
   refine bodyPost_ret (v := s1.outc) ?_ rfl ⟨rfl, h10.out.drop, hB.out⟩
   exact results_rowZ Tryz.results40 _ _ rfl hrun.out
end Z
end Go.Proofs.YthfphgjjieddjaaGreat


namespace Go.Proofs.YthfphgjjieddjaaGreat
set_option maxRecDepth 100000
set_option maxHeartbeats 40000000
namespace Z
open Go.RowKit
open T (Sep Ob Kp Mf FlIn boxOb)

theorem dstep_jumps (B : Nat) (W0 : World) (b : Nat) (c : Dc) (P : Pr) (s : Fm) (l : List Ob) (h : DIo B W0 b c P s s.g s.p l) (he : s.e = 0) (hg : s.g < P.code.length) (hpg : DPg B W0 c P) (i : Fi) (s1 : Fm) (hp : s.p < P.code[s.g].length) (hi : P.code[s.g][s.p] = i) (hvf : s1.e = 0 → s1.v = 0 ∧ s1.f = 0) (hop : 20 ≤ i.op ∧ i.op < 27) (hcon : ∀ V l', DIo B V b c P s s.g s.p l' → DPg B V c P → Calls Tryz.prog 53 #[.pointer (some ⟨b, 0, none⟩), .agg #[.int .u8 i.op, .int .i64 i.a, .int .i64 i.b, .int .i64 i.c, .int .u64 i.i]] V fun x w' => x = .returned (.tuple #[]) ∧ DAft B w' b c P s1 l' ∧ Below B V w') :
   Calls Tryz.prog 40 #[.pointer (some ⟨b, 0, none⟩)] W0 fun x w' => x = .returned (s1).outc ∧ DIo B w' b c P (s1) (s1).g (s1).p l ∧ Below B W0 w' := by
 replace hcon := Hz.mk hcon
 replace hvf := Hz.mk hvf
 have hp0 := hp
 replace hi := Hz.mk hi
 have hpg0 := Hz.mk hpg
 have hgi : (s.g : Int) < (P.code.length : Int) := by omega
 obtain ⟨cb, co, ra, rc, hca, hcb, hco⟩ := hpg.code s.g hg
 replace hco := Hz.mk hco
 replace hca := Hz.mk hca
 obtain ⟨N, hN⟩ : ∃ N, P.code[s.g].length = N := ⟨_, rfl⟩
 rw [hN] at hco hp
 have h2 := Hz.mk (h.new (List.toArray [Value.int .i64 0, .int .u64 0, .int .i64 0, .int .i64 0, .int .i64 0]) 51)
 clear h
 go_enter Tryz.func40, Tryz.ntmps40
 go_upto_region 1 with fail
 refine wp_world (fun W => DIo B W b c P s s.g s.p (boxOb W0.heap.size (List.toArray [Value.int .i64 0, .int .u64 0, .int .i64 0, .int .i64 0, .int .i64 0]) :: l) ∧ Below B W0 W) h2.out ?_
 rintro W ⟨h, hB⟩
 replace h := Hz.mk h
 replace hB := Hz.mk hB
 clear h2
 generalize W0.heap.size = kr at *
 have c27 : W.cell? ⟨b, 27, none⟩ = some (.int .i64 s.e) := h.out.row5 0 _ rfl
 have gd : Gr W W.drew := (Gr.refl W).drew
 go_upto_region 3 with fail
 clear c27
 replace hB := Hz.mk (hB.out.trans (gd.below.mono h.out.le))
 replace h := Hz.mk (h.out.gr gd.below)
 obtain ⟨c0, c4, c5⟩ := h.out.codes cb co hca.out
 obtain ⟨cw, hei⟩ := hco.out _ hB.out
 replace hei := Hz.mk hei
 clear gd
 refine wp_region_held_drew (S := (fun X => X.cell? ⟨b, 0, none⟩ = some (.slice (some ⟨cb, co, none⟩) P.code.length c.cc) ∧ X.cell? ⟨b, 4, none⟩ = some (.int .i64 s.g) ∧ X.cell? ⟨cb, co + s.g, none⟩ = some (.slice ra N rc))) (by kernel_rfl) (⟨c0, c4, cw⟩) (fun hHeld => ?_)
 refine xso 0 ?_ rfl ?_ (xso 1 ?_ rfl ?_ (xso 2 ?_ rfl ?_ (xso 3 ?_ rfl ?_ (xso 4 ?_ rfl ?_ (xso 5 ?_ rfl ?_ (xso 6 ?_ rfl ?_ (xso 7 ?_ rfl ?_ (xso 8 ?_ rfl ?_ (xso 9 ?_ rfl ?_ (xso 10 ?_ rfl ?_ (xso 11 ?_ rfl ?_ ?_)))))))))))
 iterate 12 (rotate_left; focus ((try simp only [xap]); intro w hSw; (try dsimp only at hSw); go_simp; first | done | with_reducible rfl))
 try simp only [xap]
 refine xdn ?_ _
 clear hHeld c0 c4 cw
 generalize W.drew = V at *
 have hpi : (s.p : Int) < (N : Int) := by omega
 have hpn : ¬ (N : Int) ≤ (s.p : Int) := by omega
 obtain ⟨rb, ro, era, hrb, hcel⟩ := hei.out s.p hp0
 subst era
 have hrow : Hz (V.rangeAt rb (ro + s.p * 5) (Fi.vals i)) := Hz.mk (fun j v q => hcel j v (by rw [hi.out]; exact q))
 clear hcel hei
 go_upto_region 7 with fail
 refine wp_region_lit ?_
 iterate 6 (refine wpList_plain rfl (fun K hK => ?_); go_simp; with_reducible refine hK _ _ ?_; clear hK K; (try simp only [xap]))
 refine wpList_plain rfl (fun K hK => ?_)
 refine wp_load_mid _ _ rfl _ (ro + s.p * 5) rfl (Fi.vals i) _ hrow.out Tryz.underlying42 rfl (by kernel_rfl) (hK _ _ ?_)
 clear hK K
 try simp only [xap]
 refine wpList_plain rfl (fun K hK => ?_)
 go_simp
 with_reducible refine hK _ _ ?_
 clear hK K
 try simp only [xap]
 have hA7 : At (V.alloc (.cells (List.toArray [Value.int .u8 0, .int .i64 0, .int .i64 0, .int .i64 0, .int .u64 0]) 42)) V.heap.size (List.toArray [Value.int .u8 0, .int .i64 0, .int .i64 0, .int .i64 0, .int .u64 0]) := At.new V _ _
 have hth := Hz.mk (At.there hA7 0 5 (by decide))
 have hA8 := Hz.mk (At.setAll hA7 (Fi.vals i) rfl)
 have g8 := Hz.mk (Gr.setCells ((Gr.refl V).alloc (.cells (List.toArray [Value.int .u8 0, .int .i64 0, .int .i64 0, .int .i64 0, .int .u64 0]) 42)) V.heap.size (Nat.le_refl _) (Fi.vals i) 0)
 clear hA7
 refine wpList_plain rfl (fun K hK => ?_)
 refine wp_store_mid _ _ _ rfl _ _ (List.toArray (Fi.vals i)) rfl rfl hth.out (by kernel_rfl) (by simp [Fi.vals, Value.oneCell']) (hK _ _ ?_)
 clear hK K
 try simp only [Act.put]
 have hM := Hz.mk (h.out.add (boxOb V.heap.size (List.toArray (Fi.vals i))) hA8.out (fun k q => by have : k = V.heap.size := q; omega) g8.out.below)
 replace hB := Hz.mk (hB.out.trans (g8.out.below.mono h.out.le))
 clear h
 generalize World.setCells _ _ _ _ = V1 at *
 clear g8 hth c5
 generalize V.heap.size = ki at *
 have i0 : V1.cell? ⟨ki, 0, none⟩ = some (.int .u8 i.op) := hA8.out.2.1 0
 have i1 : V1.cell? ⟨ki, 1, none⟩ = some (.int .i64 i.a) := hA8.out.2.1 1
 have i2 : V1.cell? ⟨ki, 2, none⟩ = some (.int .i64 i.b) := hA8.out.2.1 2
 have i3 : V1.cell? ⟨ki, 3, none⟩ = some (.int .i64 i.c) := hA8.out.2.1 3
 have i4 : V1.cell? ⟨ki, 4, none⟩ = some (.int .u64 i.i) := hA8.out.2.1 4
 have hen := Hz.mk (hcon.out V1 _ hM.out (hpg0.out.below hB.out))
 have l20 : ¬ (i.op : Int) < 20 := by omega
 have l27 : (i.op : Int) < 27 := by omega
 have hrow8 : Hz (V1.rangeAt ki 0 (Fi.vals i)) := Hz.mk (fun j v q => by rw [Nat.zero_add]; exact (hA8.out.2.1 j).trans (by simpa using q))
 go_upto_region 9 with fail
 go_upto_region 11 with fail
 go_upto_region 12 with fail
 refine wp_region_lit ?_
 refine wpList_plain rfl (fun K hK => ?_)
 go_simp
 with_reducible refine hK _ _ ?_
 clear hK K
 try simp only [xap]
 refine wpList_plain rfl (fun K hK => ?_)
 refine wp_load_mid _ _ rfl _ 0 rfl (Fi.vals i) _ hrow8.out Tryz.underlying42 rfl (by kernel_rfl) (hK _ _ ?_)
 clear hK K
 try simp only [xap]
 refine wpList_plain rfl (fun K hK => ?_)
 go_simp
 (refine hen.out.mono ?_; rintro r V9 ⟨rfl, ⟨og, op, h9, e9⟩, hB9⟩)
 with_reducible refine hK _ _ ?_
 clear hK K
 try simp only [xap]
 go_upto_region 17 with fail
 clear i0 i1 i2 i3 i4 hA8 hM
 replace hB := Hz.mk (hB.out.trans hB9)
 replace h := Hz.mk h9.drop
 clear hen hB9 h9
 have c27 : V9.cell? ⟨b, 27, none⟩ = some (.int .i64 s1.e) := h.out.row5 0 _ rfl
 by_cases hE : s1.e = 0
 · obtain ⟨v0, f0⟩ := hvf.out hE
   rw [hE] at c27
   go_upto_region 18 with fail
   have gd : Gr V9 V9.drew := (Gr.refl V9).drew
   replace hB := Hz.mk (hB.out.trans (gd.below.mono h.out.le))
   replace h := Hz.mk (h.out.gr gd.below)
   clear gd c27
   obtain ⟨h5, b5, t5⟩ := h.out.set5 hE v0 f0
   obtain ⟨d4, d5, _⟩ := h.out.hand
   obtain ⟨f4, f5, _⟩ := h5.hand
   have hE5 := Hz.mk hE
   replace h5 := Hz.mk h5
   replace t5 := Hz.mk t5
   clear hE v0 f0
   refine wp_region_held_drew (S := (fun X => X.cell? ⟨b, 4, none⟩ = some (.int .i64 s1.g) ∧ X.cell? ⟨b, 5, none⟩ = some (.int .i64 s1.p))) (by kernel_rfl) (⟨d4, d5⟩) (fun hHeld => ?_)
   generalize V9.drew = V10 at *
   refine xso 0 ?_ rfl ?_ (xso 1 ?_ rfl ?_ (xso 2 ?_ rfl ?_ (xso 3 ?_ rfl ?_ (xso 4 ?_ rfl ?_ (xso 5 ?_ rfl ?_ (xso 6 ?_ rfl ?_ (xso 7 ?_ rfl ?_ (xso 8 ?_ rfl ?_ (xso 9 ?_ rfl ?_ (xso 10 ?_ rfl ?_ (xso 11 ?_ rfl ?_ ?_)))))))))))
   iterate 12 (rotate_left; focus ((try simp only [xap]); intro w hSw; (try dsimp only at hSw); go_simp; first | done | with_reducible rfl))
   try simp only [xap]
   refine xrd 12 rfl (fun K hK => ?_)
   rw [if_pos (by rfl)]
   refine wp_store_mid _ _ _ rfl _ _ (List.toArray _) rfl rfl (t5.out) (by kernel_rfl) (by simp [Value.oneCell']) ?_
   refine hK.out _ _ (⟨f4, f5⟩) (fun hHeld => ?_)
   clear hK K
   try simp only [Act.put]
   refine xdn ?_ _
   clear hHeld d4 d5 f4 f5 h t5
   replace hB := Hz.mk (hB.out.trans b5)
   generalize World.setCells _ _ _ _ = V12 at *
   have h := h5
   clear h5 b5
   have hro := Hz.mk h.out.row5
   have hA9 : At V12 kr (List.toArray [Value.int .i64 0, .int .u64 0, .int .i64 0, .int .i64 0, .int .i64 0]) := h.out.there (boxOb kr (List.toArray [Value.int .i64 0, .int .u64 0, .int .i64 0, .int .i64 0, .int .i64 0])) (.head _)
   have hth := Hz.mk (At.there hA9 0 5 (by decide))
   have hA10 := Hz.mk (At.setAll (cs := [Value.int .i64 0, .int .u64 0, .int .i64 0, .int .i64 0, .int .i64 0]) hA9 [Value.int .i64 s1.e, .int .u64 s1.v, .int .i64 s1.f, .int .i64 s1.g, .int .i64 s1.p] rfl)
   have h10 := h.out.side (o' := boxOb kr (List.toArray [Value.int .i64 s1.e, .int .u64 s1.v, .int .i64 s1.f, .int .i64 s1.g, .int .i64 s1.p])) hA10.out (kp_setsZ V12 kr [Value.int .i64 s1.e, .int .u64 s1.v, .int .i64 s1.f, .int .i64 s1.g, .int .i64 s1.p] 0) (fun _ r => .inl r)
   replace hB := Hz.mk (hB.out.trans h10.2)
   replace h10 := Hz.mk h10.1
   clear hA9 h
   go_upto_region 19 with fail
   refine wp_region_lit ?_
   iterate 3 (refine wpList_plain rfl (fun K hK => ?_); go_simp; with_reducible refine hK _ _ ?_; clear hK K; (try simp only [xap]))
   refine wpList_plain rfl (fun K hK => ?_)
   refine wp_load_mid _ _ rfl _ 27 rfl [Value.int .i64 s1.e, .int .u64 s1.v, .int .i64 s1.f, .int .i64 s1.g, .int .i64 s1.p] _ hro.out Tryz.underlying51 rfl (by kernel_rfl) (hK _ _ ?_)
   clear hK K
   try simp only [xap]
   refine wpList_plain rfl (fun K hK => ?_)
   refine wp_store_mid _ _ _ rfl _ _ (List.toArray [Value.int .i64 s1.e, .int .u64 s1.v, .int .i64 s1.f, .int .i64 s1.g, .int .i64 s1.p]) rfl rfl hth.out (by kernel_rfl) (by simp [Value.oneCell']) (hK _ _ ?_)
   clear hK K
   try simp only [Act.put]
   generalize World.setCells _ _ _ _ = V11 at *
   have hrun := Hz.mk (run_loadVar_mid (P := Tryz.prog) V11 kr 0 51 [Value.int .i64 s1.e, .int .u64 s1.v, .int .i64 s1.f, .int .i64 s1.g, .int .i64 s1.p] _ (fun j v q => by rw [Nat.zero_add]; exact (hA10.out.2.1 j).trans (by simpa using q)) Tryz.underlying51 rfl (by kernel_rfl))
   go_wp2_with fail
   refine bodyPost_ret (v := s1.outc) ?_ rfl ⟨rfl, h10.out.drop, hB.out⟩
   exact results_rowZ Tryz.results40 _ _ rfl hrun.out
 · obtain ⟨rfl, rfl⟩ := e9 hE
   have hro := Hz.mk h.out.row5
   have hA9 : At V9 kr (List.toArray [Value.int .i64 0, .int .u64 0, .int .i64 0, .int .i64 0, .int .i64 0]) := h.out.there (boxOb kr (List.toArray [Value.int .i64 0, .int .u64 0, .int .i64 0, .int .i64 0, .int .i64 0])) (.head _)
   have hth := Hz.mk (At.there hA9 0 5 (by decide))
   have hA10 := Hz.mk (At.setAll (cs := [Value.int .i64 0, .int .u64 0, .int .i64 0, .int .i64 0, .int .i64 0]) hA9 [Value.int .i64 s1.e, .int .u64 s1.v, .int .i64 s1.f, .int .i64 s1.g, .int .i64 s1.p] rfl)
   have h10 := h.out.side (o' := boxOb kr (List.toArray [Value.int .i64 s1.e, .int .u64 s1.v, .int .i64 s1.f, .int .i64 s1.g, .int .i64 s1.p])) hA10.out (kp_setsZ V9 kr [Value.int .i64 s1.e, .int .u64 s1.v, .int .i64 s1.f, .int .i64 s1.g, .int .i64 s1.p] 0) (fun _ r => .inl r)
   replace hB := Hz.mk (hB.out.trans h10.2)
   replace h10 := Hz.mk h10.1
   clear hA9 h
   go_upto_region 19 with fail
   refine wp_region_lit ?_
   iterate 3 (refine wpList_plain rfl (fun K hK => ?_); go_simp; with_reducible refine hK _ _ ?_; clear hK K; (try simp only [xap]))
   refine wpList_plain rfl (fun K hK => ?_)
   refine wp_load_mid _ _ rfl _ 27 rfl [Value.int .i64 s1.e, .int .u64 s1.v, .int .i64 s1.f, .int .i64 s1.g, .int .i64 s1.p] _ hro.out Tryz.underlying51 rfl (by kernel_rfl) (hK _ _ ?_)
   clear hK K
   try simp only [xap]
   refine wpList_plain rfl (fun K hK => ?_)
   refine wp_store_mid _ _ _ rfl _ _ (List.toArray [Value.int .i64 s1.e, .int .u64 s1.v, .int .i64 s1.f, .int .i64 s1.g, .int .i64 s1.p]) rfl rfl hth.out (by kernel_rfl) (by simp [Value.oneCell']) (hK _ _ ?_)
   clear hK K
   try simp only [Act.put]
   generalize World.setCells _ _ _ _ = V11 at *
   have hrun := Hz.mk (run_loadVar_mid (P := Tryz.prog) V11 kr 0 51 [Value.int .i64 s1.e, .int .u64 s1.v, .int .i64 s1.f, .int .i64 s1.g, .int .i64 s1.p] _ (fun j v q => by rw [Nat.zero_add]; exact (hA10.out.2.1 j).trans (by simpa using q)) Tryz.underlying51 rfl (by kernel_rfl))
   go_wp2_with fail
   refine bodyPost_ret (v := s1.outc) ?_ rfl ⟨rfl, h10.out.drop, hB.out⟩
   exact results_rowZ Tryz.results40 _ _ rfl hrun.out
end Z
end Go.Proofs.YthfphgjjieddjaaGreat


namespace Go.Proofs.YthfphgjjieddjaaGreat
set_option maxRecDepth 100000
set_option maxHeartbeats 40000000
namespace Z
open Go.RowKit
open T (Sep Ob Kp Mf FlIn boxOb)

theorem dstep_flows (B : Nat) (W0 : World) (b : Nat) (c : Dc) (P : Pr) (s : Fm) (l : List Ob) (h : DIo B W0 b c P s s.g s.p l) (he : s.e = 0) (hg : s.g < P.code.length) (hpg : DPg B W0 c P) (i : Fi) (s1 : Fm) (hp : s.p < P.code[s.g].length) (hi : P.code[s.g][s.p] = i) (hvf : s1.e = 0 → s1.v = 0 ∧ s1.f = 0) (hop : 27 ≤ i.op ∧ i.op < 60) (hcon : ∀ V l', DIo B V b c P s s.g s.p l' → DPg B V c P → Calls Tryz.prog 54 #[.pointer (some ⟨b, 0, none⟩), .agg #[.int .u8 i.op, .int .i64 i.a, .int .i64 i.b, .int .i64 i.c, .int .u64 i.i]] V fun x w' => x = .returned (.tuple #[]) ∧ DAft B w' b c P s1 l' ∧ Below B V w') :
   Calls Tryz.prog 40 #[.pointer (some ⟨b, 0, none⟩)] W0 fun x w' => x = .returned (s1).outc ∧ DIo B w' b c P (s1) (s1).g (s1).p l ∧ Below B W0 w' := by
 replace hcon := Hz.mk hcon
 replace hvf := Hz.mk hvf
 have hp0 := hp
 replace hi := Hz.mk hi
 have hpg0 := Hz.mk hpg
 have hgi : (s.g : Int) < (P.code.length : Int) := by omega
 obtain ⟨cb, co, ra, rc, hca, hcb, hco⟩ := hpg.code s.g hg
 replace hco := Hz.mk hco
 replace hca := Hz.mk hca
 obtain ⟨N, hN⟩ : ∃ N, P.code[s.g].length = N := ⟨_, rfl⟩
 rw [hN] at hco hp
 have h2 := Hz.mk (h.new (List.toArray [Value.int .i64 0, .int .u64 0, .int .i64 0, .int .i64 0, .int .i64 0]) 51)
 clear h
 go_enter Tryz.func40, Tryz.ntmps40
 go_upto_region 1 with fail
 refine wp_world (fun W => DIo B W b c P s s.g s.p (boxOb W0.heap.size (List.toArray [Value.int .i64 0, .int .u64 0, .int .i64 0, .int .i64 0, .int .i64 0]) :: l) ∧ Below B W0 W) h2.out ?_
 rintro W ⟨h, hB⟩
 replace h := Hz.mk h
 replace hB := Hz.mk hB
 clear h2
 generalize W0.heap.size = kr at *
 have c27 : W.cell? ⟨b, 27, none⟩ = some (.int .i64 s.e) := h.out.row5 0 _ rfl
 have gd : Gr W W.drew := (Gr.refl W).drew
 go_upto_region 3 with fail
 clear c27
 replace hB := Hz.mk (hB.out.trans (gd.below.mono h.out.le))
 replace h := Hz.mk (h.out.gr gd.below)
 obtain ⟨c0, c4, c5⟩ := h.out.codes cb co hca.out
 obtain ⟨cw, hei⟩ := hco.out _ hB.out
 replace hei := Hz.mk hei
 clear gd
 refine wp_region_held_drew (S := (fun X => X.cell? ⟨b, 0, none⟩ = some (.slice (some ⟨cb, co, none⟩) P.code.length c.cc) ∧ X.cell? ⟨b, 4, none⟩ = some (.int .i64 s.g) ∧ X.cell? ⟨cb, co + s.g, none⟩ = some (.slice ra N rc))) (by kernel_rfl) (⟨c0, c4, cw⟩) (fun hHeld => ?_)
 refine xso 0 ?_ rfl ?_ (xso 1 ?_ rfl ?_ (xso 2 ?_ rfl ?_ (xso 3 ?_ rfl ?_ (xso 4 ?_ rfl ?_ (xso 5 ?_ rfl ?_ (xso 6 ?_ rfl ?_ (xso 7 ?_ rfl ?_ (xso 8 ?_ rfl ?_ (xso 9 ?_ rfl ?_ (xso 10 ?_ rfl ?_ (xso 11 ?_ rfl ?_ ?_)))))))))))
 iterate 12 (rotate_left; focus ((try simp only [xap]); intro w hSw; (try dsimp only at hSw); go_simp; first | done | with_reducible rfl))
 try simp only [xap]
 refine xdn ?_ _
 clear hHeld c0 c4 cw
 generalize W.drew = V at *
 have hpi : (s.p : Int) < (N : Int) := by omega
 have hpn : ¬ (N : Int) ≤ (s.p : Int) := by omega
 obtain ⟨rb, ro, era, hrb, hcel⟩ := hei.out s.p hp0
 subst era
 have hrow : Hz (V.rangeAt rb (ro + s.p * 5) (Fi.vals i)) := Hz.mk (fun j v q => hcel j v (by rw [hi.out]; exact q))
 clear hcel hei
 go_upto_region 7 with fail
 refine wp_region_lit ?_
 iterate 6 (refine wpList_plain rfl (fun K hK => ?_); go_simp; with_reducible refine hK _ _ ?_; clear hK K; (try simp only [xap]))
 refine wpList_plain rfl (fun K hK => ?_)
 refine wp_load_mid _ _ rfl _ (ro + s.p * 5) rfl (Fi.vals i) _ hrow.out Tryz.underlying42 rfl (by kernel_rfl) (hK _ _ ?_)
 clear hK K
 try simp only [xap]
 refine wpList_plain rfl (fun K hK => ?_)
 go_simp
 with_reducible refine hK _ _ ?_
 clear hK K
 try simp only [xap]
 have hA7 : At (V.alloc (.cells (List.toArray [Value.int .u8 0, .int .i64 0, .int .i64 0, .int .i64 0, .int .u64 0]) 42)) V.heap.size (List.toArray [Value.int .u8 0, .int .i64 0, .int .i64 0, .int .i64 0, .int .u64 0]) := At.new V _ _
 have hth := Hz.mk (At.there hA7 0 5 (by decide))
 have hA8 := Hz.mk (At.setAll hA7 (Fi.vals i) rfl)
 have g8 := Hz.mk (Gr.setCells ((Gr.refl V).alloc (.cells (List.toArray [Value.int .u8 0, .int .i64 0, .int .i64 0, .int .i64 0, .int .u64 0]) 42)) V.heap.size (Nat.le_refl _) (Fi.vals i) 0)
 clear hA7
 refine wpList_plain rfl (fun K hK => ?_)
 refine wp_store_mid _ _ _ rfl _ _ (List.toArray (Fi.vals i)) rfl rfl hth.out (by kernel_rfl) (by simp [Fi.vals, Value.oneCell']) (hK _ _ ?_)
 clear hK K
 try simp only [Act.put]
 have hM := Hz.mk (h.out.add (boxOb V.heap.size (List.toArray (Fi.vals i))) hA8.out (fun k q => by have : k = V.heap.size := q; omega) g8.out.below)
 replace hB := Hz.mk (hB.out.trans (g8.out.below.mono h.out.le))
 clear h
 generalize World.setCells _ _ _ _ = V1 at *
 clear g8 hth c5
 generalize V.heap.size = ki at *
 have i0 : V1.cell? ⟨ki, 0, none⟩ = some (.int .u8 i.op) := hA8.out.2.1 0
 have i1 : V1.cell? ⟨ki, 1, none⟩ = some (.int .i64 i.a) := hA8.out.2.1 1
 have i2 : V1.cell? ⟨ki, 2, none⟩ = some (.int .i64 i.b) := hA8.out.2.1 2
 have i3 : V1.cell? ⟨ki, 3, none⟩ = some (.int .i64 i.c) := hA8.out.2.1 3
 have i4 : V1.cell? ⟨ki, 4, none⟩ = some (.int .u64 i.i) := hA8.out.2.1 4
 have hen := Hz.mk (hcon.out V1 _ hM.out (hpg0.out.below hB.out))
 have l20 : ¬ (i.op : Int) < 20 := by omega
 have l27 : ¬ (i.op : Int) < 27 := by omega
 have l60 : (i.op : Int) < 60 := by omega
 have hrow8 : Hz (V1.rangeAt ki 0 (Fi.vals i)) := Hz.mk (fun j v q => by rw [Nat.zero_add]; exact (hA8.out.2.1 j).trans (by simpa using q))
 go_upto_region 9 with fail
 go_upto_region 11 with fail
 go_upto_region 13 with fail
 go_upto_region 14 with fail
 refine wp_region_lit ?_
 refine wpList_plain rfl (fun K hK => ?_)
 go_simp
 with_reducible refine hK _ _ ?_
 clear hK K
 try simp only [xap]
 refine wpList_plain rfl (fun K hK => ?_)
 refine wp_load_mid _ _ rfl _ 0 rfl (Fi.vals i) _ hrow8.out Tryz.underlying42 rfl (by kernel_rfl) (hK _ _ ?_)
 clear hK K
 try simp only [xap]
 refine wpList_plain rfl (fun K hK => ?_)
 go_simp
 (refine hen.out.mono ?_; rintro r V9 ⟨rfl, ⟨og, op, h9, e9⟩, hB9⟩)
 with_reducible refine hK _ _ ?_
 clear hK K
 try simp only [xap]
 go_upto_region 17 with fail
 clear i0 i1 i2 i3 i4 hA8 hM
 replace hB := Hz.mk (hB.out.trans hB9)
 replace h := Hz.mk h9.drop
 clear hen hB9 h9
 have c27 : V9.cell? ⟨b, 27, none⟩ = some (.int .i64 s1.e) := h.out.row5 0 _ rfl
 by_cases hE : s1.e = 0
 · obtain ⟨v0, f0⟩ := hvf.out hE
   rw [hE] at c27
   go_upto_region 18 with fail
   have gd : Gr V9 V9.drew := (Gr.refl V9).drew
   replace hB := Hz.mk (hB.out.trans (gd.below.mono h.out.le))
   replace h := Hz.mk (h.out.gr gd.below)
   clear gd c27
   obtain ⟨h5, b5, t5⟩ := h.out.set5 hE v0 f0
   obtain ⟨d4, d5, _⟩ := h.out.hand
   obtain ⟨f4, f5, _⟩ := h5.hand
   have hE5 := Hz.mk hE
   replace h5 := Hz.mk h5
   replace t5 := Hz.mk t5
   clear hE v0 f0
   refine wp_region_held_drew (S := (fun X => X.cell? ⟨b, 4, none⟩ = some (.int .i64 s1.g) ∧ X.cell? ⟨b, 5, none⟩ = some (.int .i64 s1.p))) (by kernel_rfl) (⟨d4, d5⟩) (fun hHeld => ?_)
   generalize V9.drew = V10 at *
   refine xso 0 ?_ rfl ?_ (xso 1 ?_ rfl ?_ (xso 2 ?_ rfl ?_ (xso 3 ?_ rfl ?_ (xso 4 ?_ rfl ?_ (xso 5 ?_ rfl ?_ (xso 6 ?_ rfl ?_ (xso 7 ?_ rfl ?_ (xso 8 ?_ rfl ?_ (xso 9 ?_ rfl ?_ (xso 10 ?_ rfl ?_ (xso 11 ?_ rfl ?_ ?_)))))))))))
   iterate 12 (rotate_left; focus ((try simp only [xap]); intro w hSw; (try dsimp only at hSw); go_simp; first | done | with_reducible rfl))
   try simp only [xap]
   refine xrd 12 rfl (fun K hK => ?_)
   rw [if_pos (by rfl)]
   refine wp_store_mid _ _ _ rfl _ _ (List.toArray _) rfl rfl (t5.out) (by kernel_rfl) (by simp [Value.oneCell']) ?_
   refine hK.out _ _ (⟨f4, f5⟩) (fun hHeld => ?_)
   clear hK K
   try simp only [Act.put]
   refine xdn ?_ _
   clear hHeld d4 d5 f4 f5 h t5
   replace hB := Hz.mk (hB.out.trans b5)
   generalize World.setCells _ _ _ _ = V12 at *
   have h := h5
   clear h5 b5
   have hro := Hz.mk h.out.row5
   have hA9 : At V12 kr (List.toArray [Value.int .i64 0, .int .u64 0, .int .i64 0, .int .i64 0, .int .i64 0]) := h.out.there (boxOb kr (List.toArray [Value.int .i64 0, .int .u64 0, .int .i64 0, .int .i64 0, .int .i64 0])) (.head _)
   have hth := Hz.mk (At.there hA9 0 5 (by decide))
   have hA10 := Hz.mk (At.setAll (cs := [Value.int .i64 0, .int .u64 0, .int .i64 0, .int .i64 0, .int .i64 0]) hA9 [Value.int .i64 s1.e, .int .u64 s1.v, .int .i64 s1.f, .int .i64 s1.g, .int .i64 s1.p] rfl)
   have h10 := h.out.side (o' := boxOb kr (List.toArray [Value.int .i64 s1.e, .int .u64 s1.v, .int .i64 s1.f, .int .i64 s1.g, .int .i64 s1.p])) hA10.out (kp_setsZ V12 kr [Value.int .i64 s1.e, .int .u64 s1.v, .int .i64 s1.f, .int .i64 s1.g, .int .i64 s1.p] 0) (fun _ r => .inl r)
   replace hB := Hz.mk (hB.out.trans h10.2)
   replace h10 := Hz.mk h10.1
   clear hA9 h
   go_upto_region 19 with fail
   refine wp_region_lit ?_
   iterate 3 (refine wpList_plain rfl (fun K hK => ?_); go_simp; with_reducible refine hK _ _ ?_; clear hK K; (try simp only [xap]))
   refine wpList_plain rfl (fun K hK => ?_)
   refine wp_load_mid _ _ rfl _ 27 rfl [Value.int .i64 s1.e, .int .u64 s1.v, .int .i64 s1.f, .int .i64 s1.g, .int .i64 s1.p] _ hro.out Tryz.underlying51 rfl (by kernel_rfl) (hK _ _ ?_)
   clear hK K
   try simp only [xap]
   refine wpList_plain rfl (fun K hK => ?_)
   refine wp_store_mid _ _ _ rfl _ _ (List.toArray [Value.int .i64 s1.e, .int .u64 s1.v, .int .i64 s1.f, .int .i64 s1.g, .int .i64 s1.p]) rfl rfl hth.out (by kernel_rfl) (by simp [Value.oneCell']) (hK _ _ ?_)
   clear hK K
   try simp only [Act.put]
   generalize World.setCells _ _ _ _ = V11 at *
   have hrun := Hz.mk (run_loadVar_mid (P := Tryz.prog) V11 kr 0 51 [Value.int .i64 s1.e, .int .u64 s1.v, .int .i64 s1.f, .int .i64 s1.g, .int .i64 s1.p] _ (fun j v q => by rw [Nat.zero_add]; exact (hA10.out.2.1 j).trans (by simpa using q)) Tryz.underlying51 rfl (by kernel_rfl))
   go_wp2_with fail
   refine bodyPost_ret (v := s1.outc) ?_ rfl ⟨rfl, h10.out.drop, hB.out⟩
   exact results_rowZ Tryz.results40 _ _ rfl hrun.out
 · obtain ⟨rfl, rfl⟩ := e9 hE
   have hro := Hz.mk h.out.row5
   have hA9 : At V9 kr (List.toArray [Value.int .i64 0, .int .u64 0, .int .i64 0, .int .i64 0, .int .i64 0]) := h.out.there (boxOb kr (List.toArray [Value.int .i64 0, .int .u64 0, .int .i64 0, .int .i64 0, .int .i64 0])) (.head _)
   have hth := Hz.mk (At.there hA9 0 5 (by decide))
   have hA10 := Hz.mk (At.setAll (cs := [Value.int .i64 0, .int .u64 0, .int .i64 0, .int .i64 0, .int .i64 0]) hA9 [Value.int .i64 s1.e, .int .u64 s1.v, .int .i64 s1.f, .int .i64 s1.g, .int .i64 s1.p] rfl)
   have h10 := h.out.side (o' := boxOb kr (List.toArray [Value.int .i64 s1.e, .int .u64 s1.v, .int .i64 s1.f, .int .i64 s1.g, .int .i64 s1.p])) hA10.out (kp_setsZ V9 kr [Value.int .i64 s1.e, .int .u64 s1.v, .int .i64 s1.f, .int .i64 s1.g, .int .i64 s1.p] 0) (fun _ r => .inl r)
   replace hB := Hz.mk (hB.out.trans h10.2)
   replace h10 := Hz.mk h10.1
   clear hA9 h
   go_upto_region 19 with fail
   refine wp_region_lit ?_
   iterate 3 (refine wpList_plain rfl (fun K hK => ?_); go_simp; with_reducible refine hK _ _ ?_; clear hK K; (try simp only [xap]))
   refine wpList_plain rfl (fun K hK => ?_)
   refine wp_load_mid _ _ rfl _ 27 rfl [Value.int .i64 s1.e, .int .u64 s1.v, .int .i64 s1.f, .int .i64 s1.g, .int .i64 s1.p] _ hro.out Tryz.underlying51 rfl (by kernel_rfl) (hK _ _ ?_)
   clear hK K
   try simp only [xap]
   refine wpList_plain rfl (fun K hK => ?_)
   refine wp_store_mid _ _ _ rfl _ _ (List.toArray [Value.int .i64 s1.e, .int .u64 s1.v, .int .i64 s1.f, .int .i64 s1.g, .int .i64 s1.p]) rfl rfl hth.out (by kernel_rfl) (by simp [Value.oneCell']) (hK _ _ ?_)
   clear hK K
   try simp only [Act.put]
   generalize World.setCells _ _ _ _ = V11 at *
   have hrun := Hz.mk (run_loadVar_mid (P := Tryz.prog) V11 kr 0 51 [Value.int .i64 s1.e, .int .u64 s1.v, .int .i64 s1.f, .int .i64 s1.g, .int .i64 s1.p] _ (fun j v q => by rw [Nat.zero_add]; exact (hA10.out.2.1 j).trans (by simpa using q)) Tryz.underlying51 rfl (by kernel_rfl))
   go_wp2_with fail
   refine bodyPost_ret (v := s1.outc) ?_ rfl ⟨rfl, h10.out.drop, hB.out⟩
   exact results_rowZ Tryz.results40 _ _ rfl hrun.out
end Z
end Go.Proofs.YthfphgjjieddjaaGreat


namespace Go.Proofs.YthfphgjjieddjaaGreat
set_option maxRecDepth 100000
set_option maxHeartbeats 40000000
namespace Z
open Go.RowKit
open T (Sep Ob Kp Mf FlIn boxOb)

theorem dstep_memory (B : Nat) (W0 : World) (b : Nat) (c : Dc) (P : Pr) (s : Fm) (l : List Ob) (h : DIo B W0 b c P s s.g s.p l) (he : s.e = 0) (hg : s.g < P.code.length) (hpg : DPg B W0 c P) (i : Fi) (s1 : Fm) (hp : s.p < P.code[s.g].length) (hi : P.code[s.g][s.p] = i) (hvf : s1.e = 0 → s1.v = 0 ∧ s1.f = 0) (hop : 60 ≤ i.op ∧ i.op < 70) (hcon : ∀ V l', DIo B V b c P s s.g s.p l' → DPg B V c P → Calls Tryz.prog 55 #[.pointer (some ⟨b, 0, none⟩), .agg #[.int .u8 i.op, .int .i64 i.a, .int .i64 i.b, .int .i64 i.c, .int .u64 i.i]] V fun x w' => x = .returned (.tuple #[]) ∧ DAft B w' b c P s1 l' ∧ Below B V w') :
   Calls Tryz.prog 40 #[.pointer (some ⟨b, 0, none⟩)] W0 fun x w' => x = .returned (s1).outc ∧ DIo B w' b c P (s1) (s1).g (s1).p l ∧ Below B W0 w' := by
 replace hcon := Hz.mk hcon
 replace hvf := Hz.mk hvf
 have hp0 := hp
 replace hi := Hz.mk hi
 have hpg0 := Hz.mk hpg
 have hgi : (s.g : Int) < (P.code.length : Int) := by omega
 obtain ⟨cb, co, ra, rc, hca, hcb, hco⟩ := hpg.code s.g hg
 replace hco := Hz.mk hco
 replace hca := Hz.mk hca
 obtain ⟨N, hN⟩ : ∃ N, P.code[s.g].length = N := ⟨_, rfl⟩
 rw [hN] at hco hp
 have h2 := Hz.mk (h.new (List.toArray [Value.int .i64 0, .int .u64 0, .int .i64 0, .int .i64 0, .int .i64 0]) 51)
 clear h
 go_enter Tryz.func40, Tryz.ntmps40
 go_upto_region 1 with fail
 refine wp_world (fun W => DIo B W b c P s s.g s.p (boxOb W0.heap.size (List.toArray [Value.int .i64 0, .int .u64 0, .int .i64 0, .int .i64 0, .int .i64 0]) :: l) ∧ Below B W0 W) h2.out ?_
 rintro W ⟨h, hB⟩
 replace h := Hz.mk h
 replace hB := Hz.mk hB
 clear h2
 generalize W0.heap.size = kr at *
 have c27 : W.cell? ⟨b, 27, none⟩ = some (.int .i64 s.e) := h.out.row5 0 _ rfl
 have gd : Gr W W.drew := (Gr.refl W).drew
 go_upto_region 3 with fail
 clear c27
 replace hB := Hz.mk (hB.out.trans (gd.below.mono h.out.le))
 replace h := Hz.mk (h.out.gr gd.below)
 obtain ⟨c0, c4, c5⟩ := h.out.codes cb co hca.out
 obtain ⟨cw, hei⟩ := hco.out _ hB.out
 replace hei := Hz.mk hei
 clear gd
 refine wp_region_held_drew (S := (fun X => X.cell? ⟨b, 0, none⟩ = some (.slice (some ⟨cb, co, none⟩) P.code.length c.cc) ∧ X.cell? ⟨b, 4, none⟩ = some (.int .i64 s.g) ∧ X.cell? ⟨cb, co + s.g, none⟩ = some (.slice ra N rc))) (by kernel_rfl) (⟨c0, c4, cw⟩) (fun hHeld => ?_)
 refine xso 0 ?_ rfl ?_ (xso 1 ?_ rfl ?_ (xso 2 ?_ rfl ?_ (xso 3 ?_ rfl ?_ (xso 4 ?_ rfl ?_ (xso 5 ?_ rfl ?_ (xso 6 ?_ rfl ?_ (xso 7 ?_ rfl ?_ (xso 8 ?_ rfl ?_ (xso 9 ?_ rfl ?_ (xso 10 ?_ rfl ?_ (xso 11 ?_ rfl ?_ ?_)))))))))))
 iterate 12 (rotate_left; focus ((try simp only [xap]); intro w hSw; (try dsimp only at hSw); go_simp; first | done | with_reducible rfl))
 try simp only [xap]
 refine xdn ?_ _
 clear hHeld c0 c4 cw
 generalize W.drew = V at *
 have hpi : (s.p : Int) < (N : Int) := by omega
 have hpn : ¬ (N : Int) ≤ (s.p : Int) := by omega
 obtain ⟨rb, ro, era, hrb, hcel⟩ := hei.out s.p hp0
 subst era
 have hrow : Hz (V.rangeAt rb (ro + s.p * 5) (Fi.vals i)) := Hz.mk (fun j v q => hcel j v (by rw [hi.out]; exact q))
 clear hcel hei
 go_upto_region 7 with fail
 refine wp_region_lit ?_
 iterate 6 (refine wpList_plain rfl (fun K hK => ?_); go_simp; with_reducible refine hK _ _ ?_; clear hK K; (try simp only [xap]))
 refine wpList_plain rfl (fun K hK => ?_)
 refine wp_load_mid _ _ rfl _ (ro + s.p * 5) rfl (Fi.vals i) _ hrow.out Tryz.underlying42 rfl (by kernel_rfl) (hK _ _ ?_)
 clear hK K
 try simp only [xap]
 refine wpList_plain rfl (fun K hK => ?_)
 go_simp
 with_reducible refine hK _ _ ?_
 clear hK K
 try simp only [xap]
 have hA7 : At (V.alloc (.cells (List.toArray [Value.int .u8 0, .int .i64 0, .int .i64 0, .int .i64 0, .int .u64 0]) 42)) V.heap.size (List.toArray [Value.int .u8 0, .int .i64 0, .int .i64 0, .int .i64 0, .int .u64 0]) := At.new V _ _
 have hth := Hz.mk (At.there hA7 0 5 (by decide))
 have hA8 := Hz.mk (At.setAll hA7 (Fi.vals i) rfl)
 have g8 := Hz.mk (Gr.setCells ((Gr.refl V).alloc (.cells (List.toArray [Value.int .u8 0, .int .i64 0, .int .i64 0, .int .i64 0, .int .u64 0]) 42)) V.heap.size (Nat.le_refl _) (Fi.vals i) 0)
 clear hA7
 refine wpList_plain rfl (fun K hK => ?_)
 refine wp_store_mid _ _ _ rfl _ _ (List.toArray (Fi.vals i)) rfl rfl hth.out (by kernel_rfl) (by simp [Fi.vals, Value.oneCell']) (hK _ _ ?_)
 clear hK K
 try simp only [Act.put]
 have hM := Hz.mk (h.out.add (boxOb V.heap.size (List.toArray (Fi.vals i))) hA8.out (fun k q => by have : k = V.heap.size := q; omega) g8.out.below)
 replace hB := Hz.mk (hB.out.trans (g8.out.below.mono h.out.le))
 clear h
 generalize World.setCells _ _ _ _ = V1 at *
 clear g8 hth c5
 generalize V.heap.size = ki at *
 have i0 : V1.cell? ⟨ki, 0, none⟩ = some (.int .u8 i.op) := hA8.out.2.1 0
 have i1 : V1.cell? ⟨ki, 1, none⟩ = some (.int .i64 i.a) := hA8.out.2.1 1
 have i2 : V1.cell? ⟨ki, 2, none⟩ = some (.int .i64 i.b) := hA8.out.2.1 2
 have i3 : V1.cell? ⟨ki, 3, none⟩ = some (.int .i64 i.c) := hA8.out.2.1 3
 have i4 : V1.cell? ⟨ki, 4, none⟩ = some (.int .u64 i.i) := hA8.out.2.1 4
 have hen := Hz.mk (hcon.out V1 _ hM.out (hpg0.out.below hB.out))
 have l20 : ¬ (i.op : Int) < 20 := by omega
 have l27 : ¬ (i.op : Int) < 27 := by omega
 have l60 : ¬ (i.op : Int) < 60 := by omega
 have l70 : (i.op : Int) < 70 := by omega
 have hrow8 : Hz (V1.rangeAt ki 0 (Fi.vals i)) := Hz.mk (fun j v q => by rw [Nat.zero_add]; exact (hA8.out.2.1 j).trans (by simpa using q))
 go_upto_region 9 with fail
 go_upto_region 11 with fail
 go_upto_region 13 with fail
 go_upto_region 15 with fail
 go_upto_region 16 with fail
 refine wp_region_lit ?_
 refine wpList_plain rfl (fun K hK => ?_)
 go_simp
 with_reducible refine hK _ _ ?_
 clear hK K
 try simp only [xap]
 refine wpList_plain rfl (fun K hK => ?_)
 refine wp_load_mid _ _ rfl _ 0 rfl (Fi.vals i) _ hrow8.out Tryz.underlying42 rfl (by kernel_rfl) (hK _ _ ?_)
 clear hK K
 try simp only [xap]
 refine wpList_plain rfl (fun K hK => ?_)
 go_simp
 (refine hen.out.mono ?_; rintro r V9 ⟨rfl, ⟨og, op, h9, e9⟩, hB9⟩)
 with_reducible refine hK _ _ ?_
 clear hK K
 try simp only [xap]
 go_upto_region 17 with fail
 clear i0 i1 i2 i3 i4 hA8 hM
 replace hB := Hz.mk (hB.out.trans hB9)
 replace h := Hz.mk h9.drop
 clear hen hB9 h9
 have c27 : V9.cell? ⟨b, 27, none⟩ = some (.int .i64 s1.e) := h.out.row5 0 _ rfl
 by_cases hE : s1.e = 0
 · obtain ⟨v0, f0⟩ := hvf.out hE
   rw [hE] at c27
   go_upto_region 18 with fail
   have gd : Gr V9 V9.drew := (Gr.refl V9).drew
   replace hB := Hz.mk (hB.out.trans (gd.below.mono h.out.le))
   replace h := Hz.mk (h.out.gr gd.below)
   clear gd c27
   obtain ⟨h5, b5, t5⟩ := h.out.set5 hE v0 f0
   obtain ⟨d4, d5, _⟩ := h.out.hand
   obtain ⟨f4, f5, _⟩ := h5.hand
   have hE5 := Hz.mk hE
   replace h5 := Hz.mk h5
   replace t5 := Hz.mk t5
   clear hE v0 f0
   refine wp_region_held_drew (S := (fun X => X.cell? ⟨b, 4, none⟩ = some (.int .i64 s1.g) ∧ X.cell? ⟨b, 5, none⟩ = some (.int .i64 s1.p))) (by kernel_rfl) (⟨d4, d5⟩) (fun hHeld => ?_)
   generalize V9.drew = V10 at *
   refine xso 0 ?_ rfl ?_ (xso 1 ?_ rfl ?_ (xso 2 ?_ rfl ?_ (xso 3 ?_ rfl ?_ (xso 4 ?_ rfl ?_ (xso 5 ?_ rfl ?_ (xso 6 ?_ rfl ?_ (xso 7 ?_ rfl ?_ (xso 8 ?_ rfl ?_ (xso 9 ?_ rfl ?_ (xso 10 ?_ rfl ?_ (xso 11 ?_ rfl ?_ ?_)))))))))))
   iterate 12 (rotate_left; focus ((try simp only [xap]); intro w hSw; (try dsimp only at hSw); go_simp; first | done | with_reducible rfl))
   try simp only [xap]
   refine xrd 12 rfl (fun K hK => ?_)
   rw [if_pos (by rfl)]
   refine wp_store_mid _ _ _ rfl _ _ (List.toArray _) rfl rfl (t5.out) (by kernel_rfl) (by simp [Value.oneCell']) ?_
   refine hK.out _ _ (⟨f4, f5⟩) (fun hHeld => ?_)
   clear hK K
   try simp only [Act.put]
   refine xdn ?_ _
   clear hHeld d4 d5 f4 f5 h t5
   replace hB := Hz.mk (hB.out.trans b5)
   generalize World.setCells _ _ _ _ = V12 at *
   have h := h5
   clear h5 b5
   have hro := Hz.mk h.out.row5
   have hA9 : At V12 kr (List.toArray [Value.int .i64 0, .int .u64 0, .int .i64 0, .int .i64 0, .int .i64 0]) := h.out.there (boxOb kr (List.toArray [Value.int .i64 0, .int .u64 0, .int .i64 0, .int .i64 0, .int .i64 0])) (.head _)
   have hth := Hz.mk (At.there hA9 0 5 (by decide))
   have hA10 := Hz.mk (At.setAll (cs := [Value.int .i64 0, .int .u64 0, .int .i64 0, .int .i64 0, .int .i64 0]) hA9 [Value.int .i64 s1.e, .int .u64 s1.v, .int .i64 s1.f, .int .i64 s1.g, .int .i64 s1.p] rfl)
   have h10 := h.out.side (o' := boxOb kr (List.toArray [Value.int .i64 s1.e, .int .u64 s1.v, .int .i64 s1.f, .int .i64 s1.g, .int .i64 s1.p])) hA10.out (kp_setsZ V12 kr [Value.int .i64 s1.e, .int .u64 s1.v, .int .i64 s1.f, .int .i64 s1.g, .int .i64 s1.p] 0) (fun _ r => .inl r)
   replace hB := Hz.mk (hB.out.trans h10.2)
   replace h10 := Hz.mk h10.1
   clear hA9 h
   go_upto_region 19 with fail
   refine wp_region_lit ?_
   iterate 3 (refine wpList_plain rfl (fun K hK => ?_); go_simp; with_reducible refine hK _ _ ?_; clear hK K; (try simp only [xap]))
   refine wpList_plain rfl (fun K hK => ?_)
   refine wp_load_mid _ _ rfl _ 27 rfl [Value.int .i64 s1.e, .int .u64 s1.v, .int .i64 s1.f, .int .i64 s1.g, .int .i64 s1.p] _ hro.out Tryz.underlying51 rfl (by kernel_rfl) (hK _ _ ?_)
   clear hK K
   try simp only [xap]
   refine wpList_plain rfl (fun K hK => ?_)
   refine wp_store_mid _ _ _ rfl _ _ (List.toArray [Value.int .i64 s1.e, .int .u64 s1.v, .int .i64 s1.f, .int .i64 s1.g, .int .i64 s1.p]) rfl rfl hth.out (by kernel_rfl) (by simp [Value.oneCell']) (hK _ _ ?_)
   clear hK K
   try simp only [Act.put]
   generalize World.setCells _ _ _ _ = V11 at *
   have hrun := Hz.mk (run_loadVar_mid (P := Tryz.prog) V11 kr 0 51 [Value.int .i64 s1.e, .int .u64 s1.v, .int .i64 s1.f, .int .i64 s1.g, .int .i64 s1.p] _ (fun j v q => by rw [Nat.zero_add]; exact (hA10.out.2.1 j).trans (by simpa using q)) Tryz.underlying51 rfl (by kernel_rfl))
   go_wp2_with fail
   refine bodyPost_ret (v := s1.outc) ?_ rfl ⟨rfl, h10.out.drop, hB.out⟩
   exact results_rowZ Tryz.results40 _ _ rfl hrun.out
 · obtain ⟨rfl, rfl⟩ := e9 hE
   have hro := Hz.mk h.out.row5
   have hA9 : At V9 kr (List.toArray [Value.int .i64 0, .int .u64 0, .int .i64 0, .int .i64 0, .int .i64 0]) := h.out.there (boxOb kr (List.toArray [Value.int .i64 0, .int .u64 0, .int .i64 0, .int .i64 0, .int .i64 0])) (.head _)
   have hth := Hz.mk (At.there hA9 0 5 (by decide))
   have hA10 := Hz.mk (At.setAll (cs := [Value.int .i64 0, .int .u64 0, .int .i64 0, .int .i64 0, .int .i64 0]) hA9 [Value.int .i64 s1.e, .int .u64 s1.v, .int .i64 s1.f, .int .i64 s1.g, .int .i64 s1.p] rfl)
   have h10 := h.out.side (o' := boxOb kr (List.toArray [Value.int .i64 s1.e, .int .u64 s1.v, .int .i64 s1.f, .int .i64 s1.g, .int .i64 s1.p])) hA10.out (kp_setsZ V9 kr [Value.int .i64 s1.e, .int .u64 s1.v, .int .i64 s1.f, .int .i64 s1.g, .int .i64 s1.p] 0) (fun _ r => .inl r)
   replace hB := Hz.mk (hB.out.trans h10.2)
   replace h10 := Hz.mk h10.1
   clear hA9 h
   go_upto_region 19 with fail
   refine wp_region_lit ?_
   iterate 3 (refine wpList_plain rfl (fun K hK => ?_); go_simp; with_reducible refine hK _ _ ?_; clear hK K; (try simp only [xap]))
   refine wpList_plain rfl (fun K hK => ?_)
   refine wp_load_mid _ _ rfl _ 27 rfl [Value.int .i64 s1.e, .int .u64 s1.v, .int .i64 s1.f, .int .i64 s1.g, .int .i64 s1.p] _ hro.out Tryz.underlying51 rfl (by kernel_rfl) (hK _ _ ?_)
   clear hK K
   try simp only [xap]
   refine wpList_plain rfl (fun K hK => ?_)
   refine wp_store_mid _ _ _ rfl _ _ (List.toArray [Value.int .i64 s1.e, .int .u64 s1.v, .int .i64 s1.f, .int .i64 s1.g, .int .i64 s1.p]) rfl rfl hth.out (by kernel_rfl) (by simp [Value.oneCell']) (hK _ _ ?_)
   clear hK K
   try simp only [Act.put]
   generalize World.setCells _ _ _ _ = V11 at *
   have hrun := Hz.mk (run_loadVar_mid (P := Tryz.prog) V11 kr 0 51 [Value.int .i64 s1.e, .int .u64 s1.v, .int .i64 s1.f, .int .i64 s1.g, .int .i64 s1.p] _ (fun j v q => by rw [Nat.zero_add]; exact (hA10.out.2.1 j).trans (by simpa using q)) Tryz.underlying51 rfl (by kernel_rfl))
   go_wp2_with fail
   refine bodyPost_ret (v := s1.outc) ?_ rfl ⟨rfl, h10.out.drop, hB.out⟩
   exact results_rowZ Tryz.results40 _ _ rfl hrun.out
end Z
end Go.Proofs.YthfphgjjieddjaaGreat
