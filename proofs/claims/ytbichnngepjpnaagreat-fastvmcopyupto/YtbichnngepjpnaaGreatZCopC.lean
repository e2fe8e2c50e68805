import Derived.Test.YtbichnngepjpnaaGreatZCopB
/-
  Stage 13, fastvm: a copy of a machine.
-/
namespace Go.Proofs.YtbichnngepjpnaaGreat
namespace Z
open Go.RowKit
open T (Sep Ob Kp Mf FlIn boxOb)

theorem perm7 (pg bx tc ou inn st fl : Ob) : [pg, bx, tc, ou, inn, st, fl].Perm [bx, fl, st, inn, ou, tc, pg] :=
  (List.perm_append_comm (l₁ := [pg]) (l₂ := [bx, tc, ou, inn, st, fl])).trans (.cons _ (List.Perm.append_right [pg] (List.reverse_perm [fl, st, inn, ou, tc])))
theorem perm8 (a b c d e f g h : Ob) : [a, b, c, d, e, f, g, h].Perm [g, h, a, b, c, d, e, f] := List.perm_append_comm (l₁ := [a, b, c, d, e, f]) (l₂ := [g, h])
set_option maxRecDepth 100000 in
set_option maxHeartbeats 8000000 in
theorem copy_any (B : Nat) (W : World) (a : Nat) (P : Pr) (s : Fm) (l : List Ob) (ok : P.Ok) (h : MIn B W a P s l) (hz : MZ s.m) (hst : s.st.length ≤ 2000000) (hi : s.inp.length ≤ 2000000) (ho : s.out.length ≤ 2000000) (ht : s.tc.length ≤ 2000000) :
    Calls Tryz.prog 7 #[.pointer (some ⟨a, 0, none⟩)] W fun x w' => x = .returned (.pointer (some ⟨W.heap.size, 0, none⟩)) ∧ MIn W.heap.size w' W.heap.size P s [] ∧ Below W.heap.size W w' := by
  obtain ⟨⟨q, h1⟩, le⟩ := h
  have hb0 : Bx W a (bxOf P s q) := h1.ins (bxOb a (bxOf P s q)) (by simp [obs])
  have hP : PgIn q.SP W q.cv q.gv P := h1.ins (pgOb q.SP q.cv q.gv P) (by simp [obs])
  have hg0 : 0 < P.gates.length := ok.n1.1
  have hc00 : 0 < P.code.length := by rw [ok.nc]; exact hg0
  obtain ⟨g0, gk0, c0, ck0, ecv, hSg0, -, -, -⟩ := hP.code 0 hc00
  obtain ⟨gg, gc, egv, hSgg, -⟩ := hP.gate 0 hg0
  have hC : Hz (CdIn W (some ⟨g0, 0, none⟩) P.code) := Hz.mk (fun k hk => by
    obtain ⟨g, gk, c, ck, f1, f2, f3, f4, f5⟩ := hP.code k hk
    rw [ecv] at f1
    injection f1 with f6
    injection f6 with f6
    injection f6 with f6
    subst f6
    exact ⟨g0, gk, ck, rfl, hP.lt _ f2, f3, hP.lt _ f4, f5⟩)
  have hgt : Hz (∀ k (hk : k < P.gates.length), W.rangeAt gg (k * 19) P.gates[k].vals) := Hz.mk (fun k hk => by
    obtain ⟨g, c, f1, f2, f3⟩ := hP.gate k hk
    rw [egv] at f1
    injection f1 with f6
    injection f6 with f6
    injection f6 with f6
    subst f6
    exact f3)
  have hgg := Hz.mk (hP.lt gg hSgg)
  have hgl : Hz (P.gates.length ≤ 2000000) := Hz.mk (Nat.le_trans ok.n1.2 (by decide))
  have hcl0 : Hz (P.code.length ≤ 1000) := Hz.mk (by rw [ok.nc]; exact Nat.le_trans ok.n1.2 (by decide))
  have hrow : Hz (∀ k (h : k < P.code.length), 0 < P.code[k].length ∧ P.code[k].length ≤ 1000) := Hz.mk (fun k hk => by
    have r := (ok.row P.code[k] (List.getElem_mem hk)).1
    omega)
  obtain ⟨sa, sc, esv⟩ := own_slZ (h1.ins (stOb B q.sv s.st) (by simp [obs]))
  obtain ⟨ia, ic, eiv, -, -⟩ := (h1.ins (inOb q.iv s.inp) (by simp [obs]) : IvIn W q.iv s.inp).go
  obtain ⟨oa, oc, eov⟩ := own_slZ (h1.ins (ouOb B q.ov_ s.out) (by simp [obs]))
  obtain ⟨ta, tc, etv⟩ := own_slZ (h1.ins (tcOb B q.tv s.tc) (by simp [obs]))
  obtain ⟨x0, hx0⟩ : ∃ x, bxOf P s q = x := ⟨_, rfl⟩
  obtain ⟨mp, emp⟩ : ∃ n, q.mp = n := ⟨_, rfl⟩
  obtain ⟨FF, eFF⟩ : ∃ n, q.F = n := ⟨_, rfl⟩
  have e0 : Hz (x0.at 0 = .slice (some ⟨g0, 0, none⟩) P.code.length c0) := Hz.mk (by rw [← hx0, ← ecv]; rfl)
  have e1 : Hz (x0.at 1 = .slice (some ⟨gg, 0, none⟩) P.gates.length gc) := Hz.mk (by rw [← hx0, ← egv]; rfl)
  have e3 : Hz (x0.at 3 = .pointer (some ⟨mp, 0, none⟩)) := Hz.mk (by rw [← hx0, ← emp]; rfl)
  have e22 : Hz (x0.at 22 = .slice sa s.st.length sc) := Hz.mk (by rw [← hx0, ← esv]; rfl)
  have e23 : Hz (x0.at 23 = .slice ia s.inp.length ic) := Hz.mk (by rw [← hx0, ← eiv]; rfl)
  have e24 : Hz (x0.at 24 = .slice oa s.out.length oc) := Hz.mk (by rw [← hx0, ← eov]; rfl)
  have e25 : Hz (x0.at 25 = .slice ta s.tc.length tc) := Hz.mk (by rw [← hx0, ← etv]; rfl)
  have hone : Hz (x0.row.toArray.all (fun u => u.oneCell') = true) := Hz.mk (row_one x0 (by rw [← hx0]; show q.cv.oneCell' = true; rw [ecv]; rfl) (by rw [← hx0]; show q.gv.oneCell' = true; rw [egv]; rfl) (by rw [← hx0]; show q.sv.oneCell' = true; rw [esv]; rfl) (by rw [← hx0]; show q.iv.oneCell' = true; rw [eiv]; rfl) (by rw [← hx0]; show q.ov_.oneCell' = true; rw [eov]; rfl) (by rw [← hx0]; show q.tv.oneCell' = true; rw [etv]; rfl))
  rw [hx0] at hb0
  have hbx := Hz.mk hb0
  have hrg := Hz.mk hb0.row
  replace h1 := Hz.mk h1
  replace hx0 := Hz.mk hx0
  have hmp := Hz.mk emp
  have hFF := Hz.mk eFF
  have hsv := Hz.mk esv
  have hiv0 := Hz.mk eiv
  have hov := Hz.mk eov
  have htv := Hz.mk etv
  replace hz := Hz.mk hz
  replace hst := Hz.mk hst
  replace hi := Hz.mk hi
  replace ho := Hz.mk ho
  replace ht := Hz.mk ht
  replace hg0 := Hz.mk hg0
  clear hP hb0 hSg0 hSgg ecv egv esv eiv eov etv emp eFF hc00 ok le
  go_enter Tryz.func7, Tryz.ntmps7
  go_upto_region 3 with fail
  refine wp_region_lit ?_
  refine wpList_plain rfl (fun K hK => ?_)
  go_simp
  with_reducible refine hK _ _ ?_
  clear hK K
  try simp only [Act.put, List.setIfInBounds_toArray, List.set_cons_zero, List.set_cons_succ]
  refine wpList_plain rfl (fun K hK => ?_)
  go_simp
  with_reducible refine hK _ _ ?_
  clear hK K
  try simp only [Act.put, List.setIfInBounds_toArray, List.set_cons_zero, List.set_cons_succ]
  refine wpList_plain rfl (fun K hK => ?_)
  refine wp_load_mid _ _ rfl _ 0 rfl x0.row _ hrg.out Tryz.underlying74 rfl (by rw [Fx.row_len]; kernel_rfl) (hK _ _ ?_)
  clear hK K
  try simp only [Act.put, List.setIfInBounds_toArray, List.set_cons_zero, List.set_cons_succ]
  have hth := Hz.mk ((At.new W (List.toArray [Value.slice none 0 0, .slice none 0 0, .int .i64 0, .pointer none, .int .i64 0, .int .i64 0, .int .u64 0, .int .u64 0, .int .u64 0, .int .u64 0, .int .u64 0, .int .u64 0, .int .u64 0, .int .u64 0, .int .u64 0, .int .u64 0, .int .u64 0, .int .u64 0, .int .u64 0, .int .u64 0, .int .u64 0, .int .u64 0, .slice none 0 0, .slice none 0 0, .slice none 0 0, .slice none 0 0, .int .i64 0, .int .u64 0, .int .i64 0]) 74).there 0 x0.row.toArray.size (by rw [show x0.row.toArray.size = 29 by rw [List.size_toArray, Fx.row_len]]; simp))
  have hA9 := At.setAll (cs := [Value.slice none 0 0, .slice none 0 0, .int .i64 0, .pointer none, .int .i64 0, .int .i64 0, .int .u64 0, .int .u64 0, .int .u64 0, .int .u64 0, .int .u64 0, .int .u64 0, .int .u64 0, .int .u64 0, .int .u64 0, .int .u64 0, .int .u64 0, .int .u64 0, .int .u64 0, .int .u64 0, .int .u64 0, .int .u64 0, .slice none 0 0, .slice none 0 0, .slice none 0 0, .slice none 0 0, .int .i64 0, .int .u64 0, .int .i64 0]) (At.new W _ 74) x0.row (by rw [Fx.row_len]; rfl)
  have hb9 : Below W.heap.size W ((W.alloc (.cells (List.toArray [Value.slice none 0 0, .slice none 0 0, .int .i64 0, .pointer none, .int .i64 0, .int .i64 0, .int .u64 0, .int .u64 0, .int .u64 0, .int .u64 0, .int .u64 0, .int .u64 0, .int .u64 0, .int .u64 0, .int .u64 0, .int .u64 0, .int .u64 0, .int .u64 0, .int .u64 0, .int .u64 0, .int .u64 0, .int .u64 0, .slice none 0 0, .slice none 0 0, .slice none 0 0, .slice none 0 0, .int .i64 0, .int .u64 0, .int .i64 0]) 74)).setCells W.heap.size 0 x0.row) := by
    have k1 := kp_setsZ (W.alloc (.cells (List.toArray [Value.slice none 0 0, .slice none 0 0, .int .i64 0, .pointer none, .int .i64 0, .int .i64 0, .int .u64 0, .int .u64 0, .int .u64 0, .int .u64 0, .int .u64 0, .int .u64 0, .int .u64 0, .int .u64 0, .int .u64 0, .int .u64 0, .int .u64 0, .int .u64 0, .int .u64 0, .int .u64 0, .int .u64 0, .int .u64 0, .slice none 0 0, .slice none 0 0, .slice none 0 0, .slice none 0 0, .int .i64 0, .int .u64 0, .int .i64 0]) 74)) W.heap.size x0.row 0
    have b4 : Below W.heap.size W (W.alloc (.cells (List.toArray [Value.slice none 0 0, .slice none 0 0, .int .i64 0, .pointer none, .int .i64 0, .int .i64 0, .int .u64 0, .int .u64 0, .int .u64 0, .int .u64 0, .int .u64 0, .int .u64 0, .int .u64 0, .int .u64 0, .int .u64 0, .int .u64 0, .int .u64 0, .int .u64 0, .int .u64 0, .int .u64 0, .int .u64 0, .int .u64 0, .slice none 0 0, .slice none 0 0, .slice none 0 0, .slice none 0 0, .int .i64 0, .int .u64 0, .int .i64 0]) 74)) := (Below.refl _ W).alloc (Nat.le_refl _) _
    exact b4.trans ⟨k1.os, k1.tape, k1.output, k1.size, fun b hb => k1.block b (Nat.lt_of_lt_of_le hb b4.size) (by omega)⟩
  have hS : Hz (Sep W.heap.size ((W.alloc (.cells (List.toArray [Value.slice none 0 0, .slice none 0 0, .int .i64 0, .pointer none, .int .i64 0, .int .i64 0, .int .u64 0, .int .u64 0, .int .u64 0, .int .u64 0, .int .u64 0, .int .u64 0, .int .u64 0, .int .u64 0, .int .u64 0, .int .u64 0, .int .u64 0, .int .u64 0, .int .u64 0, .int .u64 0, .int .u64 0, .int .u64 0, .slice none 0 0, .slice none 0 0, .slice none 0 0, .slice none 0 0, .int .i64 0, .int .u64 0, .int .i64 0]) 74)).setCells W.heap.size 0 x0.row) [bxOb W.heap.size x0]) := Hz.mk ((Sep.nil W.heap.size W).add (bxOb W.heap.size x0) (at_bx hA9) (fun k q => by have : k = W.heap.size := q; omega) hb9 (Nat.le_refl _))
  have hb := Hz.mk hb9
  clear hA9 hb9
  refine wpList_plain rfl (fun K' hK => ?_)
  go_simp
  with_reducible refine hK _ _ ?_
  clear hK K'
  try simp only [Act.put, List.setIfInBounds_toArray, List.set_cons_zero, List.set_cons_succ]
  refine wpList_plain rfl (fun K' hK => ?_)
  refine wp_store_mid _ _ _ rfl _ _ (List.toArray x0.row) rfl rfl hth.out (by rw [List.size_toArray, Fx.row_len]; kernel_rfl) hone.out (hK _ _ ?_)
  clear hK K' hth
  try simp only [Act.put]
  generalize hVx : (W.alloc (.cells (List.toArray [Value.slice none 0 0, .slice none 0 0, .int .i64 0, .pointer none, .int .i64 0, .int .i64 0, .int .u64 0, .int .u64 0, .int .u64 0, .int .u64 0, .int .u64 0, .int .u64 0, .int .u64 0, .int .u64 0, .int .u64 0, .int .u64 0, .int .u64 0, .int .u64 0, .int .u64 0, .int .u64 0, .int .u64 0, .int .u64 0, .slice none 0 0, .slice none 0 0, .slice none 0 0, .slice none 0 0, .int .i64 0, .int .u64 0, .int .i64 0]) 74)).setCells W.heap.size 0 x0.row = V1 at *
  clear hVx
  have dj : V1.cell? ⟨a, 0, none⟩ = some (.slice (some ⟨g0, 0, none⟩) P.code.length c0) := ((hbx.out.bel hb.out).at_ 0 (by omega)).trans (congrArg some e0.out)
  have hcl := Hz.mk (copied_ok P.code (some ⟨g0, 0, none⟩) c0 V1 (hC.out.below hb.out) hcl0.out hrow.out)
  go_wp2_with fail
  refine hcl.out.mono ?_
  rintro r U1 ⟨VV, rfl, hcp⟩
  clear hcl dj
  have hcd := hcp.cds P.code.length
  have hbu := hcp.gro
  obtain ⟨hB9, hS9, hb9⟩ := cp_next (j := 0) (v := .slice (some ⟨V1.heap.size, 0, none⟩) P.code.length P.code.length) hS.out hb.out.size (cdOb (fun k => V1.heap.size ≤ k ∧ k < U1.heap.size) (.slice (some ⟨V1.heap.size, 0, none⟩) P.code.length P.code.length) P) (hcd) (fun k q => q.1) hbu (fun q => q.cv _)
  have k1 : ∃ y, U1.cell? ⟨W.heap.size, 0, none⟩ = some y := ⟨_, hB9.at_ 0 (by omega)⟩
  obtain ⟨y9, k1⟩ := k1
  have k2 := hB9.fr 0
  have k3 := hB9.lt
  replace hS := Hz.mk hS9
  replace hb := Hz.mk (hb.out.trans hb9)
  clear hB9 hS9 hb9
  clear hcd hbu hcp
  go_upto_region 5 with fail
  generalize hVx : U1.setCell ⟨W.heap.size, 0, none⟩ (.slice (some ⟨V1.heap.size, 0, none⟩) P.code.length P.code.length) = V2 at *
  clear hVx k1 k2 k3
  have dj : V2.cell? ⟨a, 1, none⟩ = some (.slice (some ⟨gg, 0, none⟩) P.gates.length gc) := ((hbx.out.bel hb.out).at_ 1 (by omega)).trans (congrArg some e1.out)
  have hcl := Hz.mk (clone_gates gg 0 P.gates.length gc (P.gates.flatMap Fg.vals) V2 (Nat.lt_of_lt_of_le hgg.out hb.out.size) (flat_len Fg.len _) (gates_flat (fun k hk => rangZ hb.out hgg.out (by rw [Nat.zero_add]; exact hgt.out k hk))) (fg_one P.gates) hgl.out)
  go_wp2_with fail
  refine hcl.out.mono ?_
  rintro r U2 ⟨vg, rfl, hown, hbu⟩
  clear hcl dj
  have hown2 := own_base hown hb.out.size
  have hlo := hown.lt
  obtain ⟨va, vb, hvv⟩ := own_slZ hown
  subst hvv
  obtain ⟨hB9, hS9, hb9⟩ := cp_next (j := 1) (v := .slice va P.gates.length vb) hS.out hb.out.size (rowOb W.heap.size 78 19 (.slice va P.gates.length vb) P.gates.length (P.gates.flatMap Fg.vals)) (hown2) (fun k q => (hlo k q).1) hbu (fun q => q.gv _)
  have k1 : ∃ y, U2.cell? ⟨W.heap.size, 1, none⟩ = some y := ⟨_, hB9.at_ 1 (by omega)⟩
  obtain ⟨y9, k1⟩ := k1
  have k2 := hB9.fr 1
  have k3 := hB9.lt
  replace hS := Hz.mk hS9
  replace hb := Hz.mk (hb.out.trans hb9)
  clear hB9 hS9 hb9
  clear hown hown2 hbu hlo
  go_upto_region 6 with fail
  generalize hVx : U2.setCell ⟨W.heap.size, 1, none⟩ (.slice va P.gates.length vb) = V3 at *
  clear hVx k1 k2 k3
  have dj : V3.cell? ⟨a, 3, none⟩ = some (.pointer (some ⟨mp, 0, none⟩)) := ((hbx.out.bel hb.out).at_ 3 (by omega)).trans (congrArg some e3.out)
  have hby := Hz.mk (T.flBytes_any FF mp s.m V3 (by have q := (h1.out.gr hb.out).ins (flOb q.F q.mp s.m) (by simp [obs]); rw [hmp.out, hFF.out] at q; exact q))
  have hnf : Hz (∀ U : World, Calls Tryz.prog 25 #[.string ⟨(T.rowB s.m 0 65536).toArray⟩] U fun x w' => x = .returned (.pointer (some ⟨U.heap.size, 0, none⟩)) ∧ ∃ S, FlIn S w' U.heap.size s.m ∧ (∀ k, S k → U.heap.size ≤ k) ∧ Below U.heap.size U w') := Hz.mk (fun U => by
    have q := T.newFlat_any (T.rowB s.m 0 65536) U (by rw [T.rowB_len]; decide)
    rw [lay_row s.m hz.out] at q
    exact q)
  generalize (T.rowB s.m 0 65536).toArray = RR at *
  go_wp2_with fail
  refine hby.out.mono ?_
  rintro r X3 ⟨rfl, hbx3⟩
  clear hby dj
  have hbX := Hz.mk hbx3
  clear hbx3
  go_wp2_with fail
  refine (hnf.out X3).mono ?_
  rintro r U3 ⟨rfl, SF, hFl, hFs, hbu⟩
  replace hS := Hz.mk (hS.out.gr hbX.out)
  replace hb := Hz.mk (hb.out.trans (hbX.out.mono hb.out.size))
  obtain ⟨hB9, hS9, hb9⟩ := cp_next (j := 3) (v := .pointer (some ⟨X3.heap.size, 0, none⟩)) hS.out hb.out.size (flOb SF X3.heap.size s.m) hFl hFs hbu (fun q => q.mp _)
  have k1 : ∃ y, U3.cell? ⟨W.heap.size, 3, none⟩ = some y := ⟨_, hB9.at_ 3 (by omega)⟩
  obtain ⟨y9, k1⟩ := k1
  have k2 := hB9.fr 3
  have k3 := hB9.lt
  replace hS := Hz.mk hS9
  replace hb := Hz.mk (hb.out.trans hb9)
  clear hB9 hS9 hb9 hFl hFs hbu hnf hbX
  go_upto_region 7 with fail
  generalize hVx : U3.setCell ⟨W.heap.size, 3, none⟩ (.pointer (some ⟨X3.heap.size, 0, none⟩)) = V4 at *
  clear hVx k1 k2 k3
  have dj : V4.cell? ⟨a, 22, none⟩ = some (.slice sa s.st.length sc) := ((hbx.out.bel hb.out).at_ 22 (by omega)).trans (congrArg some e22.out)
  have hcl := Hz.mk (cown_fr V4 (by have q := (h1.out.gr hb.out).ins (stOb B q.sv s.st) (by simp [obs]); rw [hsv.out] at q; exact q) (fr_one s.st) hst.out)
  go_wp2_with fail
  refine hcl.out.mono ?_
  rintro r U4 ⟨vg, rfl, hown, hbu⟩
  clear hcl dj
  have hown2 := own_base hown hb.out.size
  have hlo := hown.lt
  obtain ⟨va, vb, hvv⟩ := own_slZ hown
  subst hvv
  obtain ⟨hB9, hS9, hb9⟩ := cp_next (j := 22) (v := .slice va s.st.length vb) hS.out hb.out.size (stOb W.heap.size (.slice va s.st.length vb) s.st) (hown2) (fun k q => (hlo k q).1) hbu (fun q => q.sv _)
  have k1 : ∃ y, U4.cell? ⟨W.heap.size, 22, none⟩ = some y := ⟨_, hB9.at_ 22 (by omega)⟩
  obtain ⟨y9, k1⟩ := k1
  have k2 := hB9.fr 22
  have k3 := hB9.lt
  replace hS := Hz.mk hS9
  replace hb := Hz.mk (hb.out.trans hb9)
  clear hB9 hS9 hb9
  clear hown hown2 hbu hlo
  go_upto_region 8 with fail
  generalize hVx : U4.setCell ⟨W.heap.size, 22, none⟩ (.slice va s.st.length vb) = V5 at *
  clear hVx k1 k2 k3
  have dj : V5.cell? ⟨a, 23, none⟩ = some (.slice ia s.inp.length ic) := ((hbx.out.bel hb.out).at_ 23 (by omega)).trans (congrArg some e23.out)
  have hcl := Hz.mk (cown_in V5 (by have q := (h1.out.gr hb.out).ins (inOb q.iv s.inp) (by simp [obs]); rw [hiv0.out] at q; exact q) hi.out)
  go_wp2_with fail
  refine hcl.out.mono ?_
  rintro r U5 ⟨vg, rfl, hown, hbu⟩
  clear hcl dj
  have hown2 := own_base hown hb.out.size
  have hlo := hown.lt
  obtain ⟨va, vb, hvv⟩ := own_slZ hown
  subst hvv
  obtain ⟨hiv, hiv2⟩ := own_iv hown
  obtain ⟨hB9, hS9, hb9⟩ := cp_next (j := 23) (v := .slice va s.inp.length vb) hS.out hb.out.size (inOb (.slice va s.inp.length vb) s.inp) (hiv) (fun k q => (hlo k q).1) hbu (fun q => q.iv _)
  have k1 : ∃ y, U5.cell? ⟨W.heap.size, 23, none⟩ = some y := ⟨_, hB9.at_ 23 (by omega)⟩
  obtain ⟨y9, k1⟩ := k1
  have k2 := hB9.fr 23
  have k3 := hB9.lt
  replace hS := Hz.mk hS9
  replace hb := Hz.mk (hb.out.trans hb9)
  clear hB9 hS9 hb9
  clear hown hown2 hbu hlo
  clear hiv hiv2
  go_upto_region 9 with fail
  generalize hVx : U5.setCell ⟨W.heap.size, 23, none⟩ (.slice va s.inp.length vb) = V6 at *
  clear hVx k1 k2 k3
  have dj : V6.cell? ⟨a, 24, none⟩ = some (.slice oa s.out.length oc) := ((hbx.out.bel hb.out).at_ 24 (by omega)).trans (congrArg some e24.out)
  have hcl := Hz.mk (cown_u64 V6 (by have q := (h1.out.gr hb.out).ins (ouOb B q.ov_ s.out) (by simp [obs]); rw [hov.out] at q; exact q) (u64_one s.out) ho.out)
  go_wp2_with fail
  refine hcl.out.mono ?_
  rintro r U6 ⟨vg, rfl, hown, hbu⟩
  clear hcl dj
  have hown2 := own_base hown hb.out.size
  have hlo := hown.lt
  obtain ⟨va, vb, hvv⟩ := own_slZ hown
  subst hvv
  obtain ⟨hB9, hS9, hb9⟩ := cp_next (j := 24) (v := .slice va s.out.length vb) hS.out hb.out.size (ouOb W.heap.size (.slice va s.out.length vb) s.out) (hown2) (fun k q => (hlo k q).1) hbu (fun q => q.ov _)
  have k1 : ∃ y, U6.cell? ⟨W.heap.size, 24, none⟩ = some y := ⟨_, hB9.at_ 24 (by omega)⟩
  obtain ⟨y9, k1⟩ := k1
  have k2 := hB9.fr 24
  have k3 := hB9.lt
  replace hS := Hz.mk hS9
  replace hb := Hz.mk (hb.out.trans hb9)
  clear hB9 hS9 hb9
  clear hown hown2 hbu hlo
  go_upto_region 10 with fail
  generalize hVx : U6.setCell ⟨W.heap.size, 24, none⟩ (.slice va s.out.length vb) = V7 at *
  clear hVx k1 k2 k3
  have dj : V7.cell? ⟨a, 25, none⟩ = some (.slice ta s.tc.length tc) := ((hbx.out.bel hb.out).at_ 25 (by omega)).trans (congrArg some e25.out)
  have hcl := Hz.mk (cown_tcs V7 (by have q := (h1.out.gr hb.out).ins (tcOb B q.tv s.tc) (by simp [obs]); rw [htv.out] at q; exact q) (tc_one s.tc) ht.out)
  go_wp2_with fail
  refine hcl.out.mono ?_
  rintro r U7 ⟨vg, rfl, hown, hbu⟩
  clear hcl dj
  have hown2 := own_base hown hb.out.size
  have hlo := hown.lt
  obtain ⟨va, vb, hvv⟩ := own_slZ hown
  subst hvv
  obtain ⟨hB9, hS9, hb9⟩ := cp_next (j := 25) (v := .slice va s.tc.length vb) hS.out hb.out.size (tcOb W.heap.size (.slice va s.tc.length vb) s.tc) (hown2) (fun k q => (hlo k q).1) hbu (fun q => q.tv _)
  have k1 : ∃ y, U7.cell? ⟨W.heap.size, 25, none⟩ = some y := ⟨_, hB9.at_ 25 (by omega)⟩
  obtain ⟨y9, k1⟩ := k1
  have k2 := hB9.fr 25
  have k3 := hB9.lt
  replace hS := Hz.mk hS9
  replace hb := Hz.mk (hb.out.trans hb9)
  clear hB9 hS9 hb9
  clear hown hown2 hbu hlo
  go_upto_region 11 with fail
  generalize hVx : U7.setCell ⟨W.heap.size, 25, none⟩ (.slice va s.tc.length vb) = V8 at *
  clear hVx k1 k2 k3
  have hfin : Hz (MIn W.heap.size V8 W.heap.size P s []) := Hz.mk (by
    have hS2 := sep_perm hS.out (perm8 _ _ _ _ _ _ _ _)
    obtain ⟨S', hS3⟩ := sep_pg hS2 hg0.out
    have hS4 := sep_perm hS3 (perm7 _ _ _ _ _ _ _)
    rw [← hx0.out] at hS4
    exact ⟨⟨⟨_, _, _, _, _, _, _, _, S'⟩, hS4⟩, hb.out.size⟩)
  go_wp2_with fail
  go_ret
  exact ⟨rfl, hfin.out, hb.out⟩
end Z
end Go.Proofs.YtbichnngepjpnaaGreat
