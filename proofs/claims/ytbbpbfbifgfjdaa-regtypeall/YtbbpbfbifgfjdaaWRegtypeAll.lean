/-
  Stage 9, regtype: RegtypeAll, walked.
-/
import Derived.Test.YtbbpbfbifgfjdaaRApp
import Derived.Test.YtbbpbfbifgfjdaaRAllM
import Derived.Test.YtbbpbfbifgfjdaaRStEq
import Derived.Test.YtbbpbfbifgfjdaaRLaw
import Derived.Test.YtbbpbfbifgfjdaaRProH
import Derived.BigFrame
import Derived.Deep.DeepCutAuto
namespace Go.Proofs.Ytbbpbfbifgfjdaa
namespace R
open Go.RowKit

set_option maxRecDepth 100000 in
set_option maxHeartbeats 32000000 in
theorem walk_RegtypeAll (la : Bool) (A : List RT) (lb : Bool) (B : List RT) (lc : Bool) (C : List RT) (V : List Vv) (w : World) (hA : R16 A) (hB : R16 B) (hC : R16 C) (hV : V16 V) : Calls Try.prog 4 #[.agg (stC la A).toArray, .agg (stC lb B).toArray, .agg (stC lc C).toArray, .agg (rowV [] Vv.vals V).toArray] w fun x w' => x = .returned (.bool true) ∧ Below w.heap.size w w' := by
  have rJ : R16 (mR F9 J9 la A lb B) := mR_R16 J9_rng hA hB
  have rW : R16 (mR F9 W9 la A lb B) := mR_R16 W9_rng hA hB
  have h0 := T.Hid.mk (fun W => alive_any pInt_any pJoin_any W)
  have hHas : T.Hid (∀ k (ha : k < A.length) (hv : k < V.length), ∀ W, Calls Try.prog 10 #[.agg (RT.vals A[k]).toArray, .agg (Vv.vals V[k]).toArray] W fun x w' => x = .returned (.bool (H9 A[k] V[k])) ∧ Gr W w') := T.Hid.mk (fun k ha hv W => pHas_any A[k] V[k] W (hA.2 _ (List.getElem_mem ha)) (hV.2 _ (List.getElem_mem hv)).2.2.2.2)
  obtain ⟨sa, esa⟩ : ∃ sa : St16, stC la A = stV sa := ⟨⟨(la, A), hA.1⟩, rfl⟩
  obtain ⟨sb, esb⟩ : ∃ sb : St16, stC lb B = stV sb := ⟨⟨(lb, B), hB.1⟩, rfl⟩
  obtain ⟨sc, esc⟩ : ∃ sc : St16, stC lc C = stV sc := ⟨⟨(lc, C), hC.1⟩, rfl⟩
  obtain ⟨sj, esj⟩ : ∃ sj : St16, stC (mL la lb) (mR F9 J9 la A lb B) = stV sj := ⟨⟨(_, _), rJ.1⟩, rfl⟩
  obtain ⟨sw, esw⟩ : ∃ sw : St16, stC (mL la lb) (mR F9 W9 la A lb B) = stV sw := ⟨⟨(_, _), rW.1⟩, rfl⟩
  obtain ⟨sd, esd⟩ : ∃ sd : St16, stC false A = stV sd := ⟨⟨(false, A), hA.1⟩, rfl⟩
  obtain ⟨sz, esz⟩ : ∃ sz : St16, stC false Z16 = stV sz := ⟨⟨(false, Z16), rfl⟩, rfl⟩
  obtain ⟨bx, ex⟩ : ∃ x, uS U9 la A lc C = x := ⟨_, rfl⟩
  obtain ⟨bz, ey⟩ : ∃ y, uS U9 lb B lc C = y := ⟨_, rfl⟩
  obtain ⟨m0, em0⟩ : ∃ m, aS H9 la A V = m := ⟨_, rfl⟩
  obtain ⟨m1, em1⟩ : ∃ m, aS H9 lb B V = m := ⟨_, rfl⟩
  obtain ⟨m2, em2⟩ : ∃ m, aS H9 (mL la lb) (mR F9 J9 la A lb B) V = m := ⟨_, rfl⟩
  obtain ⟨m3, em3⟩ : ∃ m, aS H9 (mL la lb) (mR F9 W9 la A lb B) V = m := ⟨_, rfl⟩
  obtain ⟨ac, eac⟩ : ∃ m, aS H9 lc C V = m := ⟨_, rfl⟩
  have hJ : T.Hid (∀ W, Calls Try.prog 14 #[.agg (stV sa).toArray, .agg (stV sb).toArray] W fun x w' => x = .returned (.agg (stV sj).toArray) ∧ Gr W w') := T.Hid.mk (fun W => by have := pJoinState_any la A lb B hA hB W; rw [esa, esb, esj] at this; exact this)
  have hW : T.Hid (∀ W, Calls Try.prog 15 #[.agg (stV sa).toArray, .agg (stV sb).toArray] W fun x w' => x = .returned (.agg (stV sw).toArray) ∧ Gr W w') := T.Hid.mk (fun W => by have := pWidenState_any la A lb B hA hB W; rw [esa, esb, esw] at this; exact this)
  have h1 : T.Hid (∀ W, Calls Try.prog 16 #[.agg (stV sa).toArray, .agg (stV sc).toArray] W fun x w' => x = .returned (.bool bx) ∧ Gr W w') := T.Hid.mk (fun W => by have := pUnderState_any la A lc C hA hC W; rw [esa, esc, ex] at this; exact this)
  have h2 : T.Hid (∀ W, Calls Try.prog 16 #[.agg (stV sb).toArray, .agg (stV sc).toArray] W fun x w' => x = .returned (.bool bz) ∧ Gr W w') := T.Hid.mk (fun W => by have := pUnderState_any lb B lc C hB hC W; rw [esb, esc, ey] at this; exact this)
  have h3 : T.Hid (∀ W, Calls Try.prog 16 #[.agg (stV sj).toArray, .agg (stV sc).toArray] W fun x w' => x = .returned (.bool (bx && bz)) ∧ Gr W w') := T.Hid.mk (fun W => by have := pUnderState_any (mL la lb) _ lc C rJ hC W; rw [esj, esc, least_st hA hB, ex, ey] at this; exact this)
  have h5 : T.Hid (∀ W, Calls Try.prog 16 #[.agg (stV sa).toArray, .agg (stV sj).toArray] W fun x w' => x = .returned (.bool true) ∧ Gr W w') := T.Hid.mk (fun W => by have := pUnderState_any la A (mL la lb) _ hA rJ W; rw [esa, esj, (above_st hA hB).1] at this; exact this)
  have h6 : T.Hid (∀ W, Calls Try.prog 16 #[.agg (stV sb).toArray, .agg (stV sw).toArray] W fun x w' => x = .returned (.bool true) ∧ Gr W w') := T.Hid.mk (fun W => by have := pUnderState_any lb B (mL la lb) _ hB rW W; rw [esb, esw, uS_trans hB.1 rJ.1 (above_st hA hB).2 (wide_st hA hB)] at this; exact this)
  have h7 : T.Hid (∀ W, Calls Try.prog 16 #[.agg (stV sj).toArray, .agg (stV sw).toArray] W fun x w' => x = .returned (.bool true) ∧ Gr W w') := T.Hid.mk (fun W => by have := pUnderState_any (mL la lb) _ (mL la lb) _ rJ rW W; rw [esj, esw, wide_st hA hB] at this; exact this)
  have h8 : T.Hid (∀ W, Calls Try.prog 17 #[.agg (stV sc).toArray, .agg (rowV [] Vv.vals V).toArray] W fun x w' => x = .returned (.bool ac) ∧ Gr W w') := T.Hid.mk (fun W => by have := pAllows_any lc C V hC hV W; rw [esc, eac] at this; exact this)
  have h9 : T.Hid (∀ W, Calls Try.prog 17 #[.agg (stV sd).toArray, .agg (rowV [] Vv.vals V).toArray] W fun x w' => x = .returned (.bool false) ∧ Gr W w') := T.Hid.mk (fun W => by have := pAllows_any false A V hA hV W; rw [esd] at this; exact this)
  have h10 : T.Hid (∀ W, Calls Try.prog 16 #[.agg (stV sd).toArray, .agg (stV sb).toArray] W fun x w' => x = .returned (.bool true) ∧ Gr W w') := T.Hid.mk (fun W => by have := pUnderState_any false A lb B hA hB W; rw [esd, esb] at this; exact this)
  have h11 : T.Hid (∀ W, Calls Try.prog 14 #[.agg (stV sd).toArray, .agg (stV sd).toArray] W fun x w' => x = .returned (.agg (stV sz).toArray) ∧ Gr W w') := T.Hid.mk (fun W => by have := pJoinState_any false A false A hA hA W; rw [esd, show stC (mL false false) (mR F9 J9 false A false A) = stV sz from esz] at this; exact this)
  have hAl : T.Hid (∀ j (h : j < [sa, sb, sj, sw].length) (h' : j < [m0, m1, m2, m3].length) W, Calls Try.prog 17 #[.agg (stV [sa, sb, sj, sw][j]).toArray, .agg (rowV [] Vv.vals V).toArray] W fun x w' => x = .returned (.bool [m0, m1, m2, m3][j]) ∧ Gr W w') := T.Hid.mk (fun j h h' W => by
    match j, h, h' with
    | 0, _, _ => have := pAllows_any la A V hA hV W; rw [esa, em0] at this; exact this
    | 1, _, _ => have := pAllows_any lb B V hB hV W; rw [esb, em1] at this; exact this
    | 2, _, _ => have := pAllows_any (mL la lb) _ V rJ hV W; rw [esj, em2] at this; exact this
    | 3, _, _ => have := pAllows_any (mL la lb) _ V rW hV W; rw [esw, em3] at this; exact this
    | n + 4, h, _ => simp at h; omega)
  have f1 : T.Hid (m0 = true → m2 = true ∧ m3 = true) := T.Hid.mk (fun h => by
    have q2 : m2 = true := by rw [← em2]; exact aS_und hA.1 rJ.1 (above_st hA hB).1 (by rw [em0]; exact h)
    exact ⟨q2, by rw [← em3]; exact aS_und rJ.1 rW.1 (wide_st hA hB) (by rw [em2]; exact q2)⟩)
  have f2 : T.Hid (m1 = true → m2 = true ∧ m3 = true) := T.Hid.mk (fun h => by
    have q2 : m2 = true := by rw [← em2]; exact aS_und hB.1 rJ.1 (above_st hA hB).2 (by rw [em1]; exact h)
    exact ⟨q2, by rw [← em3]; exact aS_und rJ.1 rW.1 (wide_st hA hB) (by rw [em2]; exact q2)⟩)
  have f3 : T.Hid (bx = true → m0 = true → ac = true) := T.Hid.mk (fun h k => by rw [← eac]; exact aS_und hA.1 hC.1 (by rw [ex]; exact h) (by rw [em0]; exact k))
  have f4 : T.Hid (m0 = true → ∀ k (ha : k < A.length) (hv : k < V.length), H9 A[k] V[k] = true) := T.Hid.mk (fun h k ha hv => aS_at (by rw [em0]; exact h) k ha hv)
  have eS := T.Hid.mk (fun W => eqSt false Z16 rfl W)
  have z47 : Try.zeroCells47 = (stV sz).toArray := zero_st.trans (by rw [esz])
  have hA := hA.1
  have hV := hV.1
  have lV : T.Hid ((Try.prog.info? 48).map (·.size) = some (rowV [] Vv.vals V).length) := T.Hid.mk (by rw [row_len vv_len, hV]; exact info48)
  have hdb := T.Hid.mk (bld1 Try.zeroCells47 (by rw [zero47, List.size_toArray, row_len rt_len]; rfl) (.bool false) (by rw [zero47]; rfl) (rowV [] RT.vals A) (by rw [row_len rt_len, hA]; rfl))
  replace hdb : T.Hid (List.foldl (fun cs x => cs.setIfInBounds (1 + x.snd) x.fst) Try.zeroCells47 (rowV [] RT.vals A).zipIdx = (stV sd).toArray) := T.Hid.mk (by rw [← esd]; exact hdb.out)
  replace eS : T.Hid (∀ W, (binOp .eql 47 (.agg (stV sz).toArray) (.agg (stV sz).toArray)).run Try.prog W = .ok (.bool true) W) := T.Hid.mk (fun W => by rw [← esz]; exact eS.out W)
  rw [esa, esb, esc]
  replace esa : T.Hid (rowV [.bool la] RT.vals A = stV sa) := T.Hid.mk esa
  clear esb esc esj esw esd esz ex ey em0 em1 em2 em3 eac rJ rW hB hC
  go_enter Try.func4, Try.ntmps4
  go_upto_region 1 with fail
  have B0 : T.Hid (At (((((w).alloc (.cells (stV sa).toArray 47)).alloc (.cells (stV sb).toArray 47)).alloc (.cells (stV sc).toArray 47)).alloc (.cells (rowV [] Vv.vals V).toArray 48)) (w.heap.size) (stV sa).toArray) := T.Hid.mk ((((At.at_ w _ _ rfl).alloc _).alloc _).alloc _)
  have B1 : T.Hid (At (((((w).alloc (.cells (stV sa).toArray 47)).alloc (.cells (stV sb).toArray 47)).alloc (.cells (stV sc).toArray 47)).alloc (.cells (rowV [] Vv.vals V).toArray 48)) (w.heap.size + 1) (stV sb).toArray) := T.Hid.mk (((At.at_ _ _ _ (by simp)).alloc _).alloc _)
  have B2 : T.Hid (At (((((w).alloc (.cells (stV sa).toArray 47)).alloc (.cells (stV sb).toArray 47)).alloc (.cells (stV sc).toArray 47)).alloc (.cells (rowV [] Vv.vals V).toArray 48)) (w.heap.size + 1 + 1) (stV sc).toArray) := T.Hid.mk ((At.at_ _ _ _ (by simp)).alloc _)
  have B3 : T.Hid (At (((((w).alloc (.cells (stV sa).toArray 47)).alloc (.cells (stV sb).toArray 47)).alloc (.cells (stV sc).toArray 47)).alloc (.cells (rowV [] Vv.vals V).toArray 48)) (w.heap.size + 1 + 1 + 1) (rowV [] Vv.vals V).toArray) := T.Hid.mk (At.at_ _ _ _ (by simp))
  have G : T.Hid (Gr w (((((w).alloc (.cells (stV sa).toArray 47)).alloc (.cells (stV sb).toArray 47)).alloc (.cells (stV sc).toArray 47)).alloc (.cells (rowV [] Vv.vals V).toArray 48))) := T.Hid.mk (((((Gr.refl w).alloc _).alloc _).alloc _).alloc _)
  generalize ((((w).alloc (.cells (stV sa).toArray 47)).alloc (.cells (stV sb).toArray 47)).alloc (.cells (stV sc).toArray 47)).alloc (.cells (rowV [] Vv.vals V).toArray 48) = W0 at B0 B1 B2 B3 G ⊢
  go_upto_region 2 with (go_at_call 6; refine (h0.out _).mono ?_; rintro x w1 ⟨rfl, q⟩)
  replace G := T.Hid.mk (G.out.trans q)
  replace B0 := T.Hid.mk (B0.out.gr q)
  replace B1 := T.Hid.mk (B1.out.gr q)
  replace B2 := T.Hid.mk (B2.out.gr q)
  replace B3 := T.Hid.mk (B3.out.gr q)
  clear q h0
  go_upto_region 2 with fail
  refine wp_region_lit ?_
  refine wpList_plain rfl (fun K hK => ?_)
  refine wp_load_mid _ _ rfl _ 0 rfl (stV sa) _ B0.out.range Try.underlying47 rfl (info_sv _) (hK _ _ ?_)
  clear hK K
  try simp only [Act.put, List.setIfInBounds_toArray, List.set_cons_zero, List.set_cons_succ]
  refine wpList_plain rfl (fun K hK => ?_)
  refine wp_load_mid _ _ rfl _ 0 rfl (stV sb) _ B1.out.range Try.underlying47 rfl (info_sv _) (hK _ _ ?_)
  clear hK K
  try simp only [Act.put, List.setIfInBounds_toArray, List.set_cons_zero, List.set_cons_succ]
  refine wpList_plain rfl (fun K hK => ?_)
  go_simp
  (go_at_call 14; refine (hJ.out _).mono ?_; rintro x wq ⟨rfl, q9⟩; replace q9 := T.Hid.mk q9)
  with_reducible refine hK _ _ ?_
  clear hK K
  try simp only [Act.put, List.setIfInBounds_toArray, List.set_cons_zero, List.set_cons_succ]
  refine wpList_plain rfl (fun K hK => ?_)
  go_simp
  with_reducible refine hK _ _ ?_
  clear hK K
  try simp only [Act.put, List.setIfInBounds_toArray, List.set_cons_zero, List.set_cons_succ]
  have b4 : T.Hid (At (wq.alloc (.cells (stV sz).toArray 47)) wq.heap.size (stV sz).toArray) := T.Hid.mk (At.new _ _ _)
  refine wpList_plain rfl (fun K hK => ?_)
  refine wp_store_mid _ _ _ rfl _ _ (List.toArray (stV sj)) rfl rfl (by first | (rw [z47]; exact b4.out.there 0 _ (by have a9 := stV_len sz; have b9 := stV_len sj; simp only [List.size_toArray]; omega)) | exact b4.out.there 0 _ (by have a9 := stV_len sz; have b9 := stV_len sj; simp only [List.size_toArray]; omega)) (by rw [List.size_toArray]; exact info_sv _) (all_oneCell_toArray (one_sv _)) (hK _ _ ?_)
  clear hK K
  try simp only [Act.put]
  try rw [z47]
  have BJ := T.Hid.mk (b4.out.setAll (stV sj) ((stV_len _).trans (stV_len _).symm))
  replace G := T.Hid.mk (((G.out.trans q9.out).alloc (.cells (stV sz).toArray 47)).setCells wq.heap.size (G.out.trans q9.out).below.size (stV sj) 0)
  replace B0 := T.Hid.mk ((((B0.out.gr q9.out)).alloc (.cells (stV sz).toArray 47)).other (b' := wq.heap.size) (Nat.ne_of_lt ((B0.out.gr q9.out)).1) 0 (stV sj))
  replace B1 := T.Hid.mk ((((B1.out.gr q9.out)).alloc (.cells (stV sz).toArray 47)).other (b' := wq.heap.size) (Nat.ne_of_lt ((B1.out.gr q9.out)).1) 0 (stV sj))
  replace B2 := T.Hid.mk ((((B2.out.gr q9.out)).alloc (.cells (stV sz).toArray 47)).other (b' := wq.heap.size) (Nat.ne_of_lt ((B2.out.gr q9.out)).1) 0 (stV sj))
  replace B3 := T.Hid.mk ((((B3.out.gr q9.out)).alloc (.cells (stV sz).toArray 47)).other (b' := wq.heap.size) (Nat.ne_of_lt ((B3.out.gr q9.out)).1) 0 (stV sj))
  clear q9 b4
  generalize World.setCells _ _ _ _ = W2 at *
  generalize wq.heap.size = kj at *
  clear hJ
  go_upto_region 3 with fail
  refine wp_region_lit ?_
  refine wpList_plain rfl (fun K hK => ?_)
  refine wp_load_mid _ _ rfl _ 0 rfl (stV sa) _ B0.out.range Try.underlying47 rfl (info_sv _) (hK _ _ ?_)
  clear hK K
  try simp only [Act.put, List.setIfInBounds_toArray, List.set_cons_zero, List.set_cons_succ]
  refine wpList_plain rfl (fun K hK => ?_)
  refine wp_load_mid _ _ rfl _ 0 rfl (stV sb) _ B1.out.range Try.underlying47 rfl (info_sv _) (hK _ _ ?_)
  clear hK K
  try simp only [Act.put, List.setIfInBounds_toArray, List.set_cons_zero, List.set_cons_succ]
  refine wpList_plain rfl (fun K hK => ?_)
  go_simp
  (go_at_call 15; refine (hW.out _).mono ?_; rintro x wq ⟨rfl, q9⟩; replace q9 := T.Hid.mk q9)
  with_reducible refine hK _ _ ?_
  clear hK K
  try simp only [Act.put, List.setIfInBounds_toArray, List.set_cons_zero, List.set_cons_succ]
  refine wpList_plain rfl (fun K hK => ?_)
  go_simp
  with_reducible refine hK _ _ ?_
  clear hK K
  try simp only [Act.put, List.setIfInBounds_toArray, List.set_cons_zero, List.set_cons_succ]
  have b4 : T.Hid (At (wq.alloc (.cells (stV sz).toArray 47)) wq.heap.size (stV sz).toArray) := T.Hid.mk (At.new _ _ _)
  refine wpList_plain rfl (fun K hK => ?_)
  refine wp_store_mid _ _ _ rfl _ _ (List.toArray (stV sw)) rfl rfl (by first | (rw [z47]; exact b4.out.there 0 _ (by have a9 := stV_len sz; have b9 := stV_len sw; simp only [List.size_toArray]; omega)) | exact b4.out.there 0 _ (by have a9 := stV_len sz; have b9 := stV_len sw; simp only [List.size_toArray]; omega)) (by rw [List.size_toArray]; exact info_sv _) (all_oneCell_toArray (one_sv _)) (hK _ _ ?_)
  clear hK K
  try simp only [Act.put]
  try rw [z47]
  have BW := T.Hid.mk (b4.out.setAll (stV sw) ((stV_len _).trans (stV_len _).symm))
  replace G := T.Hid.mk (((G.out.trans q9.out).alloc (.cells (stV sz).toArray 47)).setCells wq.heap.size (G.out.trans q9.out).below.size (stV sw) 0)
  replace B0 := T.Hid.mk ((((B0.out.gr q9.out)).alloc (.cells (stV sz).toArray 47)).other (b' := wq.heap.size) (Nat.ne_of_lt ((B0.out.gr q9.out)).1) 0 (stV sw))
  replace B1 := T.Hid.mk ((((B1.out.gr q9.out)).alloc (.cells (stV sz).toArray 47)).other (b' := wq.heap.size) (Nat.ne_of_lt ((B1.out.gr q9.out)).1) 0 (stV sw))
  replace B2 := T.Hid.mk ((((B2.out.gr q9.out)).alloc (.cells (stV sz).toArray 47)).other (b' := wq.heap.size) (Nat.ne_of_lt ((B2.out.gr q9.out)).1) 0 (stV sw))
  replace B3 := T.Hid.mk ((((B3.out.gr q9.out)).alloc (.cells (stV sz).toArray 47)).other (b' := wq.heap.size) (Nat.ne_of_lt ((B3.out.gr q9.out)).1) 0 (stV sw))
  replace BJ := T.Hid.mk ((((BJ.out.gr q9.out)).alloc (.cells (stV sz).toArray 47)).other (b' := wq.heap.size) (Nat.ne_of_lt ((BJ.out.gr q9.out)).1) 0 (stV sw))
  clear q9 b4
  generalize World.setCells _ _ _ _ = W3 at *
  generalize wq.heap.size = kw at *
  clear hW
  go_upto_region 4 with fail
  refine wp_region_lit ?_
  refine wpList_plain rfl (fun K hK => ?_)
  refine wp_load_mid _ _ rfl _ 0 rfl (stV sa) _ B0.out.range Try.underlying47 rfl (info_sv _) (hK _ _ ?_)
  clear hK K
  try simp only [Act.put, List.setIfInBounds_toArray, List.set_cons_zero, List.set_cons_succ]
  refine wpList_plain rfl (fun K hK => ?_)
  refine wp_load_mid _ _ rfl _ 0 rfl (stV sc) _ B2.out.range Try.underlying47 rfl (info_sv _) (hK _ _ ?_)
  clear hK K
  try simp only [Act.put, List.setIfInBounds_toArray, List.set_cons_zero, List.set_cons_succ]
  refine wpList_plain rfl (fun K hK => ?_)
  go_simp
  (go_at_call 16; refine (h1.out _).mono ?_; rintro x wq ⟨rfl, q9⟩; replace q9 := T.Hid.mk q9)
  with_reducible refine hK _ _ ?_
  clear hK K
  try simp only [Act.put, List.setIfInBounds_toArray, List.set_cons_zero, List.set_cons_succ]
  refine wpList_plain rfl (fun K hK => ?_)
  go_simp
  with_reducible refine hK _ _ ?_
  clear hK K
  try simp only [Act.put, List.setIfInBounds_toArray, List.set_cons_zero, List.set_cons_succ]
  replace G := T.Hid.mk (G.out.trans q9.out)
  replace B0 := T.Hid.mk (B0.out.gr q9.out)
  replace B1 := T.Hid.mk (B1.out.gr q9.out)
  replace B2 := T.Hid.mk (B2.out.gr q9.out)
  replace B3 := T.Hid.mk (B3.out.gr q9.out)
  replace BJ := T.Hid.mk (BJ.out.gr q9.out)
  replace BW := T.Hid.mk (BW.out.gr q9.out)
  clear q9 h1
  generalize wq = W4 at *
  go_upto_region 5 with fail
  refine wp_region_lit ?_
  refine wpList_plain rfl (fun K hK => ?_)
  refine wp_load_mid _ _ rfl _ 0 rfl (stV sb) _ B1.out.range Try.underlying47 rfl (info_sv _) (hK _ _ ?_)
  clear hK K
  try simp only [Act.put, List.setIfInBounds_toArray, List.set_cons_zero, List.set_cons_succ]
  refine wpList_plain rfl (fun K hK => ?_)
  refine wp_load_mid _ _ rfl _ 0 rfl (stV sc) _ B2.out.range Try.underlying47 rfl (info_sv _) (hK _ _ ?_)
  clear hK K
  try simp only [Act.put, List.setIfInBounds_toArray, List.set_cons_zero, List.set_cons_succ]
  refine wpList_plain rfl (fun K hK => ?_)
  go_simp
  (go_at_call 16; refine (h2.out _).mono ?_; rintro x wq ⟨rfl, q9⟩; replace q9 := T.Hid.mk q9)
  with_reducible refine hK _ _ ?_
  clear hK K
  try simp only [Act.put, List.setIfInBounds_toArray, List.set_cons_zero, List.set_cons_succ]
  refine wpList_plain rfl (fun K hK => ?_)
  go_simp
  with_reducible refine hK _ _ ?_
  clear hK K
  try simp only [Act.put, List.setIfInBounds_toArray, List.set_cons_zero, List.set_cons_succ]
  replace G := T.Hid.mk (G.out.trans q9.out)
  replace B0 := T.Hid.mk (B0.out.gr q9.out)
  replace B1 := T.Hid.mk (B1.out.gr q9.out)
  replace B2 := T.Hid.mk (B2.out.gr q9.out)
  replace B3 := T.Hid.mk (B3.out.gr q9.out)
  replace BJ := T.Hid.mk (BJ.out.gr q9.out)
  replace BW := T.Hid.mk (BW.out.gr q9.out)
  clear q9 h2
  generalize wq = W5 at *
  go_upto_region 6 with fail
  refine wp_region_lit ?_
  refine wpList_plain rfl (fun K hK => ?_)
  refine wp_load_mid _ _ rfl _ 0 rfl (stV sj) _ BJ.out.range Try.underlying47 rfl (info_sv _) (hK _ _ ?_)
  clear hK K
  try simp only [Act.put, List.setIfInBounds_toArray, List.set_cons_zero, List.set_cons_succ]
  refine wpList_plain rfl (fun K hK => ?_)
  refine wp_load_mid _ _ rfl _ 0 rfl (stV sc) _ B2.out.range Try.underlying47 rfl (info_sv _) (hK _ _ ?_)
  clear hK K
  try simp only [Act.put, List.setIfInBounds_toArray, List.set_cons_zero, List.set_cons_succ]
  refine wpList_plain rfl (fun K hK => ?_)
  go_simp
  (go_at_call 16; refine (h3.out _).mono ?_; rintro x wq ⟨rfl, q9⟩; replace q9 := T.Hid.mk q9)
  with_reducible refine hK _ _ ?_
  clear hK K
  try simp only [Act.put, List.setIfInBounds_toArray, List.set_cons_zero, List.set_cons_succ]
  refine wpList_plain rfl (fun K hK => ?_)
  go_simp
  with_reducible refine hK _ _ ?_
  clear hK K
  try simp only [Act.put, List.setIfInBounds_toArray, List.set_cons_zero, List.set_cons_succ]
  replace G := T.Hid.mk (G.out.trans q9.out)
  replace B0 := T.Hid.mk (B0.out.gr q9.out)
  replace B1 := T.Hid.mk (B1.out.gr q9.out)
  replace B2 := T.Hid.mk (B2.out.gr q9.out)
  replace B3 := T.Hid.mk (B3.out.gr q9.out)
  replace BJ := T.Hid.mk (BJ.out.gr q9.out)
  replace BW := T.Hid.mk (BW.out.gr q9.out)
  clear q9 h3
  generalize wq = W6 at *
  go_upto_region 7 with fail
  refine wp_region_lit ?_
  refine wpList_plain rfl (fun K hK => ?_)
  refine wp_load_mid _ _ rfl _ 0 rfl (stV sa) _ B0.out.range Try.underlying47 rfl (info_sv _) (hK _ _ ?_)
  clear hK K
  try simp only [Act.put, List.setIfInBounds_toArray, List.set_cons_zero, List.set_cons_succ]
  refine wpList_plain rfl (fun K hK => ?_)
  refine wp_load_mid _ _ rfl _ 0 rfl (stV sb) _ B1.out.range Try.underlying47 rfl (info_sv _) (hK _ _ ?_)
  clear hK K
  try simp only [Act.put, List.setIfInBounds_toArray, List.set_cons_zero, List.set_cons_succ]
  refine wpList_plain rfl (fun K hK => ?_)
  refine wp_load_mid _ _ rfl _ 0 rfl (stV sj) _ BJ.out.range Try.underlying47 rfl (info_sv _) (hK _ _ ?_)
  clear hK K
  try simp only [Act.put, List.setIfInBounds_toArray, List.set_cons_zero, List.set_cons_succ]
  refine wpList_plain rfl (fun K hK => ?_)
  refine wp_load_mid _ _ rfl _ 0 rfl (stV sw) _ BW.out.range Try.underlying47 rfl (info_sv _) (hK _ _ ?_)
  clear hK K
  try simp only [Act.put, List.setIfInBounds_toArray, List.set_cons_zero, List.set_cons_succ]
  refine Great.wpList_buildSliceTo rfl 51 47 4 _ rfl W6.heap.size rfl _ rfl Try.underlying51 (rowV [] stV [sa, sb, sj, sw]).toArray (by simp only [List.map_toArray, List.map_cons, List.map_nil]; exact built_sv sa sb sj sw) ?_
  try simp only [Act.put, List.setIfInBounds_toArray, List.set_cons_zero, List.set_cons_succ]
  have BL : T.Hid (At (W6.alloc (.cells (rowV [] stV [sa, sb, sj, sw]).toArray 47)) W6.heap.size (rowV [] stV [sa, sb, sj, sw]).toArray) := T.Hid.mk (At.new _ _ _)
  replace G := T.Hid.mk (G.out.trans ((Gr.refl W6).alloc (.cells (rowV [] stV [sa, sb, sj, sw]).toArray 47)))
  replace B0 := T.Hid.mk (B0.out.gr ((Gr.refl W6).alloc (.cells (rowV [] stV [sa, sb, sj, sw]).toArray 47)))
  replace B1 := T.Hid.mk (B1.out.gr ((Gr.refl W6).alloc (.cells (rowV [] stV [sa, sb, sj, sw]).toArray 47)))
  replace B2 := T.Hid.mk (B2.out.gr ((Gr.refl W6).alloc (.cells (rowV [] stV [sa, sb, sj, sw]).toArray 47)))
  replace B3 := T.Hid.mk (B3.out.gr ((Gr.refl W6).alloc (.cells (rowV [] stV [sa, sb, sj, sw]).toArray 47)))
  replace BJ := T.Hid.mk (BJ.out.gr ((Gr.refl W6).alloc (.cells (rowV [] stV [sa, sb, sj, sw]).toArray 47)))
  replace BW := T.Hid.mk (BW.out.gr ((Gr.refl W6).alloc (.cells (rowV [] stV [sa, sb, sj, sw]).toArray 47)))
  go_upto_region 10 with fail
  generalize W6.alloc (.cells (rowV [] stV [sa, sb, sj, sw]).toArray 47) = W7 at *
  generalize W6.heap.size = kl at *
  replace G := T.Hid.mk G.out.below
  have e0 : w.heap.size + 1 + 1 + 1 < W7.heap.size := B3.out.1
  have ej : kj < W7.heap.size := BJ.out.1
  have ew : kw < W7.heap.size := BW.out.1
  have el : kl < W7.heap.size := BL.out.1
  go_loopw [16, 17] (fun v i wr => ∃ j : Nat, i = .int .i64 j ∧ j ≤ 4 ∧ T.Hid (World.ownsRow wr W7.heap.size 4 1 v j (([m0, m1, m2, m3].take j).map Value.bool)) ∧ T.Hid (At wr w.heap.size (stV sa).toArray) ∧ T.Hid (At wr (w.heap.size + 1) (stV sb).toArray) ∧ T.Hid (At wr (w.heap.size + 1 + 1) (stV sc).toArray) ∧ T.Hid (At wr (w.heap.size + 1 + 1 + 1) (rowV [] Vv.vals V).toArray) ∧ T.Hid (At wr kj (stV sj).toArray) ∧ T.Hid (At wr kw (stV sw).toArray) ∧ T.Hid (At wr kl (rowV [] stV [sa, sb, sj, sw]).toArray) ∧ T.Hid (Below w.heap.size w wr) ∧ T.Hid (W7.heap.size ≤ wr.heap.size)) (fun _ i _ => 4 - (intOf i).toNat)
  case atStart => exact ⟨0, rfl, by omega, T.Hid.mk ⟨rfl, .inl ⟨rfl, rfl⟩⟩, B0, B1, B2, B3, BJ, BW, BL, G, T.Hid.mk (Nat.le_refl _)⟩
  case round =>
    clear B0 B1 B2 B3 BJ BW BL G
    obtain ⟨j, rfl, hj, ow, B0, B1, B2, B3, BJ, BW, BL, G, hsz⟩ := hrel
    by_cases hlt : j < 4
    · have hl4 : j < [sa, sb, sj, sw].length := hlt
      have hm4 : j < [m0, m1, m2, m3].length := hlt
      have hjl : (j : Int) < 4 := by omega
      have k4 := T.Hid.mk (fun W => hAl.out j hl4 hm4 W)
      have tk : T.Hid (([m0, m1, m2, m3].take j).map Value.bool ++ [Value.bool [m0, m1, m2, m3][j]] = ([m0, m1, m2, m3].take (j + 1)).map Value.bool) := T.Hid.mk (by rw [← List.take_append_getElem hm4, List.map_append]; rfl)
      generalize hmj : [m0, m1, m2, m3][j] = mj at *
      clear hmj
      go_upto_region 12 with fail
      have KS : T.Hid (∀ W, Gr wr W → W.rangeAt kl (j * 193) (stV [sa, sb, sj, sw][j]) ∧ W.rangeAt (w.heap.size + 1 + 1 + 1) 0 (rowV [] Vv.vals V)) := T.Hid.mk (fun W g => ⟨(BL.out.gr g).elem (pre := []) stV_len j hl4 (j * 193) (by simp), (B3.out.gr g).range⟩)
      generalize hsj : [sa, sb, sj, sw][j] = E at *
      clear hsj
      have d1 : Gr wr wr.drew := (Gr.refl _).drew
      refine wp_region_held_drew (S := (fun W => W.rangeAt kl (j * 193) (stV E) ∧ W.rangeAt (w.heap.size + 1 + 1 + 1) 0 (rowV [] Vv.vals V))) (by kernel_rfl) (KS.out _ d1) (fun hHeld => ?_)
      refine wpAnyH_take (i := 0) (oi := { dst := some 55, op := Op.move (Operand.tmp 15), type := 51, pos := "order.go:148", after := #[], guard := none }) (v := ?_) rfl (by kernel_rfl) (by kernel_rfl) (by kernel_rfl) (fun _ _ _ h => h) (Or.inl ⟨by rfl, ?_⟩) (by assumption) ?_
      rotate_left
      · intro w hSw; (try dsimp only at hSw); go_simp; first | done | with_reducible rfl
      try simp only [Act.put, List.setIfInBounds_toArray, List.set_cons_zero, List.set_cons_succ]
      refine wpAnyH_take (i := 1) (oi := { dst := some 56, op := Op.move (Operand.tmp 17), type := 3, pos := "order.go:148", after := #[], guard := none }) (v := ?_) rfl (by kernel_rfl) (by kernel_rfl) (by kernel_rfl) (fun _ _ _ h => h) (Or.inl ⟨by rfl, ?_⟩) (by assumption) ?_
      rotate_left
      · intro w hSw; (try dsimp only at hSw); go_simp; first | done | with_reducible rfl
      try simp only [Act.put, List.setIfInBounds_toArray, List.set_cons_zero, List.set_cons_succ]
      refine wpAnyH_take (i := 2) (oi := { dst := some 57, op := Op.indexAddr 51 (Operand.tmp 55) (Operand.tmp 56), type := 0, pos := "order.go:148", after := #[{ on := 0, ground := Ground.data }, { on := 1, ground := Ground.data }], guard := none }) (v := ?_) rfl (by kernel_rfl) (by kernel_rfl) (by kernel_rfl) (fun _ _ _ h => h) (Or.inl ⟨by rfl, ?_⟩) (by assumption) ?_
      rotate_left
      · intro w hSw; (try dsimp only at hSw); go_simp; first | done | with_reducible rfl
      try simp only [Act.put, List.setIfInBounds_toArray, List.set_cons_zero, List.set_cons_succ]
      refine wpAnyH_take (i := 3) (oi := { dst := some 58, op := Op.load 47 (Operand.tmp 57), type := 47, pos := "order.go:148", after := #[{ on := 2, ground := Ground.data }], guard := none }) (v := _) rfl (by kernel_rfl) (by kernel_rfl) (by kernel_rfl) (fun _ _ _ h => h) (yieldsIf_load_mid (by rfl) _ _ rfl _ _ rfl _ _ (fun _ h => h.1) Try.underlying47 rfl (info_sv _)) (by assumption) ?_
      try simp only [Act.put, List.setIfInBounds_toArray, List.set_cons_zero, List.set_cons_succ]
      refine wpAnyH_take (i := 4) (oi := { dst := some 59, op := Op.load 48 (Operand.tmp 7), type := 48, pos := "order.go:148", after := #[], guard := none }) (v := _) rfl (by kernel_rfl) (by kernel_rfl) (by kernel_rfl) (fun _ _ _ h => h) (yieldsIf_load_mid (by rfl) _ _ rfl _ _ rfl _ _ (fun _ h => h.2) Try.underlying48 rfl lV.out) (by assumption) ?_
      try simp only [Act.put, List.setIfInBounds_toArray, List.set_cons_zero, List.set_cons_succ]
      refine wpAnyH_ready (rs := [5]) (by kernel_rfl) (by simp) ?_
      refine AllReadyH.cons (o := { dst := some 60, op := Op.call { callee := Callee.value (Operand.func 17), args := #[Operand.tmp 58, Operand.tmp 59], argTypes := #[47, 48] }, type := 4, pos := "order.go:148", after := #[{ on := 3, ground := Ground.data }, { on := 4, ground := Ground.data }], guard := none }) rfl (fun K hK => ?_) AllReadyH.nil
      go_simp
      go_wp2_with ((go_at_call 17; refine (k4.out _).mono ?_; rintro x wq ⟨rfl, q9⟩; have d1 : Gr wr wq := Gr.trans (by (repeat (first | with_reducible assumption | with_reducible exact Gr.refl _ | with_reducible refine Gr.drew ?_ | with_reducible refine Gr.alloc ?_ _))) q9; clear q9))
      refine hK.out _ _ (KS.out _ d1) (fun hHeld => ?_)
      clear hK K
      try simp only [Act.put, List.setIfInBounds_toArray, List.set_cons_zero, List.set_cons_succ]
      refine wpAnyH_take (i := 6) (oi := { dst := some 18, op := Op.assign (Operand.tmp 60), type := 4, pos := "order.go:148", after := #[{ on := 5, ground := Ground.data }, { on := 5, ground := Ground.chain }, { on := 0, ground := Ground.phase }, { on := 1, ground := Ground.phase }, { on := 2, ground := Ground.phase }, { on := 3, ground := Ground.phase }, { on := 4, ground := Ground.phase }, { on := 5, ground := Ground.phase }], guard := none }) (v := ?_) rfl (by kernel_rfl) (by kernel_rfl) (by kernel_rfl) (fun _ _ _ h => h) (Or.inl ⟨by rfl, ?_⟩) (by assumption) ?_
      rotate_left
      · intro w hSw; (try dsimp only at hSw); go_simp; first | done | with_reducible rfl
      try simp only [Act.put, List.setIfInBounds_toArray, List.set_cons_zero, List.set_cons_succ]
      refine wpAnyH_done (by kernel_rfl) ?_ _
      clear hHeld KS
      replace G := T.Hid.mk (Below.gr G.out (Nat.le_of_lt (B0.out.1)) d1)
      replace hsz := T.Hid.mk (Nat.le_trans hsz.out d1.below.size)
      replace B0 := T.Hid.mk (B0.out.gr d1)
      replace B1 := T.Hid.mk (B1.out.gr d1)
      replace B2 := T.Hid.mk (B2.out.gr d1)
      replace B3 := T.Hid.mk (B3.out.gr d1)
      replace BJ := T.Hid.mk (BJ.out.gr d1)
      replace BW := T.Hid.mk (BW.out.gr d1)
      replace BL := T.Hid.mk (BL.out.gr d1)
      replace ow := T.Hid.mk (own_gr ow.out d1)
      clear d1 k4
      go_upto_region 13 with fail
      refine wp_region_lit ?_
      refine wpList_plain rfl (fun K hK => ?_)
      go_simp
      with_reducible refine hK _ _ ?_
      clear hK K
      try simp only [Act.put, List.setIfInBounds_toArray, List.set_cons_zero, List.set_cons_succ]
      refine wpList_plain rfl (fun K hK => ?_)
      go_simp
      with_reducible refine hK _ _ ?_
      clear hK K
      try simp only [Act.put, List.setIfInBounds_toArray, List.set_cons_zero, List.set_cons_succ]
      refine wpList_plain rfl (fun K hK => ?_)
      go_simp
      with_reducible refine hK _ _ ?_
      clear hK K
      try simp only [Act.put, List.setIfInBounds_toArray, List.set_cons_zero, List.set_cons_succ]
      have d2 := T.Hid.mk ((Gr.refl wq).alloc (.cells #[.bool mj] 4))
      have cx : T.Hid ((wq.alloc (.cells #[.bool mj] 4)).cell? ⟨wq.heap.size, 0, none⟩ = some (.bool mj)) := T.Hid.mk (by simp)
      replace G := T.Hid.mk (Below.gr G.out (Nat.le_of_lt (B0.out.1)) d2.out)
      replace hsz := T.Hid.mk (Nat.le_trans hsz.out d2.out.below.size)
      replace B0 := T.Hid.mk (B0.out.gr d2.out)
      replace B1 := T.Hid.mk (B1.out.gr d2.out)
      replace B2 := T.Hid.mk (B2.out.gr d2.out)
      replace B3 := T.Hid.mk (B3.out.gr d2.out)
      replace BJ := T.Hid.mk (BJ.out.gr d2.out)
      replace BW := T.Hid.mk (BW.out.gr d2.out)
      replace BL := T.Hid.mk (BL.out.gr d2.out)
      replace ow := T.Hid.mk (own_gr ow.out d2.out)
      clear d2
      generalize wq.alloc (.cells #[.bool mj] 4) = W8 at *
      generalize wq.heap.size = k8 at *
      refine wpList_append_b rfl _ _ rfl W7.heap.size _ j _ rfl ow.out k8 rfl mj cx.out (by omega) hsz.out (fun g cap W9 ho hg => ?_)
      rw [tk.out] at ho
      replace G := T.Hid.mk (G.out.trans (below_grown hg (Nat.le_of_lt B0.out.1) (fun q hq => by have := own_base ow.out q hq; have := e0; omega)))
      replace hsz := T.Hid.mk (Nat.le_trans hsz.out hg.size)
      replace B0 := T.Hid.mk (At.grownBy B0.out hg (own_far ow.out (by have := e0; omega)))
      replace B1 := T.Hid.mk (At.grownBy B1.out hg (own_far ow.out (by have := e0; omega)))
      replace B2 := T.Hid.mk (At.grownBy B2.out hg (own_far ow.out (by have := e0; omega)))
      replace B3 := T.Hid.mk (At.grownBy B3.out hg (own_far ow.out (by have := e0; omega)))
      replace BJ := T.Hid.mk (At.grownBy BJ.out hg (own_far ow.out (by have := ej; omega)))
      replace BW := T.Hid.mk (At.grownBy BW.out hg (own_far ow.out (by have := ew; omega)))
      replace BL := T.Hid.mk (At.grownBy BL.out hg (own_far ow.out (by have := el; omega)))
      clear hg ow cx tk
      try simp only [Act.put, List.setIfInBounds_toArray, List.set_cons_zero, List.set_cons_succ]
      go_wp2_with fail
      exact ⟨⟨j + 1, by go_num, by omega, T.Hid.mk ho, B0, B1, B2, B3, BJ, BW, BL, G, hsz⟩, by simp [intOf]; omega⟩
    · have hjl : ¬ (j : Int) < 4 := by omega
      have ej4 : j = 4 := by omega
      subst ej4
      clear e0 ej ew el
      obtain ⟨g, cap, rfl, M⟩ := may_of (m := [m0, m1, m2, m3]) ow.out (by simp)
      replace M := T.Hid.mk M
      clear ow hsz BL
      go_upto_region 14 with fail
      generalize wr = X3 at *
      refine wp_region_lit ?_
      refine wpList_plain rfl (fun K hK => ?_)
      refine wp_load_mid _ _ rfl _ 0 rfl (stV sa) _ B0.out.range Try.underlying47 rfl (info_sv _) (hK _ _ ?_)
      clear hK K
      try simp only [Act.put, List.setIfInBounds_toArray, List.set_cons_zero, List.set_cons_succ]
      refine wpList_plain rfl (fun K hK => ?_)
      refine wp_load_mid _ _ rfl _ 0 rfl (stV sj) _ BJ.out.range Try.underlying47 rfl (info_sv _) (hK _ _ ?_)
      clear hK K
      try simp only [Act.put, List.setIfInBounds_toArray, List.set_cons_zero, List.set_cons_succ]
      refine wpList_plain rfl (fun K hK => ?_)
      go_simp
      (go_at_call 16; refine (h5.out _).mono ?_; rintro x wq ⟨rfl, q9⟩; replace q9 := T.Hid.mk q9)
      with_reducible refine hK _ _ ?_
      clear hK K
      try simp only [Act.put, List.setIfInBounds_toArray, List.set_cons_zero, List.set_cons_succ]
      refine wpList_plain rfl (fun K hK => ?_)
      go_simp
      with_reducible refine hK _ _ ?_
      clear hK K
      try simp only [Act.put, List.setIfInBounds_toArray, List.set_cons_zero, List.set_cons_succ]
      replace G := T.Hid.mk (Below.gr G.out (Nat.le_of_lt (B0.out.1)) q9.out)
      replace B0 := T.Hid.mk (B0.out.gr q9.out)
      replace B1 := T.Hid.mk (B1.out.gr q9.out)
      replace B2 := T.Hid.mk (B2.out.gr q9.out)
      replace B3 := T.Hid.mk (B3.out.gr q9.out)
      replace BJ := T.Hid.mk (BJ.out.gr q9.out)
      replace BW := T.Hid.mk (BW.out.gr q9.out)
      replace M := T.Hid.mk (M.out.gr q9.out)
      clear q9 h5
      generalize wq = X4 at *
      go_upto_region 15 with fail
      refine wp_region_lit ?_
      refine wpList_plain rfl (fun K hK => ?_)
      refine wp_load_mid _ _ rfl _ 0 rfl (stV sb) _ B1.out.range Try.underlying47 rfl (info_sv _) (hK _ _ ?_)
      clear hK K
      try simp only [Act.put, List.setIfInBounds_toArray, List.set_cons_zero, List.set_cons_succ]
      refine wpList_plain rfl (fun K hK => ?_)
      refine wp_load_mid _ _ rfl _ 0 rfl (stV sw) _ BW.out.range Try.underlying47 rfl (info_sv _) (hK _ _ ?_)
      clear hK K
      try simp only [Act.put, List.setIfInBounds_toArray, List.set_cons_zero, List.set_cons_succ]
      refine wpList_plain rfl (fun K hK => ?_)
      go_simp
      (go_at_call 16; refine (h6.out _).mono ?_; rintro x wq ⟨rfl, q9⟩; replace q9 := T.Hid.mk q9)
      with_reducible refine hK _ _ ?_
      clear hK K
      try simp only [Act.put, List.setIfInBounds_toArray, List.set_cons_zero, List.set_cons_succ]
      refine wpList_plain rfl (fun K hK => ?_)
      go_simp
      with_reducible refine hK _ _ ?_
      clear hK K
      try simp only [Act.put, List.setIfInBounds_toArray, List.set_cons_zero, List.set_cons_succ]
      replace G := T.Hid.mk (Below.gr G.out (Nat.le_of_lt (B0.out.1)) q9.out)
      replace B0 := T.Hid.mk (B0.out.gr q9.out)
      replace B1 := T.Hid.mk (B1.out.gr q9.out)
      replace B2 := T.Hid.mk (B2.out.gr q9.out)
      replace B3 := T.Hid.mk (B3.out.gr q9.out)
      replace BJ := T.Hid.mk (BJ.out.gr q9.out)
      replace BW := T.Hid.mk (BW.out.gr q9.out)
      replace M := T.Hid.mk (M.out.gr q9.out)
      clear q9 h6
      generalize wq = X5 at *
      go_upto_region 16 with fail
      refine wp_region_lit ?_
      refine wpList_plain rfl (fun K hK => ?_)
      refine wp_load_mid _ _ rfl _ 0 rfl (stV sj) _ BJ.out.range Try.underlying47 rfl (info_sv _) (hK _ _ ?_)
      clear hK K
      try simp only [Act.put, List.setIfInBounds_toArray, List.set_cons_zero, List.set_cons_succ]
      refine wpList_plain rfl (fun K hK => ?_)
      refine wp_load_mid _ _ rfl _ 0 rfl (stV sw) _ BW.out.range Try.underlying47 rfl (info_sv _) (hK _ _ ?_)
      clear hK K
      try simp only [Act.put, List.setIfInBounds_toArray, List.set_cons_zero, List.set_cons_succ]
      refine wpList_plain rfl (fun K hK => ?_)
      go_simp
      (go_at_call 16; refine (h7.out _).mono ?_; rintro x wq ⟨rfl, q9⟩; replace q9 := T.Hid.mk q9)
      with_reducible refine hK _ _ ?_
      clear hK K
      try simp only [Act.put, List.setIfInBounds_toArray, List.set_cons_zero, List.set_cons_succ]
      refine wpList_plain rfl (fun K hK => ?_)
      go_simp
      with_reducible refine hK _ _ ?_
      clear hK K
      try simp only [Act.put, List.setIfInBounds_toArray, List.set_cons_zero, List.set_cons_succ]
      replace G := T.Hid.mk (Below.gr G.out (Nat.le_of_lt (B0.out.1)) q9.out)
      replace B0 := T.Hid.mk (B0.out.gr q9.out)
      replace B1 := T.Hid.mk (B1.out.gr q9.out)
      replace B2 := T.Hid.mk (B2.out.gr q9.out)
      replace B3 := T.Hid.mk (B3.out.gr q9.out)
      replace BJ := T.Hid.mk (BJ.out.gr q9.out)
      replace BW := T.Hid.mk (BW.out.gr q9.out)
      replace M := T.Hid.mk (M.out.gr q9.out)
      clear q9 h7
      generalize wq = X6 at *
      go_upto_region 17 with fail
      have c0 : X6.cell? ⟨g, 0, none⟩ = some (.bool m0) := M.out.2 0 (by simp)
      have c1 : X6.cell? ⟨g, 1, none⟩ = some (.bool m1) := M.out.2 1 (by simp)
      have c2 : X6.cell? ⟨g, 2, none⟩ = some (.bool m2) := M.out.2 2 (by simp)
      have c3 : X6.cell? ⟨g, 3, none⟩ = some (.bool m3) := M.out.2 3 (by simp)
      go_cut [12, 13, 14, 131] (fun _ _ _ s W => s = .bool false ∧ T.Hid (At W w.heap.size (stV sa).toArray) ∧ T.Hid (At W (w.heap.size + 1) (stV sb).toArray) ∧ T.Hid (At W (w.heap.size + 1 + 1) (stV sc).toArray) ∧ T.Hid (At W (w.heap.size + 1 + 1 + 1) (rowV [] Vv.vals V).toArray) ∧ T.Hid (At W kj (stV sj).toArray) ∧ T.Hid (At W kw (stV sw).toArray) ∧ T.Hid (MayIn W g [m0, m1, m2, m3]) ∧ T.Hid (Below w.heap.size w W))
      case first =>
        cases bx
        · cases m0
          · cases m1
            · refine wp_region_lit ?_
              refine wpList_plain rfl (fun K hK => ?_)
              go_simp
              with_reducible refine hK _ _ ?_
              clear hK K
              try simp only [Act.put, List.setIfInBounds_toArray, List.set_cons_zero, List.set_cons_succ]
              refine wpList_plain rfl (fun K hK => ?_)
              go_simp
              with_reducible refine hK _ _ ?_
              clear hK K
              try simp only [Act.put, List.setIfInBounds_toArray, List.set_cons_zero, List.set_cons_succ]
              refine wpList_plain rfl (fun K hK => ?_)
              go_simp
              with_reducible refine hK _ _ ?_
              clear hK K
              try simp only [Act.put, List.setIfInBounds_toArray, List.set_cons_zero, List.set_cons_succ]
              refine BigFrame.wpList_want (by rfl) (fun K hK => ?_)
              go_simp
              with_reducible refine hK _ _ ?_
              clear hK K
              try simp only [Act.put, List.setIfInBounds_toArray, List.set_cons_zero, List.set_cons_succ]
              refine BigFrame.wpList_want (by rfl) (fun K hK => ?_)
              go_simp
              with_reducible refine hK _ _ ?_
              clear hK K
              try simp only [Act.put, List.setIfInBounds_toArray, List.set_cons_zero, List.set_cons_succ]
              refine BigFrame.wpList_want (by rfl) (fun K hK => ?_)
              go_simp
              with_reducible refine hK _ _ ?_
              clear hK K
              try simp only [Act.put, List.setIfInBounds_toArray, List.set_cons_zero, List.set_cons_succ]
              with_reducible refine wpList_skip (by kernel_rfl) ?_
              try simp only [Act.put, List.setIfInBounds_toArray, List.set_cons_zero, List.set_cons_succ]
              refine BigFrame.wpList_want (by rfl) (fun K hK => ?_)
              go_simp
              with_reducible refine hK _ _ ?_
              clear hK K
              try simp only [Act.put, List.setIfInBounds_toArray, List.set_cons_zero, List.set_cons_succ]
              refine BigFrame.wpList_want (by rfl) (fun K hK => ?_)
              go_simp
              with_reducible refine hK _ _ ?_
              clear hK K
              try simp only [Act.put, List.setIfInBounds_toArray, List.set_cons_zero, List.set_cons_succ]
              refine wpList_plain rfl (fun K hK => ?_)
              go_simp
              with_reducible refine hK _ _ ?_
              clear hK K
              try simp only [Act.put, List.setIfInBounds_toArray, List.set_cons_zero, List.set_cons_succ]
              refine wpList_plain rfl (fun K hK => ?_)
              go_simp
              with_reducible refine hK _ _ ?_
              clear hK K
              try simp only [Act.put, List.setIfInBounds_toArray, List.set_cons_zero, List.set_cons_succ]
              refine BigFrame.wpList_want (by rfl) (fun K hK => ?_)
              go_simp
              with_reducible refine hK _ _ ?_
              clear hK K
              try simp only [Act.put, List.setIfInBounds_toArray, List.set_cons_zero, List.set_cons_succ]
              refine BigFrame.wpList_want (by rfl) (fun K hK => ?_)
              go_simp
              with_reducible refine hK _ _ ?_
              clear hK K
              try simp only [Act.put, List.setIfInBounds_toArray, List.set_cons_zero, List.set_cons_succ]
              refine wpList_plain rfl (fun K hK => ?_)
              go_simp
              with_reducible refine hK _ _ ?_
              clear hK K
              try simp only [Act.put, List.setIfInBounds_toArray, List.set_cons_zero, List.set_cons_succ]
              refine wpList_plain rfl (fun K hK => ?_)
              go_simp
              with_reducible refine hK _ _ ?_
              clear hK K
              try simp only [Act.put, List.setIfInBounds_toArray, List.set_cons_zero, List.set_cons_succ]
              refine BigFrame.wpList_want (by rfl) (fun K hK => ?_)
              go_simp
              with_reducible refine hK _ _ ?_
              clear hK K
              try simp only [Act.put, List.setIfInBounds_toArray, List.set_cons_zero, List.set_cons_succ]
              refine BigFrame.wpList_want (by rfl) (fun K hK => ?_)
              go_simp
              with_reducible refine hK _ _ ?_
              clear hK K
              try simp only [Act.put, List.setIfInBounds_toArray, List.set_cons_zero, List.set_cons_succ]
              refine wpList_plain rfl (fun K hK => ?_)
              go_simp
              with_reducible refine hK _ _ ?_
              clear hK K
              try simp only [Act.put, List.setIfInBounds_toArray, List.set_cons_zero, List.set_cons_succ]
              refine wpList_plain rfl (fun K hK => ?_)
              go_simp
              with_reducible refine hK _ _ ?_
              clear hK K
              try simp only [Act.put, List.setIfInBounds_toArray, List.set_cons_zero, List.set_cons_succ]
              refine BigFrame.wpList_want (by rfl) (fun K hK => ?_)
              go_simp
              with_reducible refine hK _ _ ?_
              clear hK K
              try simp only [Act.put, List.setIfInBounds_toArray, List.set_cons_zero, List.set_cons_succ]
              refine BigFrame.wpList_want (by rfl) (fun K hK => ?_)
              go_simp
              with_reducible refine hK _ _ ?_
              clear hK K
              try simp only [Act.put, List.setIfInBounds_toArray, List.set_cons_zero, List.set_cons_succ]
              refine wpList_plain rfl (fun K hK => ?_)
              go_simp
              with_reducible refine hK _ _ ?_
              clear hK K
              try simp only [Act.put, List.setIfInBounds_toArray, List.set_cons_zero, List.set_cons_succ]
              refine wpList_plain rfl (fun K hK => ?_)
              go_simp
              with_reducible refine hK _ _ ?_
              clear hK K
              try simp only [Act.put, List.setIfInBounds_toArray, List.set_cons_zero, List.set_cons_succ]
              refine BigFrame.wpList_want (by rfl) (fun K hK => ?_)
              go_simp
              with_reducible refine hK _ _ ?_
              clear hK K
              try simp only [Act.put, List.setIfInBounds_toArray, List.set_cons_zero, List.set_cons_succ]
              refine BigFrame.wpList_want (by rfl) (fun K hK => ?_)
              go_simp
              with_reducible refine hK _ _ ?_
              clear hK K
              try simp only [Act.put, List.setIfInBounds_toArray, List.set_cons_zero, List.set_cons_succ]
              refine BigFrame.wpList_want (by rfl) (fun K hK => ?_)
              go_simp
              with_reducible refine hK _ _ ?_
              clear hK K
              try simp only [Act.put, List.setIfInBounds_toArray, List.set_cons_zero, List.set_cons_succ]
              refine BigFrame.wpList_want (by rfl) (fun K hK => ?_)
              go_simp
              with_reducible refine hK _ _ ?_
              clear hK K
              try simp only [Act.put, List.setIfInBounds_toArray, List.set_cons_zero, List.set_cons_succ]
              refine BigFrame.wpList_want (by rfl) (fun K hK => ?_)
              go_simp
              with_reducible refine hK _ _ ?_
              clear hK K
              try simp only [Act.put, List.setIfInBounds_toArray, List.set_cons_zero, List.set_cons_succ]
              refine BigFrame.wpList_want (by rfl) (fun K hK => ?_)
              go_simp
              with_reducible refine hK _ _ ?_
              clear hK K
              try simp only [Act.put, List.setIfInBounds_toArray, List.set_cons_zero, List.set_cons_succ]
              refine BigFrame.wpList_want (by rfl) (fun K hK => ?_)
              go_simp
              with_reducible refine hK _ _ ?_
              clear hK K
              try simp only [Act.put, List.setIfInBounds_toArray, List.set_cons_zero, List.set_cons_succ]
              refine BigFrame.wpList_want (by rfl) (fun K hK => ?_)
              go_simp
              with_reducible refine hK _ _ ?_
              clear hK K
              try simp only [Act.put, List.setIfInBounds_toArray, List.set_cons_zero, List.set_cons_succ]
              refine BigFrame.wpList_want (by rfl) (fun K hK => ?_)
              go_simp
              with_reducible refine hK _ _ ?_
              clear hK K
              try simp only [Act.put, List.setIfInBounds_toArray, List.set_cons_zero, List.set_cons_succ]
              with_reducible refine wpList_skip (by kernel_rfl) ?_
              try simp only [Act.put, List.setIfInBounds_toArray, List.set_cons_zero, List.set_cons_succ]
              with_reducible refine wpList_skip (by kernel_rfl) ?_
              try simp only [Act.put, List.setIfInBounds_toArray, List.set_cons_zero, List.set_cons_succ]
              with_reducible refine wpList_skip (by kernel_rfl) ?_
              try simp only [Act.put, List.setIfInBounds_toArray, List.set_cons_zero, List.set_cons_succ]
              with_reducible refine wpList_skip (by kernel_rfl) ?_
              try simp only [Act.put, List.setIfInBounds_toArray, List.set_cons_zero, List.set_cons_succ]
              with_reducible refine wpList_skip (by kernel_rfl) ?_
              try simp only [Act.put, List.setIfInBounds_toArray, List.set_cons_zero, List.set_cons_succ]
              with_reducible refine wpList_skip (by kernel_rfl) ?_
              try simp only [Act.put, List.setIfInBounds_toArray, List.set_cons_zero, List.set_cons_succ]
              with_reducible refine wpList_skip (by kernel_rfl) ?_
              try simp only [Act.put, List.setIfInBounds_toArray, List.set_cons_zero, List.set_cons_succ]
              with_reducible refine wpList_skip (by kernel_rfl) ?_
              try simp only [Act.put, List.setIfInBounds_toArray, List.set_cons_zero, List.set_cons_succ]
              with_reducible refine wpList_skip (by kernel_rfl) ?_
              try simp only [Act.put, List.setIfInBounds_toArray, List.set_cons_zero, List.set_cons_succ]
              with_reducible refine wpList_skip (by kernel_rfl) ?_
              try simp only [Act.put, List.setIfInBounds_toArray, List.set_cons_zero, List.set_cons_succ]
              refine BigFrame.wpList_want (by rfl) (fun K hK => ?_)
              go_simp
              with_reducible refine hK _ _ ?_
              clear hK K
              try simp only [Act.put, List.setIfInBounds_toArray, List.set_cons_zero, List.set_cons_succ]
              refine wpList_plain rfl (fun K hK => ?_)
              go_simp
              with_reducible refine hK _ _ ?_
              clear hK K
              try simp only [Act.put, List.setIfInBounds_toArray, List.set_cons_zero, List.set_cons_succ]
              refine wpList_plain rfl (fun K hK => ?_)
              go_simp
              with_reducible refine hK _ _ ?_
              clear hK K
              try simp only [Act.put, List.setIfInBounds_toArray, List.set_cons_zero, List.set_cons_succ]
              refine BigFrame.wpList_want (by rfl) (fun K hK => ?_)
              go_simp
              with_reducible refine hK _ _ ?_
              clear hK K
              try simp only [Act.put, List.setIfInBounds_toArray, List.set_cons_zero, List.set_cons_succ]
              refine BigFrame.wpList_want (by rfl) (fun K hK => ?_)
              go_simp
              with_reducible refine hK _ _ ?_
              clear hK K
              try simp only [Act.put, List.setIfInBounds_toArray, List.set_cons_zero, List.set_cons_succ]
              with_reducible refine wpList_skip (by kernel_rfl) ?_
              try simp only [Act.put, List.setIfInBounds_toArray, List.set_cons_zero, List.set_cons_succ]
              with_reducible refine wpList_skip (by kernel_rfl) ?_
              try simp only [Act.put, List.setIfInBounds_toArray, List.set_cons_zero, List.set_cons_succ]
              with_reducible refine wpList_skip (by kernel_rfl) ?_
              try simp only [Act.put, List.setIfInBounds_toArray, List.set_cons_zero, List.set_cons_succ]
              refine BigFrame.wpList_want (by rfl) (fun K hK => ?_)
              go_simp
              with_reducible refine hK _ _ ?_
              clear hK K
              try simp only [Act.put, List.setIfInBounds_toArray, List.set_cons_zero, List.set_cons_succ]
              refine BigFrame.wpList_want (by rfl) (fun K hK => ?_)
              go_simp
              with_reducible refine hK _ _ ?_
              clear hK K
              try simp only [Act.put, List.setIfInBounds_toArray, List.set_cons_zero, List.set_cons_succ]
              with_reducible refine wpList_skip (by kernel_rfl) ?_
              try simp only [Act.put, List.setIfInBounds_toArray, List.set_cons_zero, List.set_cons_succ]
              with_reducible refine wpList_skip (by kernel_rfl) ?_
              try simp only [Act.put, List.setIfInBounds_toArray, List.set_cons_zero, List.set_cons_succ]
              with_reducible refine wpList_skip (by kernel_rfl) ?_
              try simp only [Act.put, List.setIfInBounds_toArray, List.set_cons_zero, List.set_cons_succ]
              with_reducible refine wpList_skip (by kernel_rfl) ?_
              try simp only [Act.put, List.setIfInBounds_toArray, List.set_cons_zero, List.set_cons_succ]
              refine BigFrame.wpList_want (by rfl) (fun K hK => ?_)
              go_simp
              with_reducible refine hK _ _ ?_
              clear hK K
              try simp only [Act.put, List.setIfInBounds_toArray, List.set_cons_zero, List.set_cons_succ]
              refine wpList_plain rfl (fun K hK => ?_)
              go_simp
              with_reducible refine hK _ _ ?_
              clear hK K
              try simp only [Act.put, List.setIfInBounds_toArray, List.set_cons_zero, List.set_cons_succ]
              clear c0 c1 c2 c3
              go_wp2_with fail
              go_meet
              case rel => exact ⟨rfl, B0, B1, B2, B3, BJ, BW, M, G⟩
            · obtain ⟨rfl, rfl⟩ := f2.out rfl
              refine wp_region_lit ?_
              refine wpList_plain rfl (fun K hK => ?_)
              go_simp
              with_reducible refine hK _ _ ?_
              clear hK K
              try simp only [Act.put, List.setIfInBounds_toArray, List.set_cons_zero, List.set_cons_succ]
              refine wpList_plain rfl (fun K hK => ?_)
              go_simp
              with_reducible refine hK _ _ ?_
              clear hK K
              try simp only [Act.put, List.setIfInBounds_toArray, List.set_cons_zero, List.set_cons_succ]
              refine wpList_plain rfl (fun K hK => ?_)
              go_simp
              with_reducible refine hK _ _ ?_
              clear hK K
              try simp only [Act.put, List.setIfInBounds_toArray, List.set_cons_zero, List.set_cons_succ]
              refine BigFrame.wpList_want (by rfl) (fun K hK => ?_)
              go_simp
              with_reducible refine hK _ _ ?_
              clear hK K
              try simp only [Act.put, List.setIfInBounds_toArray, List.set_cons_zero, List.set_cons_succ]
              refine BigFrame.wpList_want (by rfl) (fun K hK => ?_)
              go_simp
              with_reducible refine hK _ _ ?_
              clear hK K
              try simp only [Act.put, List.setIfInBounds_toArray, List.set_cons_zero, List.set_cons_succ]
              refine BigFrame.wpList_want (by rfl) (fun K hK => ?_)
              go_simp
              with_reducible refine hK _ _ ?_
              clear hK K
              try simp only [Act.put, List.setIfInBounds_toArray, List.set_cons_zero, List.set_cons_succ]
              with_reducible refine wpList_skip (by kernel_rfl) ?_
              try simp only [Act.put, List.setIfInBounds_toArray, List.set_cons_zero, List.set_cons_succ]
              refine BigFrame.wpList_want (by rfl) (fun K hK => ?_)
              go_simp
              with_reducible refine hK _ _ ?_
              clear hK K
              try simp only [Act.put, List.setIfInBounds_toArray, List.set_cons_zero, List.set_cons_succ]
              refine BigFrame.wpList_want (by rfl) (fun K hK => ?_)
              go_simp
              with_reducible refine hK _ _ ?_
              clear hK K
              try simp only [Act.put, List.setIfInBounds_toArray, List.set_cons_zero, List.set_cons_succ]
              refine wpList_plain rfl (fun K hK => ?_)
              go_simp
              with_reducible refine hK _ _ ?_
              clear hK K
              try simp only [Act.put, List.setIfInBounds_toArray, List.set_cons_zero, List.set_cons_succ]
              refine wpList_plain rfl (fun K hK => ?_)
              go_simp
              with_reducible refine hK _ _ ?_
              clear hK K
              try simp only [Act.put, List.setIfInBounds_toArray, List.set_cons_zero, List.set_cons_succ]
              refine BigFrame.wpList_want (by rfl) (fun K hK => ?_)
              go_simp
              with_reducible refine hK _ _ ?_
              clear hK K
              try simp only [Act.put, List.setIfInBounds_toArray, List.set_cons_zero, List.set_cons_succ]
              refine BigFrame.wpList_want (by rfl) (fun K hK => ?_)
              go_simp
              with_reducible refine hK _ _ ?_
              clear hK K
              try simp only [Act.put, List.setIfInBounds_toArray, List.set_cons_zero, List.set_cons_succ]
              refine wpList_plain rfl (fun K hK => ?_)
              go_simp
              with_reducible refine hK _ _ ?_
              clear hK K
              try simp only [Act.put, List.setIfInBounds_toArray, List.set_cons_zero, List.set_cons_succ]
              refine wpList_plain rfl (fun K hK => ?_)
              go_simp
              with_reducible refine hK _ _ ?_
              clear hK K
              try simp only [Act.put, List.setIfInBounds_toArray, List.set_cons_zero, List.set_cons_succ]
              refine BigFrame.wpList_want (by rfl) (fun K hK => ?_)
              go_simp
              with_reducible refine hK _ _ ?_
              clear hK K
              try simp only [Act.put, List.setIfInBounds_toArray, List.set_cons_zero, List.set_cons_succ]
              refine BigFrame.wpList_want (by rfl) (fun K hK => ?_)
              go_simp
              with_reducible refine hK _ _ ?_
              clear hK K
              try simp only [Act.put, List.setIfInBounds_toArray, List.set_cons_zero, List.set_cons_succ]
              refine wpList_plain rfl (fun K hK => ?_)
              go_simp
              with_reducible refine hK _ _ ?_
              clear hK K
              try simp only [Act.put, List.setIfInBounds_toArray, List.set_cons_zero, List.set_cons_succ]
              refine wpList_plain rfl (fun K hK => ?_)
              go_simp
              with_reducible refine hK _ _ ?_
              clear hK K
              try simp only [Act.put, List.setIfInBounds_toArray, List.set_cons_zero, List.set_cons_succ]
              refine BigFrame.wpList_want (by rfl) (fun K hK => ?_)
              go_simp
              with_reducible refine hK _ _ ?_
              clear hK K
              try simp only [Act.put, List.setIfInBounds_toArray, List.set_cons_zero, List.set_cons_succ]
              refine BigFrame.wpList_want (by rfl) (fun K hK => ?_)
              go_simp
              with_reducible refine hK _ _ ?_
              clear hK K
              try simp only [Act.put, List.setIfInBounds_toArray, List.set_cons_zero, List.set_cons_succ]
              refine wpList_plain rfl (fun K hK => ?_)
              go_simp
              with_reducible refine hK _ _ ?_
              clear hK K
              try simp only [Act.put, List.setIfInBounds_toArray, List.set_cons_zero, List.set_cons_succ]
              refine wpList_plain rfl (fun K hK => ?_)
              go_simp
              with_reducible refine hK _ _ ?_
              clear hK K
              try simp only [Act.put, List.setIfInBounds_toArray, List.set_cons_zero, List.set_cons_succ]
              refine BigFrame.wpList_want (by rfl) (fun K hK => ?_)
              go_simp
              with_reducible refine hK _ _ ?_
              clear hK K
              try simp only [Act.put, List.setIfInBounds_toArray, List.set_cons_zero, List.set_cons_succ]
              refine BigFrame.wpList_want (by rfl) (fun K hK => ?_)
              go_simp
              with_reducible refine hK _ _ ?_
              clear hK K
              try simp only [Act.put, List.setIfInBounds_toArray, List.set_cons_zero, List.set_cons_succ]
              refine BigFrame.wpList_want (by rfl) (fun K hK => ?_)
              go_simp
              with_reducible refine hK _ _ ?_
              clear hK K
              try simp only [Act.put, List.setIfInBounds_toArray, List.set_cons_zero, List.set_cons_succ]
              refine BigFrame.wpList_want (by rfl) (fun K hK => ?_)
              go_simp
              with_reducible refine hK _ _ ?_
              clear hK K
              try simp only [Act.put, List.setIfInBounds_toArray, List.set_cons_zero, List.set_cons_succ]
              refine BigFrame.wpList_want (by rfl) (fun K hK => ?_)
              go_simp
              with_reducible refine hK _ _ ?_
              clear hK K
              try simp only [Act.put, List.setIfInBounds_toArray, List.set_cons_zero, List.set_cons_succ]
              refine BigFrame.wpList_want (by rfl) (fun K hK => ?_)
              go_simp
              with_reducible refine hK _ _ ?_
              clear hK K
              try simp only [Act.put, List.setIfInBounds_toArray, List.set_cons_zero, List.set_cons_succ]
              refine BigFrame.wpList_want (by rfl) (fun K hK => ?_)
              go_simp
              with_reducible refine hK _ _ ?_
              clear hK K
              try simp only [Act.put, List.setIfInBounds_toArray, List.set_cons_zero, List.set_cons_succ]
              refine BigFrame.wpList_want (by rfl) (fun K hK => ?_)
              go_simp
              with_reducible refine hK _ _ ?_
              clear hK K
              try simp only [Act.put, List.setIfInBounds_toArray, List.set_cons_zero, List.set_cons_succ]
              refine BigFrame.wpList_want (by rfl) (fun K hK => ?_)
              go_simp
              with_reducible refine hK _ _ ?_
              clear hK K
              try simp only [Act.put, List.setIfInBounds_toArray, List.set_cons_zero, List.set_cons_succ]
              refine BigFrame.wpList_want (by rfl) (fun K hK => ?_)
              go_simp
              with_reducible refine hK _ _ ?_
              clear hK K
              try simp only [Act.put, List.setIfInBounds_toArray, List.set_cons_zero, List.set_cons_succ]
              refine BigFrame.wpList_want (by rfl) (fun K hK => ?_)
              go_simp
              with_reducible refine hK _ _ ?_
              clear hK K
              try simp only [Act.put, List.setIfInBounds_toArray, List.set_cons_zero, List.set_cons_succ]
              refine BigFrame.wpList_want (by rfl) (fun K hK => ?_)
              go_simp
              with_reducible refine hK _ _ ?_
              clear hK K
              try simp only [Act.put, List.setIfInBounds_toArray, List.set_cons_zero, List.set_cons_succ]
              refine BigFrame.wpList_want (by rfl) (fun K hK => ?_)
              go_simp
              with_reducible refine hK _ _ ?_
              clear hK K
              try simp only [Act.put, List.setIfInBounds_toArray, List.set_cons_zero, List.set_cons_succ]
              refine BigFrame.wpList_want (by rfl) (fun K hK => ?_)
              go_simp
              with_reducible refine hK _ _ ?_
              clear hK K
              try simp only [Act.put, List.setIfInBounds_toArray, List.set_cons_zero, List.set_cons_succ]
              refine BigFrame.wpList_want (by rfl) (fun K hK => ?_)
              go_simp
              with_reducible refine hK _ _ ?_
              clear hK K
              try simp only [Act.put, List.setIfInBounds_toArray, List.set_cons_zero, List.set_cons_succ]
              refine BigFrame.wpList_want (by rfl) (fun K hK => ?_)
              go_simp
              with_reducible refine hK _ _ ?_
              clear hK K
              try simp only [Act.put, List.setIfInBounds_toArray, List.set_cons_zero, List.set_cons_succ]
              refine BigFrame.wpList_want (by rfl) (fun K hK => ?_)
              go_simp
              with_reducible refine hK _ _ ?_
              clear hK K
              try simp only [Act.put, List.setIfInBounds_toArray, List.set_cons_zero, List.set_cons_succ]
              refine BigFrame.wpList_want (by rfl) (fun K hK => ?_)
              go_simp
              with_reducible refine hK _ _ ?_
              clear hK K
              try simp only [Act.put, List.setIfInBounds_toArray, List.set_cons_zero, List.set_cons_succ]
              refine BigFrame.wpList_want (by rfl) (fun K hK => ?_)
              go_simp
              with_reducible refine hK _ _ ?_
              clear hK K
              try simp only [Act.put, List.setIfInBounds_toArray, List.set_cons_zero, List.set_cons_succ]
              refine BigFrame.wpList_want (by rfl) (fun K hK => ?_)
              go_simp
              with_reducible refine hK _ _ ?_
              clear hK K
              try simp only [Act.put, List.setIfInBounds_toArray, List.set_cons_zero, List.set_cons_succ]
              refine wpList_plain rfl (fun K hK => ?_)
              go_simp
              with_reducible refine hK _ _ ?_
              clear hK K
              try simp only [Act.put, List.setIfInBounds_toArray, List.set_cons_zero, List.set_cons_succ]
              refine wpList_plain rfl (fun K hK => ?_)
              go_simp
              with_reducible refine hK _ _ ?_
              clear hK K
              try simp only [Act.put, List.setIfInBounds_toArray, List.set_cons_zero, List.set_cons_succ]
              refine BigFrame.wpList_want (by rfl) (fun K hK => ?_)
              go_simp
              with_reducible refine hK _ _ ?_
              clear hK K
              try simp only [Act.put, List.setIfInBounds_toArray, List.set_cons_zero, List.set_cons_succ]
              refine BigFrame.wpList_want (by rfl) (fun K hK => ?_)
              go_simp
              with_reducible refine hK _ _ ?_
              clear hK K
              try simp only [Act.put, List.setIfInBounds_toArray, List.set_cons_zero, List.set_cons_succ]
              with_reducible refine wpList_skip (by kernel_rfl) ?_
              try simp only [Act.put, List.setIfInBounds_toArray, List.set_cons_zero, List.set_cons_succ]
              with_reducible refine wpList_skip (by kernel_rfl) ?_
              try simp only [Act.put, List.setIfInBounds_toArray, List.set_cons_zero, List.set_cons_succ]
              with_reducible refine wpList_skip (by kernel_rfl) ?_
              try simp only [Act.put, List.setIfInBounds_toArray, List.set_cons_zero, List.set_cons_succ]
              refine BigFrame.wpList_want (by rfl) (fun K hK => ?_)
              go_simp
              with_reducible refine hK _ _ ?_
              clear hK K
              try simp only [Act.put, List.setIfInBounds_toArray, List.set_cons_zero, List.set_cons_succ]
              refine BigFrame.wpList_want (by rfl) (fun K hK => ?_)
              go_simp
              with_reducible refine hK _ _ ?_
              clear hK K
              try simp only [Act.put, List.setIfInBounds_toArray, List.set_cons_zero, List.set_cons_succ]
              with_reducible refine wpList_skip (by kernel_rfl) ?_
              try simp only [Act.put, List.setIfInBounds_toArray, List.set_cons_zero, List.set_cons_succ]
              with_reducible refine wpList_skip (by kernel_rfl) ?_
              try simp only [Act.put, List.setIfInBounds_toArray, List.set_cons_zero, List.set_cons_succ]
              with_reducible refine wpList_skip (by kernel_rfl) ?_
              try simp only [Act.put, List.setIfInBounds_toArray, List.set_cons_zero, List.set_cons_succ]
              with_reducible refine wpList_skip (by kernel_rfl) ?_
              try simp only [Act.put, List.setIfInBounds_toArray, List.set_cons_zero, List.set_cons_succ]
              refine BigFrame.wpList_want (by rfl) (fun K hK => ?_)
              go_simp
              with_reducible refine hK _ _ ?_
              clear hK K
              try simp only [Act.put, List.setIfInBounds_toArray, List.set_cons_zero, List.set_cons_succ]
              refine wpList_plain rfl (fun K hK => ?_)
              go_simp
              with_reducible refine hK _ _ ?_
              clear hK K
              try simp only [Act.put, List.setIfInBounds_toArray, List.set_cons_zero, List.set_cons_succ]
              clear c0 c1 c2 c3
              go_wp2_with fail
              go_meet
              case rel => exact ⟨rfl, B0, B1, B2, B3, BJ, BW, M, G⟩
          · obtain ⟨rfl, rfl⟩ := f1.out rfl
            refine wp_region_lit ?_
            refine wpList_plain rfl (fun K hK => ?_)
            go_simp
            with_reducible refine hK _ _ ?_
            clear hK K
            try simp only [Act.put, List.setIfInBounds_toArray, List.set_cons_zero, List.set_cons_succ]
            refine wpList_plain rfl (fun K hK => ?_)
            go_simp
            with_reducible refine hK _ _ ?_
            clear hK K
            try simp only [Act.put, List.setIfInBounds_toArray, List.set_cons_zero, List.set_cons_succ]
            refine wpList_plain rfl (fun K hK => ?_)
            go_simp
            with_reducible refine hK _ _ ?_
            clear hK K
            try simp only [Act.put, List.setIfInBounds_toArray, List.set_cons_zero, List.set_cons_succ]
            refine BigFrame.wpList_want (by rfl) (fun K hK => ?_)
            go_simp
            with_reducible refine hK _ _ ?_
            clear hK K
            try simp only [Act.put, List.setIfInBounds_toArray, List.set_cons_zero, List.set_cons_succ]
            refine BigFrame.wpList_want (by rfl) (fun K hK => ?_)
            go_simp
            with_reducible refine hK _ _ ?_
            clear hK K
            try simp only [Act.put, List.setIfInBounds_toArray, List.set_cons_zero, List.set_cons_succ]
            refine BigFrame.wpList_want (by rfl) (fun K hK => ?_)
            go_simp
            with_reducible refine hK _ _ ?_
            clear hK K
            try simp only [Act.put, List.setIfInBounds_toArray, List.set_cons_zero, List.set_cons_succ]
            with_reducible refine wpList_skip (by kernel_rfl) ?_
            try simp only [Act.put, List.setIfInBounds_toArray, List.set_cons_zero, List.set_cons_succ]
            refine BigFrame.wpList_want (by rfl) (fun K hK => ?_)
            go_simp
            with_reducible refine hK _ _ ?_
            clear hK K
            try simp only [Act.put, List.setIfInBounds_toArray, List.set_cons_zero, List.set_cons_succ]
            refine BigFrame.wpList_want (by rfl) (fun K hK => ?_)
            go_simp
            with_reducible refine hK _ _ ?_
            clear hK K
            try simp only [Act.put, List.setIfInBounds_toArray, List.set_cons_zero, List.set_cons_succ]
            refine wpList_plain rfl (fun K hK => ?_)
            go_simp
            with_reducible refine hK _ _ ?_
            clear hK K
            try simp only [Act.put, List.setIfInBounds_toArray, List.set_cons_zero, List.set_cons_succ]
            refine wpList_plain rfl (fun K hK => ?_)
            go_simp
            with_reducible refine hK _ _ ?_
            clear hK K
            try simp only [Act.put, List.setIfInBounds_toArray, List.set_cons_zero, List.set_cons_succ]
            refine BigFrame.wpList_want (by rfl) (fun K hK => ?_)
            go_simp
            with_reducible refine hK _ _ ?_
            clear hK K
            try simp only [Act.put, List.setIfInBounds_toArray, List.set_cons_zero, List.set_cons_succ]
            refine BigFrame.wpList_want (by rfl) (fun K hK => ?_)
            go_simp
            with_reducible refine hK _ _ ?_
            clear hK K
            try simp only [Act.put, List.setIfInBounds_toArray, List.set_cons_zero, List.set_cons_succ]
            refine wpList_plain rfl (fun K hK => ?_)
            go_simp
            with_reducible refine hK _ _ ?_
            clear hK K
            try simp only [Act.put, List.setIfInBounds_toArray, List.set_cons_zero, List.set_cons_succ]
            refine wpList_plain rfl (fun K hK => ?_)
            go_simp
            with_reducible refine hK _ _ ?_
            clear hK K
            try simp only [Act.put, List.setIfInBounds_toArray, List.set_cons_zero, List.set_cons_succ]
            refine BigFrame.wpList_want (by rfl) (fun K hK => ?_)
            go_simp
            with_reducible refine hK _ _ ?_
            clear hK K
            try simp only [Act.put, List.setIfInBounds_toArray, List.set_cons_zero, List.set_cons_succ]
            refine BigFrame.wpList_want (by rfl) (fun K hK => ?_)
            go_simp
            with_reducible refine hK _ _ ?_
            clear hK K
            try simp only [Act.put, List.setIfInBounds_toArray, List.set_cons_zero, List.set_cons_succ]
            refine wpList_plain rfl (fun K hK => ?_)
            go_simp
            with_reducible refine hK _ _ ?_
            clear hK K
            try simp only [Act.put, List.setIfInBounds_toArray, List.set_cons_zero, List.set_cons_succ]
            refine wpList_plain rfl (fun K hK => ?_)
            go_simp
            with_reducible refine hK _ _ ?_
            clear hK K
            try simp only [Act.put, List.setIfInBounds_toArray, List.set_cons_zero, List.set_cons_succ]
            refine BigFrame.wpList_want (by rfl) (fun K hK => ?_)
            go_simp
            with_reducible refine hK _ _ ?_
            clear hK K
            try simp only [Act.put, List.setIfInBounds_toArray, List.set_cons_zero, List.set_cons_succ]
            refine BigFrame.wpList_want (by rfl) (fun K hK => ?_)
            go_simp
            with_reducible refine hK _ _ ?_
            clear hK K
            try simp only [Act.put, List.setIfInBounds_toArray, List.set_cons_zero, List.set_cons_succ]
            refine wpList_plain rfl (fun K hK => ?_)
            go_simp
            with_reducible refine hK _ _ ?_
            clear hK K
            try simp only [Act.put, List.setIfInBounds_toArray, List.set_cons_zero, List.set_cons_succ]
            refine wpList_plain rfl (fun K hK => ?_)
            go_simp
            with_reducible refine hK _ _ ?_
            clear hK K
            try simp only [Act.put, List.setIfInBounds_toArray, List.set_cons_zero, List.set_cons_succ]
            refine BigFrame.wpList_want (by rfl) (fun K hK => ?_)
            go_simp
            with_reducible refine hK _ _ ?_
            clear hK K
            try simp only [Act.put, List.setIfInBounds_toArray, List.set_cons_zero, List.set_cons_succ]
            refine BigFrame.wpList_want (by rfl) (fun K hK => ?_)
            go_simp
            with_reducible refine hK _ _ ?_
            clear hK K
            try simp only [Act.put, List.setIfInBounds_toArray, List.set_cons_zero, List.set_cons_succ]
            refine BigFrame.wpList_want (by rfl) (fun K hK => ?_)
            go_simp
            with_reducible refine hK _ _ ?_
            clear hK K
            try simp only [Act.put, List.setIfInBounds_toArray, List.set_cons_zero, List.set_cons_succ]
            refine BigFrame.wpList_want (by rfl) (fun K hK => ?_)
            go_simp
            with_reducible refine hK _ _ ?_
            clear hK K
            try simp only [Act.put, List.setIfInBounds_toArray, List.set_cons_zero, List.set_cons_succ]
            with_reducible refine wpList_skip (by kernel_rfl) ?_
            try simp only [Act.put, List.setIfInBounds_toArray, List.set_cons_zero, List.set_cons_succ]
            with_reducible refine wpList_skip (by kernel_rfl) ?_
            try simp only [Act.put, List.setIfInBounds_toArray, List.set_cons_zero, List.set_cons_succ]
            with_reducible refine wpList_skip (by kernel_rfl) ?_
            try simp only [Act.put, List.setIfInBounds_toArray, List.set_cons_zero, List.set_cons_succ]
            refine BigFrame.wpList_want (by rfl) (fun K hK => ?_)
            go_simp
            with_reducible refine hK _ _ ?_
            clear hK K
            try simp only [Act.put, List.setIfInBounds_toArray, List.set_cons_zero, List.set_cons_succ]
            refine BigFrame.wpList_want (by rfl) (fun K hK => ?_)
            go_simp
            with_reducible refine hK _ _ ?_
            clear hK K
            try simp only [Act.put, List.setIfInBounds_toArray, List.set_cons_zero, List.set_cons_succ]
            refine BigFrame.wpList_want (by rfl) (fun K hK => ?_)
            go_simp
            with_reducible refine hK _ _ ?_
            clear hK K
            try simp only [Act.put, List.setIfInBounds_toArray, List.set_cons_zero, List.set_cons_succ]
            refine BigFrame.wpList_want (by rfl) (fun K hK => ?_)
            go_simp
            with_reducible refine hK _ _ ?_
            clear hK K
            try simp only [Act.put, List.setIfInBounds_toArray, List.set_cons_zero, List.set_cons_succ]
            refine BigFrame.wpList_want (by rfl) (fun K hK => ?_)
            go_simp
            with_reducible refine hK _ _ ?_
            clear hK K
            try simp only [Act.put, List.setIfInBounds_toArray, List.set_cons_zero, List.set_cons_succ]
            refine BigFrame.wpList_want (by rfl) (fun K hK => ?_)
            go_simp
            with_reducible refine hK _ _ ?_
            clear hK K
            try simp only [Act.put, List.setIfInBounds_toArray, List.set_cons_zero, List.set_cons_succ]
            refine BigFrame.wpList_want (by rfl) (fun K hK => ?_)
            go_simp
            with_reducible refine hK _ _ ?_
            clear hK K
            try simp only [Act.put, List.setIfInBounds_toArray, List.set_cons_zero, List.set_cons_succ]
            refine BigFrame.wpList_want (by rfl) (fun K hK => ?_)
            go_simp
            with_reducible refine hK _ _ ?_
            clear hK K
            try simp only [Act.put, List.setIfInBounds_toArray, List.set_cons_zero, List.set_cons_succ]
            refine BigFrame.wpList_want (by rfl) (fun K hK => ?_)
            go_simp
            with_reducible refine hK _ _ ?_
            clear hK K
            try simp only [Act.put, List.setIfInBounds_toArray, List.set_cons_zero, List.set_cons_succ]
            refine BigFrame.wpList_want (by rfl) (fun K hK => ?_)
            go_simp
            with_reducible refine hK _ _ ?_
            clear hK K
            try simp only [Act.put, List.setIfInBounds_toArray, List.set_cons_zero, List.set_cons_succ]
            refine BigFrame.wpList_want (by rfl) (fun K hK => ?_)
            go_simp
            with_reducible refine hK _ _ ?_
            clear hK K
            try simp only [Act.put, List.setIfInBounds_toArray, List.set_cons_zero, List.set_cons_succ]
            refine BigFrame.wpList_want (by rfl) (fun K hK => ?_)
            go_simp
            with_reducible refine hK _ _ ?_
            clear hK K
            try simp only [Act.put, List.setIfInBounds_toArray, List.set_cons_zero, List.set_cons_succ]
            refine BigFrame.wpList_want (by rfl) (fun K hK => ?_)
            go_simp
            with_reducible refine hK _ _ ?_
            clear hK K
            try simp only [Act.put, List.setIfInBounds_toArray, List.set_cons_zero, List.set_cons_succ]
            refine wpList_plain rfl (fun K hK => ?_)
            go_simp
            with_reducible refine hK _ _ ?_
            clear hK K
            try simp only [Act.put, List.setIfInBounds_toArray, List.set_cons_zero, List.set_cons_succ]
            refine wpList_plain rfl (fun K hK => ?_)
            go_simp
            with_reducible refine hK _ _ ?_
            clear hK K
            try simp only [Act.put, List.setIfInBounds_toArray, List.set_cons_zero, List.set_cons_succ]
            refine BigFrame.wpList_want (by rfl) (fun K hK => ?_)
            go_simp
            with_reducible refine hK _ _ ?_
            clear hK K
            try simp only [Act.put, List.setIfInBounds_toArray, List.set_cons_zero, List.set_cons_succ]
            refine BigFrame.wpList_want (by rfl) (fun K hK => ?_)
            go_simp
            with_reducible refine hK _ _ ?_
            clear hK K
            try simp only [Act.put, List.setIfInBounds_toArray, List.set_cons_zero, List.set_cons_succ]
            with_reducible refine wpList_skip (by kernel_rfl) ?_
            try simp only [Act.put, List.setIfInBounds_toArray, List.set_cons_zero, List.set_cons_succ]
            with_reducible refine wpList_skip (by kernel_rfl) ?_
            try simp only [Act.put, List.setIfInBounds_toArray, List.set_cons_zero, List.set_cons_succ]
            with_reducible refine wpList_skip (by kernel_rfl) ?_
            try simp only [Act.put, List.setIfInBounds_toArray, List.set_cons_zero, List.set_cons_succ]
            refine BigFrame.wpList_want (by rfl) (fun K hK => ?_)
            go_simp
            with_reducible refine hK _ _ ?_
            clear hK K
            try simp only [Act.put, List.setIfInBounds_toArray, List.set_cons_zero, List.set_cons_succ]
            refine BigFrame.wpList_want (by rfl) (fun K hK => ?_)
            go_simp
            with_reducible refine hK _ _ ?_
            clear hK K
            try simp only [Act.put, List.setIfInBounds_toArray, List.set_cons_zero, List.set_cons_succ]
            with_reducible refine wpList_skip (by kernel_rfl) ?_
            try simp only [Act.put, List.setIfInBounds_toArray, List.set_cons_zero, List.set_cons_succ]
            with_reducible refine wpList_skip (by kernel_rfl) ?_
            try simp only [Act.put, List.setIfInBounds_toArray, List.set_cons_zero, List.set_cons_succ]
            with_reducible refine wpList_skip (by kernel_rfl) ?_
            try simp only [Act.put, List.setIfInBounds_toArray, List.set_cons_zero, List.set_cons_succ]
            with_reducible refine wpList_skip (by kernel_rfl) ?_
            try simp only [Act.put, List.setIfInBounds_toArray, List.set_cons_zero, List.set_cons_succ]
            refine BigFrame.wpList_want (by rfl) (fun K hK => ?_)
            go_simp
            with_reducible refine hK _ _ ?_
            clear hK K
            try simp only [Act.put, List.setIfInBounds_toArray, List.set_cons_zero, List.set_cons_succ]
            refine wpList_plain rfl (fun K hK => ?_)
            go_simp
            with_reducible refine hK _ _ ?_
            clear hK K
            try simp only [Act.put, List.setIfInBounds_toArray, List.set_cons_zero, List.set_cons_succ]
            clear c0 c1 c2 c3
            go_wp2_with fail
            go_meet
            case rel => exact ⟨rfl, B0, B1, B2, B3, BJ, BW, M, G⟩
        · cases bz
          · cases m0
            · cases m1
              · refine wp_region_lit ?_
                refine wpList_plain rfl (fun K hK => ?_)
                go_simp
                with_reducible refine hK _ _ ?_
                clear hK K
                try simp only [Act.put, List.setIfInBounds_toArray, List.set_cons_zero, List.set_cons_succ]
                refine wpList_plain rfl (fun K hK => ?_)
                go_simp
                with_reducible refine hK _ _ ?_
                clear hK K
                try simp only [Act.put, List.setIfInBounds_toArray, List.set_cons_zero, List.set_cons_succ]
                refine wpList_plain rfl (fun K hK => ?_)
                go_simp
                with_reducible refine hK _ _ ?_
                clear hK K
                try simp only [Act.put, List.setIfInBounds_toArray, List.set_cons_zero, List.set_cons_succ]
                refine BigFrame.wpList_want (by rfl) (fun K hK => ?_)
                go_simp
                with_reducible refine hK _ _ ?_
                clear hK K
                try simp only [Act.put, List.setIfInBounds_toArray, List.set_cons_zero, List.set_cons_succ]
                refine BigFrame.wpList_want (by rfl) (fun K hK => ?_)
                go_simp
                with_reducible refine hK _ _ ?_
                clear hK K
                try simp only [Act.put, List.setIfInBounds_toArray, List.set_cons_zero, List.set_cons_succ]
                refine BigFrame.wpList_want (by rfl) (fun K hK => ?_)
                go_simp
                with_reducible refine hK _ _ ?_
                clear hK K
                try simp only [Act.put, List.setIfInBounds_toArray, List.set_cons_zero, List.set_cons_succ]
                refine BigFrame.wpList_want (by rfl) (fun K hK => ?_)
                go_simp
                with_reducible refine hK _ _ ?_
                clear hK K
                try simp only [Act.put, List.setIfInBounds_toArray, List.set_cons_zero, List.set_cons_succ]
                refine BigFrame.wpList_want (by rfl) (fun K hK => ?_)
                go_simp
                with_reducible refine hK _ _ ?_
                clear hK K
                try simp only [Act.put, List.setIfInBounds_toArray, List.set_cons_zero, List.set_cons_succ]
                refine BigFrame.wpList_want (by rfl) (fun K hK => ?_)
                go_simp
                with_reducible refine hK _ _ ?_
                clear hK K
                try simp only [Act.put, List.setIfInBounds_toArray, List.set_cons_zero, List.set_cons_succ]
                refine wpList_plain rfl (fun K hK => ?_)
                go_simp
                with_reducible refine hK _ _ ?_
                clear hK K
                try simp only [Act.put, List.setIfInBounds_toArray, List.set_cons_zero, List.set_cons_succ]
                refine wpList_plain rfl (fun K hK => ?_)
                go_simp
                with_reducible refine hK _ _ ?_
                clear hK K
                try simp only [Act.put, List.setIfInBounds_toArray, List.set_cons_zero, List.set_cons_succ]
                refine BigFrame.wpList_want (by rfl) (fun K hK => ?_)
                go_simp
                with_reducible refine hK _ _ ?_
                clear hK K
                try simp only [Act.put, List.setIfInBounds_toArray, List.set_cons_zero, List.set_cons_succ]
                refine BigFrame.wpList_want (by rfl) (fun K hK => ?_)
                go_simp
                with_reducible refine hK _ _ ?_
                clear hK K
                try simp only [Act.put, List.setIfInBounds_toArray, List.set_cons_zero, List.set_cons_succ]
                refine wpList_plain rfl (fun K hK => ?_)
                go_simp
                with_reducible refine hK _ _ ?_
                clear hK K
                try simp only [Act.put, List.setIfInBounds_toArray, List.set_cons_zero, List.set_cons_succ]
                refine wpList_plain rfl (fun K hK => ?_)
                go_simp
                with_reducible refine hK _ _ ?_
                clear hK K
                try simp only [Act.put, List.setIfInBounds_toArray, List.set_cons_zero, List.set_cons_succ]
                refine BigFrame.wpList_want (by rfl) (fun K hK => ?_)
                go_simp
                with_reducible refine hK _ _ ?_
                clear hK K
                try simp only [Act.put, List.setIfInBounds_toArray, List.set_cons_zero, List.set_cons_succ]
                refine BigFrame.wpList_want (by rfl) (fun K hK => ?_)
                go_simp
                with_reducible refine hK _ _ ?_
                clear hK K
                try simp only [Act.put, List.setIfInBounds_toArray, List.set_cons_zero, List.set_cons_succ]
                refine wpList_plain rfl (fun K hK => ?_)
                go_simp
                with_reducible refine hK _ _ ?_
                clear hK K
                try simp only [Act.put, List.setIfInBounds_toArray, List.set_cons_zero, List.set_cons_succ]
                refine wpList_plain rfl (fun K hK => ?_)
                go_simp
                with_reducible refine hK _ _ ?_
                clear hK K
                try simp only [Act.put, List.setIfInBounds_toArray, List.set_cons_zero, List.set_cons_succ]
                refine BigFrame.wpList_want (by rfl) (fun K hK => ?_)
                go_simp
                with_reducible refine hK _ _ ?_
                clear hK K
                try simp only [Act.put, List.setIfInBounds_toArray, List.set_cons_zero, List.set_cons_succ]
                refine BigFrame.wpList_want (by rfl) (fun K hK => ?_)
                go_simp
                with_reducible refine hK _ _ ?_
                clear hK K
                try simp only [Act.put, List.setIfInBounds_toArray, List.set_cons_zero, List.set_cons_succ]
                refine wpList_plain rfl (fun K hK => ?_)
                go_simp
                with_reducible refine hK _ _ ?_
                clear hK K
                try simp only [Act.put, List.setIfInBounds_toArray, List.set_cons_zero, List.set_cons_succ]
                refine wpList_plain rfl (fun K hK => ?_)
                go_simp
                with_reducible refine hK _ _ ?_
                clear hK K
                try simp only [Act.put, List.setIfInBounds_toArray, List.set_cons_zero, List.set_cons_succ]
                refine BigFrame.wpList_want (by rfl) (fun K hK => ?_)
                go_simp
                with_reducible refine hK _ _ ?_
                clear hK K
                try simp only [Act.put, List.setIfInBounds_toArray, List.set_cons_zero, List.set_cons_succ]
                refine BigFrame.wpList_want (by rfl) (fun K hK => ?_)
                go_simp
                with_reducible refine hK _ _ ?_
                clear hK K
                try simp only [Act.put, List.setIfInBounds_toArray, List.set_cons_zero, List.set_cons_succ]
                refine BigFrame.wpList_want (by rfl) (fun K hK => ?_)
                go_simp
                with_reducible refine hK _ _ ?_
                clear hK K
                try simp only [Act.put, List.setIfInBounds_toArray, List.set_cons_zero, List.set_cons_succ]
                refine BigFrame.wpList_want (by rfl) (fun K hK => ?_)
                go_simp
                with_reducible refine hK _ _ ?_
                clear hK K
                try simp only [Act.put, List.setIfInBounds_toArray, List.set_cons_zero, List.set_cons_succ]
                refine BigFrame.wpList_want (by rfl) (fun K hK => ?_)
                go_simp
                with_reducible refine hK _ _ ?_
                clear hK K
                try simp only [Act.put, List.setIfInBounds_toArray, List.set_cons_zero, List.set_cons_succ]
                refine BigFrame.wpList_want (by rfl) (fun K hK => ?_)
                go_simp
                with_reducible refine hK _ _ ?_
                clear hK K
                try simp only [Act.put, List.setIfInBounds_toArray, List.set_cons_zero, List.set_cons_succ]
                refine BigFrame.wpList_want (by rfl) (fun K hK => ?_)
                go_simp
                with_reducible refine hK _ _ ?_
                clear hK K
                try simp only [Act.put, List.setIfInBounds_toArray, List.set_cons_zero, List.set_cons_succ]
                refine BigFrame.wpList_want (by rfl) (fun K hK => ?_)
                go_simp
                with_reducible refine hK _ _ ?_
                clear hK K
                try simp only [Act.put, List.setIfInBounds_toArray, List.set_cons_zero, List.set_cons_succ]
                refine BigFrame.wpList_want (by rfl) (fun K hK => ?_)
                go_simp
                with_reducible refine hK _ _ ?_
                clear hK K
                try simp only [Act.put, List.setIfInBounds_toArray, List.set_cons_zero, List.set_cons_succ]
                with_reducible refine wpList_skip (by kernel_rfl) ?_
                try simp only [Act.put, List.setIfInBounds_toArray, List.set_cons_zero, List.set_cons_succ]
                with_reducible refine wpList_skip (by kernel_rfl) ?_
                try simp only [Act.put, List.setIfInBounds_toArray, List.set_cons_zero, List.set_cons_succ]
                with_reducible refine wpList_skip (by kernel_rfl) ?_
                try simp only [Act.put, List.setIfInBounds_toArray, List.set_cons_zero, List.set_cons_succ]
                with_reducible refine wpList_skip (by kernel_rfl) ?_
                try simp only [Act.put, List.setIfInBounds_toArray, List.set_cons_zero, List.set_cons_succ]
                with_reducible refine wpList_skip (by kernel_rfl) ?_
                try simp only [Act.put, List.setIfInBounds_toArray, List.set_cons_zero, List.set_cons_succ]
                with_reducible refine wpList_skip (by kernel_rfl) ?_
                try simp only [Act.put, List.setIfInBounds_toArray, List.set_cons_zero, List.set_cons_succ]
                with_reducible refine wpList_skip (by kernel_rfl) ?_
                try simp only [Act.put, List.setIfInBounds_toArray, List.set_cons_zero, List.set_cons_succ]
                with_reducible refine wpList_skip (by kernel_rfl) ?_
                try simp only [Act.put, List.setIfInBounds_toArray, List.set_cons_zero, List.set_cons_succ]
                with_reducible refine wpList_skip (by kernel_rfl) ?_
                try simp only [Act.put, List.setIfInBounds_toArray, List.set_cons_zero, List.set_cons_succ]
                with_reducible refine wpList_skip (by kernel_rfl) ?_
                try simp only [Act.put, List.setIfInBounds_toArray, List.set_cons_zero, List.set_cons_succ]
                refine BigFrame.wpList_want (by rfl) (fun K hK => ?_)
                go_simp
                with_reducible refine hK _ _ ?_
                clear hK K
                try simp only [Act.put, List.setIfInBounds_toArray, List.set_cons_zero, List.set_cons_succ]
                refine wpList_plain rfl (fun K hK => ?_)
                go_simp
                with_reducible refine hK _ _ ?_
                clear hK K
                try simp only [Act.put, List.setIfInBounds_toArray, List.set_cons_zero, List.set_cons_succ]
                refine wpList_plain rfl (fun K hK => ?_)
                go_simp
                with_reducible refine hK _ _ ?_
                clear hK K
                try simp only [Act.put, List.setIfInBounds_toArray, List.set_cons_zero, List.set_cons_succ]
                refine BigFrame.wpList_want (by rfl) (fun K hK => ?_)
                go_simp
                with_reducible refine hK _ _ ?_
                clear hK K
                try simp only [Act.put, List.setIfInBounds_toArray, List.set_cons_zero, List.set_cons_succ]
                refine BigFrame.wpList_want (by rfl) (fun K hK => ?_)
                go_simp
                with_reducible refine hK _ _ ?_
                clear hK K
                try simp only [Act.put, List.setIfInBounds_toArray, List.set_cons_zero, List.set_cons_succ]
                refine BigFrame.wpList_want (by rfl) (fun K hK => ?_)
                go_simp
                with_reducible refine hK _ _ ?_
                clear hK K
                try simp only [Act.put, List.setIfInBounds_toArray, List.set_cons_zero, List.set_cons_succ]
                refine BigFrame.wpList_want (by rfl) (fun K hK => ?_)
                go_simp
                with_reducible refine hK _ _ ?_
                clear hK K
                try simp only [Act.put, List.setIfInBounds_toArray, List.set_cons_zero, List.set_cons_succ]
                refine BigFrame.wpList_want (by rfl) (fun K hK => ?_)
                go_simp
                with_reducible refine hK _ _ ?_
                clear hK K
                try simp only [Act.put, List.setIfInBounds_toArray, List.set_cons_zero, List.set_cons_succ]
                refine BigFrame.wpList_want (by rfl) (fun K hK => ?_)
                go_simp
                with_reducible refine hK _ _ ?_
                clear hK K
                try simp only [Act.put, List.setIfInBounds_toArray, List.set_cons_zero, List.set_cons_succ]
                refine BigFrame.wpList_want (by rfl) (fun K hK => ?_)
                go_simp
                with_reducible refine hK _ _ ?_
                clear hK K
                try simp only [Act.put, List.setIfInBounds_toArray, List.set_cons_zero, List.set_cons_succ]
                with_reducible refine wpList_skip (by kernel_rfl) ?_
                try simp only [Act.put, List.setIfInBounds_toArray, List.set_cons_zero, List.set_cons_succ]
                with_reducible refine wpList_skip (by kernel_rfl) ?_
                try simp only [Act.put, List.setIfInBounds_toArray, List.set_cons_zero, List.set_cons_succ]
                with_reducible refine wpList_skip (by kernel_rfl) ?_
                try simp only [Act.put, List.setIfInBounds_toArray, List.set_cons_zero, List.set_cons_succ]
                with_reducible refine wpList_skip (by kernel_rfl) ?_
                try simp only [Act.put, List.setIfInBounds_toArray, List.set_cons_zero, List.set_cons_succ]
                refine BigFrame.wpList_want (by rfl) (fun K hK => ?_)
                go_simp
                with_reducible refine hK _ _ ?_
                clear hK K
                try simp only [Act.put, List.setIfInBounds_toArray, List.set_cons_zero, List.set_cons_succ]
                refine wpList_plain rfl (fun K hK => ?_)
                go_simp
                with_reducible refine hK _ _ ?_
                clear hK K
                try simp only [Act.put, List.setIfInBounds_toArray, List.set_cons_zero, List.set_cons_succ]
                clear c0 c1 c2 c3
                go_wp2_with fail
                go_meet
                case rel => exact ⟨rfl, B0, B1, B2, B3, BJ, BW, M, G⟩
              · obtain ⟨rfl, rfl⟩ := f2.out rfl
                refine wp_region_lit ?_
                refine wpList_plain rfl (fun K hK => ?_)
                go_simp
                with_reducible refine hK _ _ ?_
                clear hK K
                try simp only [Act.put, List.setIfInBounds_toArray, List.set_cons_zero, List.set_cons_succ]
                refine wpList_plain rfl (fun K hK => ?_)
                go_simp
                with_reducible refine hK _ _ ?_
                clear hK K
                try simp only [Act.put, List.setIfInBounds_toArray, List.set_cons_zero, List.set_cons_succ]
                refine wpList_plain rfl (fun K hK => ?_)
                go_simp
                with_reducible refine hK _ _ ?_
                clear hK K
                try simp only [Act.put, List.setIfInBounds_toArray, List.set_cons_zero, List.set_cons_succ]
                refine BigFrame.wpList_want (by rfl) (fun K hK => ?_)
                go_simp
                with_reducible refine hK _ _ ?_
                clear hK K
                try simp only [Act.put, List.setIfInBounds_toArray, List.set_cons_zero, List.set_cons_succ]
                refine BigFrame.wpList_want (by rfl) (fun K hK => ?_)
                go_simp
                with_reducible refine hK _ _ ?_
                clear hK K
                try simp only [Act.put, List.setIfInBounds_toArray, List.set_cons_zero, List.set_cons_succ]
                refine BigFrame.wpList_want (by rfl) (fun K hK => ?_)
                go_simp
                with_reducible refine hK _ _ ?_
                clear hK K
                try simp only [Act.put, List.setIfInBounds_toArray, List.set_cons_zero, List.set_cons_succ]
                refine BigFrame.wpList_want (by rfl) (fun K hK => ?_)
                go_simp
                with_reducible refine hK _ _ ?_
                clear hK K
                try simp only [Act.put, List.setIfInBounds_toArray, List.set_cons_zero, List.set_cons_succ]
                refine BigFrame.wpList_want (by rfl) (fun K hK => ?_)
                go_simp
                with_reducible refine hK _ _ ?_
                clear hK K
                try simp only [Act.put, List.setIfInBounds_toArray, List.set_cons_zero, List.set_cons_succ]
                refine BigFrame.wpList_want (by rfl) (fun K hK => ?_)
                go_simp
                with_reducible refine hK _ _ ?_
                clear hK K
                try simp only [Act.put, List.setIfInBounds_toArray, List.set_cons_zero, List.set_cons_succ]
                refine wpList_plain rfl (fun K hK => ?_)
                go_simp
                with_reducible refine hK _ _ ?_
                clear hK K
                try simp only [Act.put, List.setIfInBounds_toArray, List.set_cons_zero, List.set_cons_succ]
                refine wpList_plain rfl (fun K hK => ?_)
                go_simp
                with_reducible refine hK _ _ ?_
                clear hK K
                try simp only [Act.put, List.setIfInBounds_toArray, List.set_cons_zero, List.set_cons_succ]
                refine BigFrame.wpList_want (by rfl) (fun K hK => ?_)
                go_simp
                with_reducible refine hK _ _ ?_
                clear hK K
                try simp only [Act.put, List.setIfInBounds_toArray, List.set_cons_zero, List.set_cons_succ]
                refine BigFrame.wpList_want (by rfl) (fun K hK => ?_)
                go_simp
                with_reducible refine hK _ _ ?_
                clear hK K
                try simp only [Act.put, List.setIfInBounds_toArray, List.set_cons_zero, List.set_cons_succ]
                refine wpList_plain rfl (fun K hK => ?_)
                go_simp
                with_reducible refine hK _ _ ?_
                clear hK K
                try simp only [Act.put, List.setIfInBounds_toArray, List.set_cons_zero, List.set_cons_succ]
                refine wpList_plain rfl (fun K hK => ?_)
                go_simp
                with_reducible refine hK _ _ ?_
                clear hK K
                try simp only [Act.put, List.setIfInBounds_toArray, List.set_cons_zero, List.set_cons_succ]
                refine BigFrame.wpList_want (by rfl) (fun K hK => ?_)
                go_simp
                with_reducible refine hK _ _ ?_
                clear hK K
                try simp only [Act.put, List.setIfInBounds_toArray, List.set_cons_zero, List.set_cons_succ]
                refine BigFrame.wpList_want (by rfl) (fun K hK => ?_)
                go_simp
                with_reducible refine hK _ _ ?_
                clear hK K
                try simp only [Act.put, List.setIfInBounds_toArray, List.set_cons_zero, List.set_cons_succ]
                refine wpList_plain rfl (fun K hK => ?_)
                go_simp
                with_reducible refine hK _ _ ?_
                clear hK K
                try simp only [Act.put, List.setIfInBounds_toArray, List.set_cons_zero, List.set_cons_succ]
                refine wpList_plain rfl (fun K hK => ?_)
                go_simp
                with_reducible refine hK _ _ ?_
                clear hK K
                try simp only [Act.put, List.setIfInBounds_toArray, List.set_cons_zero, List.set_cons_succ]
                refine BigFrame.wpList_want (by rfl) (fun K hK => ?_)
                go_simp
                with_reducible refine hK _ _ ?_
                clear hK K
                try simp only [Act.put, List.setIfInBounds_toArray, List.set_cons_zero, List.set_cons_succ]
                refine BigFrame.wpList_want (by rfl) (fun K hK => ?_)
                go_simp
                with_reducible refine hK _ _ ?_
                clear hK K
                try simp only [Act.put, List.setIfInBounds_toArray, List.set_cons_zero, List.set_cons_succ]
                refine wpList_plain rfl (fun K hK => ?_)
                go_simp
                with_reducible refine hK _ _ ?_
                clear hK K
                try simp only [Act.put, List.setIfInBounds_toArray, List.set_cons_zero, List.set_cons_succ]
                refine wpList_plain rfl (fun K hK => ?_)
                go_simp
                with_reducible refine hK _ _ ?_
                clear hK K
                try simp only [Act.put, List.setIfInBounds_toArray, List.set_cons_zero, List.set_cons_succ]
                refine BigFrame.wpList_want (by rfl) (fun K hK => ?_)
                go_simp
                with_reducible refine hK _ _ ?_
                clear hK K
                try simp only [Act.put, List.setIfInBounds_toArray, List.set_cons_zero, List.set_cons_succ]
                refine BigFrame.wpList_want (by rfl) (fun K hK => ?_)
                go_simp
                with_reducible refine hK _ _ ?_
                clear hK K
                try simp only [Act.put, List.setIfInBounds_toArray, List.set_cons_zero, List.set_cons_succ]
                refine BigFrame.wpList_want (by rfl) (fun K hK => ?_)
                go_simp
                with_reducible refine hK _ _ ?_
                clear hK K
                try simp only [Act.put, List.setIfInBounds_toArray, List.set_cons_zero, List.set_cons_succ]
                refine BigFrame.wpList_want (by rfl) (fun K hK => ?_)
                go_simp
                with_reducible refine hK _ _ ?_
                clear hK K
                try simp only [Act.put, List.setIfInBounds_toArray, List.set_cons_zero, List.set_cons_succ]
                refine BigFrame.wpList_want (by rfl) (fun K hK => ?_)
                go_simp
                with_reducible refine hK _ _ ?_
                clear hK K
                try simp only [Act.put, List.setIfInBounds_toArray, List.set_cons_zero, List.set_cons_succ]
                refine BigFrame.wpList_want (by rfl) (fun K hK => ?_)
                go_simp
                with_reducible refine hK _ _ ?_
                clear hK K
                try simp only [Act.put, List.setIfInBounds_toArray, List.set_cons_zero, List.set_cons_succ]
                refine BigFrame.wpList_want (by rfl) (fun K hK => ?_)
                go_simp
                with_reducible refine hK _ _ ?_
                clear hK K
                try simp only [Act.put, List.setIfInBounds_toArray, List.set_cons_zero, List.set_cons_succ]
                refine BigFrame.wpList_want (by rfl) (fun K hK => ?_)
                go_simp
                with_reducible refine hK _ _ ?_
                clear hK K
                try simp only [Act.put, List.setIfInBounds_toArray, List.set_cons_zero, List.set_cons_succ]
                refine BigFrame.wpList_want (by rfl) (fun K hK => ?_)
                go_simp
                with_reducible refine hK _ _ ?_
                clear hK K
                try simp only [Act.put, List.setIfInBounds_toArray, List.set_cons_zero, List.set_cons_succ]
                refine BigFrame.wpList_want (by rfl) (fun K hK => ?_)
                go_simp
                with_reducible refine hK _ _ ?_
                clear hK K
                try simp only [Act.put, List.setIfInBounds_toArray, List.set_cons_zero, List.set_cons_succ]
                refine BigFrame.wpList_want (by rfl) (fun K hK => ?_)
                go_simp
                with_reducible refine hK _ _ ?_
                clear hK K
                try simp only [Act.put, List.setIfInBounds_toArray, List.set_cons_zero, List.set_cons_succ]
                refine BigFrame.wpList_want (by rfl) (fun K hK => ?_)
                go_simp
                with_reducible refine hK _ _ ?_
                clear hK K
                try simp only [Act.put, List.setIfInBounds_toArray, List.set_cons_zero, List.set_cons_succ]
                refine BigFrame.wpList_want (by rfl) (fun K hK => ?_)
                go_simp
                with_reducible refine hK _ _ ?_
                clear hK K
                try simp only [Act.put, List.setIfInBounds_toArray, List.set_cons_zero, List.set_cons_succ]
                refine BigFrame.wpList_want (by rfl) (fun K hK => ?_)
                go_simp
                with_reducible refine hK _ _ ?_
                clear hK K
                try simp only [Act.put, List.setIfInBounds_toArray, List.set_cons_zero, List.set_cons_succ]
                refine BigFrame.wpList_want (by rfl) (fun K hK => ?_)
                go_simp
                with_reducible refine hK _ _ ?_
                clear hK K
                try simp only [Act.put, List.setIfInBounds_toArray, List.set_cons_zero, List.set_cons_succ]
                refine BigFrame.wpList_want (by rfl) (fun K hK => ?_)
                go_simp
                with_reducible refine hK _ _ ?_
                clear hK K
                try simp only [Act.put, List.setIfInBounds_toArray, List.set_cons_zero, List.set_cons_succ]
                refine BigFrame.wpList_want (by rfl) (fun K hK => ?_)
                go_simp
                with_reducible refine hK _ _ ?_
                clear hK K
                try simp only [Act.put, List.setIfInBounds_toArray, List.set_cons_zero, List.set_cons_succ]
                refine BigFrame.wpList_want (by rfl) (fun K hK => ?_)
                go_simp
                with_reducible refine hK _ _ ?_
                clear hK K
                try simp only [Act.put, List.setIfInBounds_toArray, List.set_cons_zero, List.set_cons_succ]
                refine BigFrame.wpList_want (by rfl) (fun K hK => ?_)
                go_simp
                with_reducible refine hK _ _ ?_
                clear hK K
                try simp only [Act.put, List.setIfInBounds_toArray, List.set_cons_zero, List.set_cons_succ]
                refine BigFrame.wpList_want (by rfl) (fun K hK => ?_)
                go_simp
                with_reducible refine hK _ _ ?_
                clear hK K
                try simp only [Act.put, List.setIfInBounds_toArray, List.set_cons_zero, List.set_cons_succ]
                refine wpList_plain rfl (fun K hK => ?_)
                go_simp
                with_reducible refine hK _ _ ?_
                clear hK K
                try simp only [Act.put, List.setIfInBounds_toArray, List.set_cons_zero, List.set_cons_succ]
                refine wpList_plain rfl (fun K hK => ?_)
                go_simp
                with_reducible refine hK _ _ ?_
                clear hK K
                try simp only [Act.put, List.setIfInBounds_toArray, List.set_cons_zero, List.set_cons_succ]
                refine BigFrame.wpList_want (by rfl) (fun K hK => ?_)
                go_simp
                with_reducible refine hK _ _ ?_
                clear hK K
                try simp only [Act.put, List.setIfInBounds_toArray, List.set_cons_zero, List.set_cons_succ]
                refine BigFrame.wpList_want (by rfl) (fun K hK => ?_)
                go_simp
                with_reducible refine hK _ _ ?_
                clear hK K
                try simp only [Act.put, List.setIfInBounds_toArray, List.set_cons_zero, List.set_cons_succ]
                refine BigFrame.wpList_want (by rfl) (fun K hK => ?_)
                go_simp
                with_reducible refine hK _ _ ?_
                clear hK K
                try simp only [Act.put, List.setIfInBounds_toArray, List.set_cons_zero, List.set_cons_succ]
                refine BigFrame.wpList_want (by rfl) (fun K hK => ?_)
                go_simp
                with_reducible refine hK _ _ ?_
                clear hK K
                try simp only [Act.put, List.setIfInBounds_toArray, List.set_cons_zero, List.set_cons_succ]
                refine BigFrame.wpList_want (by rfl) (fun K hK => ?_)
                go_simp
                with_reducible refine hK _ _ ?_
                clear hK K
                try simp only [Act.put, List.setIfInBounds_toArray, List.set_cons_zero, List.set_cons_succ]
                refine BigFrame.wpList_want (by rfl) (fun K hK => ?_)
                go_simp
                with_reducible refine hK _ _ ?_
                clear hK K
                try simp only [Act.put, List.setIfInBounds_toArray, List.set_cons_zero, List.set_cons_succ]
                refine BigFrame.wpList_want (by rfl) (fun K hK => ?_)
                go_simp
                with_reducible refine hK _ _ ?_
                clear hK K
                try simp only [Act.put, List.setIfInBounds_toArray, List.set_cons_zero, List.set_cons_succ]
                with_reducible refine wpList_skip (by kernel_rfl) ?_
                try simp only [Act.put, List.setIfInBounds_toArray, List.set_cons_zero, List.set_cons_succ]
                with_reducible refine wpList_skip (by kernel_rfl) ?_
                try simp only [Act.put, List.setIfInBounds_toArray, List.set_cons_zero, List.set_cons_succ]
                with_reducible refine wpList_skip (by kernel_rfl) ?_
                try simp only [Act.put, List.setIfInBounds_toArray, List.set_cons_zero, List.set_cons_succ]
                with_reducible refine wpList_skip (by kernel_rfl) ?_
                try simp only [Act.put, List.setIfInBounds_toArray, List.set_cons_zero, List.set_cons_succ]
                refine BigFrame.wpList_want (by rfl) (fun K hK => ?_)
                go_simp
                with_reducible refine hK _ _ ?_
                clear hK K
                try simp only [Act.put, List.setIfInBounds_toArray, List.set_cons_zero, List.set_cons_succ]
                refine wpList_plain rfl (fun K hK => ?_)
                go_simp
                with_reducible refine hK _ _ ?_
                clear hK K
                try simp only [Act.put, List.setIfInBounds_toArray, List.set_cons_zero, List.set_cons_succ]
                clear c0 c1 c2 c3
                go_wp2_with fail
                go_meet
                case rel => exact ⟨rfl, B0, B1, B2, B3, BJ, BW, M, G⟩
            · obtain ⟨rfl, rfl⟩ := f1.out rfl
              have eac := f3.out rfl rfl
              subst eac
              refine wp_region_lit ?_
              refine wpList_plain rfl (fun K hK => ?_)
              go_simp
              with_reducible refine hK _ _ ?_
              clear hK K
              try simp only [Act.put, List.setIfInBounds_toArray, List.set_cons_zero, List.set_cons_succ]
              refine wpList_plain rfl (fun K hK => ?_)
              go_simp
              with_reducible refine hK _ _ ?_
              clear hK K
              try simp only [Act.put, List.setIfInBounds_toArray, List.set_cons_zero, List.set_cons_succ]
              refine wpList_plain rfl (fun K hK => ?_)
              go_simp
              with_reducible refine hK _ _ ?_
              clear hK K
              try simp only [Act.put, List.setIfInBounds_toArray, List.set_cons_zero, List.set_cons_succ]
              refine BigFrame.wpList_want (by rfl) (fun K hK => ?_)
              go_simp
              with_reducible refine hK _ _ ?_
              clear hK K
              try simp only [Act.put, List.setIfInBounds_toArray, List.set_cons_zero, List.set_cons_succ]
              refine BigFrame.wpList_want (by rfl) (fun K hK => ?_)
              go_simp
              with_reducible refine hK _ _ ?_
              clear hK K
              try simp only [Act.put, List.setIfInBounds_toArray, List.set_cons_zero, List.set_cons_succ]
              refine BigFrame.wpList_want (by rfl) (fun K hK => ?_)
              go_simp
              with_reducible refine hK _ _ ?_
              clear hK K
              try simp only [Act.put, List.setIfInBounds_toArray, List.set_cons_zero, List.set_cons_succ]
              refine BigFrame.wpList_want (by rfl) (fun K hK => ?_)
              go_simp
              with_reducible refine hK _ _ ?_
              clear hK K
              try simp only [Act.put, List.setIfInBounds_toArray, List.set_cons_zero, List.set_cons_succ]
              refine BigFrame.wpList_want (by rfl) (fun K hK => ?_)
              go_simp
              with_reducible refine hK _ _ ?_
              clear hK K
              try simp only [Act.put, List.setIfInBounds_toArray, List.set_cons_zero, List.set_cons_succ]
              refine BigFrame.wpList_want (by rfl) (fun K hK => ?_)
              go_simp
              with_reducible refine hK _ _ ?_
              clear hK K
              try simp only [Act.put, List.setIfInBounds_toArray, List.set_cons_zero, List.set_cons_succ]
              refine wpList_plain rfl (fun K hK => ?_)
              go_simp
              with_reducible refine hK _ _ ?_
              clear hK K
              try simp only [Act.put, List.setIfInBounds_toArray, List.set_cons_zero, List.set_cons_succ]
              refine wpList_plain rfl (fun K hK => ?_)
              go_simp
              with_reducible refine hK _ _ ?_
              clear hK K
              try simp only [Act.put, List.setIfInBounds_toArray, List.set_cons_zero, List.set_cons_succ]
              refine BigFrame.wpList_want (by rfl) (fun K hK => ?_)
              go_simp
              with_reducible refine hK _ _ ?_
              clear hK K
              try simp only [Act.put, List.setIfInBounds_toArray, List.set_cons_zero, List.set_cons_succ]
              refine BigFrame.wpList_want (by rfl) (fun K hK => ?_)
              go_simp
              with_reducible refine hK _ _ ?_
              clear hK K
              try simp only [Act.put, List.setIfInBounds_toArray, List.set_cons_zero, List.set_cons_succ]
              refine wpList_plain rfl (fun K hK => ?_)
              go_simp
              with_reducible refine hK _ _ ?_
              clear hK K
              try simp only [Act.put, List.setIfInBounds_toArray, List.set_cons_zero, List.set_cons_succ]
              refine wpList_plain rfl (fun K hK => ?_)
              go_simp
              with_reducible refine hK _ _ ?_
              clear hK K
              try simp only [Act.put, List.setIfInBounds_toArray, List.set_cons_zero, List.set_cons_succ]
              refine BigFrame.wpList_want (by rfl) (fun K hK => ?_)
              go_simp
              with_reducible refine hK _ _ ?_
              clear hK K
              try simp only [Act.put, List.setIfInBounds_toArray, List.set_cons_zero, List.set_cons_succ]
              refine BigFrame.wpList_want (by rfl) (fun K hK => ?_)
              go_simp
              with_reducible refine hK _ _ ?_
              clear hK K
              try simp only [Act.put, List.setIfInBounds_toArray, List.set_cons_zero, List.set_cons_succ]
              refine wpList_plain rfl (fun K hK => ?_)
              go_simp
              with_reducible refine hK _ _ ?_
              clear hK K
              try simp only [Act.put, List.setIfInBounds_toArray, List.set_cons_zero, List.set_cons_succ]
              refine wpList_plain rfl (fun K hK => ?_)
              go_simp
              with_reducible refine hK _ _ ?_
              clear hK K
              try simp only [Act.put, List.setIfInBounds_toArray, List.set_cons_zero, List.set_cons_succ]
              refine BigFrame.wpList_want (by rfl) (fun K hK => ?_)
              go_simp
              with_reducible refine hK _ _ ?_
              clear hK K
              try simp only [Act.put, List.setIfInBounds_toArray, List.set_cons_zero, List.set_cons_succ]
              refine BigFrame.wpList_want (by rfl) (fun K hK => ?_)
              go_simp
              with_reducible refine hK _ _ ?_
              clear hK K
              try simp only [Act.put, List.setIfInBounds_toArray, List.set_cons_zero, List.set_cons_succ]
              refine wpList_plain rfl (fun K hK => ?_)
              go_simp
              with_reducible refine hK _ _ ?_
              clear hK K
              try simp only [Act.put, List.setIfInBounds_toArray, List.set_cons_zero, List.set_cons_succ]
              refine wpList_plain rfl (fun K hK => ?_)
              go_simp
              with_reducible refine hK _ _ ?_
              clear hK K
              try simp only [Act.put, List.setIfInBounds_toArray, List.set_cons_zero, List.set_cons_succ]
              refine BigFrame.wpList_want (by rfl) (fun K hK => ?_)
              go_simp
              with_reducible refine hK _ _ ?_
              clear hK K
              try simp only [Act.put, List.setIfInBounds_toArray, List.set_cons_zero, List.set_cons_succ]
              refine BigFrame.wpList_want (by rfl) (fun K hK => ?_)
              go_simp
              with_reducible refine hK _ _ ?_
              clear hK K
              try simp only [Act.put, List.setIfInBounds_toArray, List.set_cons_zero, List.set_cons_succ]
              refine BigFrame.wpList_want (by rfl) (fun K hK => ?_)
              go_simp
              with_reducible refine hK _ _ ?_
              clear hK K
              try simp only [Act.put, List.setIfInBounds_toArray, List.set_cons_zero, List.set_cons_succ]
              refine BigFrame.wpList_want (by rfl) (fun K hK => ?_)
              go_simp
              with_reducible refine hK _ _ ?_
              clear hK K
              try simp only [Act.put, List.setIfInBounds_toArray, List.set_cons_zero, List.set_cons_succ]
              with_reducible refine wpList_skip (by kernel_rfl) ?_
              try simp only [Act.put, List.setIfInBounds_toArray, List.set_cons_zero, List.set_cons_succ]
              with_reducible refine wpList_skip (by kernel_rfl) ?_
              try simp only [Act.put, List.setIfInBounds_toArray, List.set_cons_zero, List.set_cons_succ]
              with_reducible refine wpList_skip (by kernel_rfl) ?_
              try simp only [Act.put, List.setIfInBounds_toArray, List.set_cons_zero, List.set_cons_succ]
              refine BigFrame.wpList_want (by rfl) (fun K hK => ?_)
              go_simp
              with_reducible refine hK _ _ ?_
              clear hK K
              try simp only [Act.put, List.setIfInBounds_toArray, List.set_cons_zero, List.set_cons_succ]
              refine BigFrame.wpList_want (by rfl) (fun K hK => ?_)
              go_simp
              with_reducible refine hK _ _ ?_
              clear hK K
              try simp only [Act.put, List.setIfInBounds_toArray, List.set_cons_zero, List.set_cons_succ]
              refine BigFrame.wpList_want (by rfl) (fun K hK => ?_)
              go_simp
              with_reducible refine hK _ _ ?_
              clear hK K
              try simp only [Act.put, List.setIfInBounds_toArray, List.set_cons_zero, List.set_cons_succ]
              refine BigFrame.wpList_want (by rfl) (fun K hK => ?_)
              go_simp
              with_reducible refine hK _ _ ?_
              clear hK K
              try simp only [Act.put, List.setIfInBounds_toArray, List.set_cons_zero, List.set_cons_succ]
              refine BigFrame.wpList_want (by rfl) (fun K hK => ?_)
              go_simp
              with_reducible refine hK _ _ ?_
              clear hK K
              try simp only [Act.put, List.setIfInBounds_toArray, List.set_cons_zero, List.set_cons_succ]
              refine BigFrame.wpList_want (by rfl) (fun K hK => ?_)
              go_simp
              with_reducible refine hK _ _ ?_
              clear hK K
              try simp only [Act.put, List.setIfInBounds_toArray, List.set_cons_zero, List.set_cons_succ]
              refine BigFrame.wpList_want (by rfl) (fun K hK => ?_)
              go_simp
              with_reducible refine hK _ _ ?_
              clear hK K
              try simp only [Act.put, List.setIfInBounds_toArray, List.set_cons_zero, List.set_cons_succ]
              refine BigFrame.wpList_want (by rfl) (fun K hK => ?_)
              go_simp
              with_reducible refine hK _ _ ?_
              clear hK K
              try simp only [Act.put, List.setIfInBounds_toArray, List.set_cons_zero, List.set_cons_succ]
              refine BigFrame.wpList_want (by rfl) (fun K hK => ?_)
              go_simp
              with_reducible refine hK _ _ ?_
              clear hK K
              try simp only [Act.put, List.setIfInBounds_toArray, List.set_cons_zero, List.set_cons_succ]
              refine BigFrame.wpList_want (by rfl) (fun K hK => ?_)
              go_simp
              with_reducible refine hK _ _ ?_
              clear hK K
              try simp only [Act.put, List.setIfInBounds_toArray, List.set_cons_zero, List.set_cons_succ]
              refine BigFrame.wpList_want (by rfl) (fun K hK => ?_)
              go_simp
              with_reducible refine hK _ _ ?_
              clear hK K
              try simp only [Act.put, List.setIfInBounds_toArray, List.set_cons_zero, List.set_cons_succ]
              refine BigFrame.wpList_want (by rfl) (fun K hK => ?_)
              go_simp
              with_reducible refine hK _ _ ?_
              clear hK K
              try simp only [Act.put, List.setIfInBounds_toArray, List.set_cons_zero, List.set_cons_succ]
              refine BigFrame.wpList_want (by rfl) (fun K hK => ?_)
              go_simp
              with_reducible refine hK _ _ ?_
              clear hK K
              try simp only [Act.put, List.setIfInBounds_toArray, List.set_cons_zero, List.set_cons_succ]
              refine wpList_plain rfl (fun K hK => ?_)
              go_simp
              with_reducible refine hK _ _ ?_
              clear hK K
              try simp only [Act.put, List.setIfInBounds_toArray, List.set_cons_zero, List.set_cons_succ]
              refine wpList_plain rfl (fun K hK => ?_)
              go_simp
              with_reducible refine hK _ _ ?_
              clear hK K
              try simp only [Act.put, List.setIfInBounds_toArray, List.set_cons_zero, List.set_cons_succ]
              refine BigFrame.wpList_want (by rfl) (fun K hK => ?_)
              go_simp
              with_reducible refine hK _ _ ?_
              clear hK K
              try simp only [Act.put, List.setIfInBounds_toArray, List.set_cons_zero, List.set_cons_succ]
              refine BigFrame.wpList_want (by rfl) (fun K hK => ?_)
              go_simp
              with_reducible refine hK _ _ ?_
              clear hK K
              try simp only [Act.put, List.setIfInBounds_toArray, List.set_cons_zero, List.set_cons_succ]
              refine BigFrame.wpList_want (by rfl) (fun K hK => ?_)
              go_simp
              with_reducible refine hK _ _ ?_
              clear hK K
              try simp only [Act.put, List.setIfInBounds_toArray, List.set_cons_zero, List.set_cons_succ]
              refine BigFrame.wpList_want (by rfl) (fun K hK => ?_)
              go_simp
              with_reducible refine hK _ _ ?_
              clear hK K
              try simp only [Act.put, List.setIfInBounds_toArray, List.set_cons_zero, List.set_cons_succ]
              refine BigFrame.wpList_want (by rfl) (fun K hK => ?_)
              go_simp
              with_reducible refine hK _ _ ?_
              clear hK K
              try simp only [Act.put, List.setIfInBounds_toArray, List.set_cons_zero, List.set_cons_succ]
              refine BigFrame.wpList_want (by rfl) (fun K hK => ?_)
              go_simp
              with_reducible refine hK _ _ ?_
              clear hK K
              try simp only [Act.put, List.setIfInBounds_toArray, List.set_cons_zero, List.set_cons_succ]
              refine BigFrame.wpList_want (by rfl) (fun K hK => ?_)
              go_simp
              with_reducible refine hK _ _ ?_
              clear hK K
              try simp only [Act.put, List.setIfInBounds_toArray, List.set_cons_zero, List.set_cons_succ]
              refine BigFrame.wpList_want (by rfl) (fun K hK => ?_)
              refine wp_load_mid _ _ rfl _ 0 rfl (stV sc) _ B2.out.range Try.underlying47 rfl (info_sv _) (hK _ _ ?_)
              clear hK K
              try simp only [Act.put, List.setIfInBounds_toArray, List.set_cons_zero, List.set_cons_succ]
              refine BigFrame.wpList_want (by rfl) (fun K hK => ?_)
              refine wp_load_mid _ _ rfl _ 0 rfl (rowV [] Vv.vals V) _ B3.out.range Try.underlying48 rfl lV.out (hK _ _ ?_)
              clear hK K
              try simp only [Act.put, List.setIfInBounds_toArray, List.set_cons_zero, List.set_cons_succ]
              refine BigFrame.wpList_want (by rfl) (fun K hK => ?_)
              go_simp
              (go_at_call 17; refine (h8.out _).mono ?_; rintro x wq ⟨rfl, q9⟩; replace q9 := T.Hid.mk q9)
              with_reducible refine hK _ _ ?_
              clear hK K
              try simp only [Act.put, List.setIfInBounds_toArray, List.set_cons_zero, List.set_cons_succ]
              refine BigFrame.wpList_want (by rfl) (fun K hK => ?_)
              go_simp
              with_reducible refine hK _ _ ?_
              clear hK K
              try simp only [Act.put, List.setIfInBounds_toArray, List.set_cons_zero, List.set_cons_succ]
              refine BigFrame.wpList_want (by rfl) (fun K hK => ?_)
              go_simp
              with_reducible refine hK _ _ ?_
              clear hK K
              try simp only [Act.put, List.setIfInBounds_toArray, List.set_cons_zero, List.set_cons_succ]
              refine wpList_plain rfl (fun K hK => ?_)
              go_simp
              with_reducible refine hK _ _ ?_
              clear hK K
              try simp only [Act.put, List.setIfInBounds_toArray, List.set_cons_zero, List.set_cons_succ]
              clear c0 c1 c2 c3
              replace G := T.Hid.mk (Below.gr G.out (Nat.le_of_lt (B0.out.1)) q9.out)
              replace B0 := T.Hid.mk (B0.out.gr q9.out)
              replace B1 := T.Hid.mk (B1.out.gr q9.out)
              replace B2 := T.Hid.mk (B2.out.gr q9.out)
              replace B3 := T.Hid.mk (B3.out.gr q9.out)
              replace BJ := T.Hid.mk (BJ.out.gr q9.out)
              replace BW := T.Hid.mk (BW.out.gr q9.out)
              replace M := T.Hid.mk (M.out.gr q9.out)
              clear q9
              go_wp2_with fail
              go_meet
              case rel => exact ⟨rfl, B0, B1, B2, B3, BJ, BW, M, G⟩
          · cases m0
            · cases m1
              · refine wp_region_lit ?_
                refine wpList_plain rfl (fun K hK => ?_)
                go_simp
                with_reducible refine hK _ _ ?_
                clear hK K
                try simp only [Act.put, List.setIfInBounds_toArray, List.set_cons_zero, List.set_cons_succ]
                refine wpList_plain rfl (fun K hK => ?_)
                go_simp
                with_reducible refine hK _ _ ?_
                clear hK K
                try simp only [Act.put, List.setIfInBounds_toArray, List.set_cons_zero, List.set_cons_succ]
                refine wpList_plain rfl (fun K hK => ?_)
                go_simp
                with_reducible refine hK _ _ ?_
                clear hK K
                try simp only [Act.put, List.setIfInBounds_toArray, List.set_cons_zero, List.set_cons_succ]
                refine BigFrame.wpList_want (by rfl) (fun K hK => ?_)
                go_simp
                with_reducible refine hK _ _ ?_
                clear hK K
                try simp only [Act.put, List.setIfInBounds_toArray, List.set_cons_zero, List.set_cons_succ]
                refine BigFrame.wpList_want (by rfl) (fun K hK => ?_)
                go_simp
                with_reducible refine hK _ _ ?_
                clear hK K
                try simp only [Act.put, List.setIfInBounds_toArray, List.set_cons_zero, List.set_cons_succ]
                refine BigFrame.wpList_want (by rfl) (fun K hK => ?_)
                go_simp
                with_reducible refine hK _ _ ?_
                clear hK K
                try simp only [Act.put, List.setIfInBounds_toArray, List.set_cons_zero, List.set_cons_succ]
                refine BigFrame.wpList_want (by rfl) (fun K hK => ?_)
                go_simp
                with_reducible refine hK _ _ ?_
                clear hK K
                try simp only [Act.put, List.setIfInBounds_toArray, List.set_cons_zero, List.set_cons_succ]
                refine BigFrame.wpList_want (by rfl) (fun K hK => ?_)
                go_simp
                with_reducible refine hK _ _ ?_
                clear hK K
                try simp only [Act.put, List.setIfInBounds_toArray, List.set_cons_zero, List.set_cons_succ]
                refine BigFrame.wpList_want (by rfl) (fun K hK => ?_)
                go_simp
                with_reducible refine hK _ _ ?_
                clear hK K
                try simp only [Act.put, List.setIfInBounds_toArray, List.set_cons_zero, List.set_cons_succ]
                refine wpList_plain rfl (fun K hK => ?_)
                go_simp
                with_reducible refine hK _ _ ?_
                clear hK K
                try simp only [Act.put, List.setIfInBounds_toArray, List.set_cons_zero, List.set_cons_succ]
                refine wpList_plain rfl (fun K hK => ?_)
                go_simp
                with_reducible refine hK _ _ ?_
                clear hK K
                try simp only [Act.put, List.setIfInBounds_toArray, List.set_cons_zero, List.set_cons_succ]
                refine BigFrame.wpList_want (by rfl) (fun K hK => ?_)
                go_simp
                with_reducible refine hK _ _ ?_
                clear hK K
                try simp only [Act.put, List.setIfInBounds_toArray, List.set_cons_zero, List.set_cons_succ]
                refine BigFrame.wpList_want (by rfl) (fun K hK => ?_)
                go_simp
                with_reducible refine hK _ _ ?_
                clear hK K
                try simp only [Act.put, List.setIfInBounds_toArray, List.set_cons_zero, List.set_cons_succ]
                refine wpList_plain rfl (fun K hK => ?_)
                go_simp
                with_reducible refine hK _ _ ?_
                clear hK K
                try simp only [Act.put, List.setIfInBounds_toArray, List.set_cons_zero, List.set_cons_succ]
                refine wpList_plain rfl (fun K hK => ?_)
                go_simp
                with_reducible refine hK _ _ ?_
                clear hK K
                try simp only [Act.put, List.setIfInBounds_toArray, List.set_cons_zero, List.set_cons_succ]
                refine BigFrame.wpList_want (by rfl) (fun K hK => ?_)
                go_simp
                with_reducible refine hK _ _ ?_
                clear hK K
                try simp only [Act.put, List.setIfInBounds_toArray, List.set_cons_zero, List.set_cons_succ]
                refine BigFrame.wpList_want (by rfl) (fun K hK => ?_)
                go_simp
                with_reducible refine hK _ _ ?_
                clear hK K
                try simp only [Act.put, List.setIfInBounds_toArray, List.set_cons_zero, List.set_cons_succ]
                refine wpList_plain rfl (fun K hK => ?_)
                go_simp
                with_reducible refine hK _ _ ?_
                clear hK K
                try simp only [Act.put, List.setIfInBounds_toArray, List.set_cons_zero, List.set_cons_succ]
                refine wpList_plain rfl (fun K hK => ?_)
                go_simp
                with_reducible refine hK _ _ ?_
                clear hK K
                try simp only [Act.put, List.setIfInBounds_toArray, List.set_cons_zero, List.set_cons_succ]
                refine BigFrame.wpList_want (by rfl) (fun K hK => ?_)
                go_simp
                with_reducible refine hK _ _ ?_
                clear hK K
                try simp only [Act.put, List.setIfInBounds_toArray, List.set_cons_zero, List.set_cons_succ]
                refine BigFrame.wpList_want (by rfl) (fun K hK => ?_)
                go_simp
                with_reducible refine hK _ _ ?_
                clear hK K
                try simp only [Act.put, List.setIfInBounds_toArray, List.set_cons_zero, List.set_cons_succ]
                refine wpList_plain rfl (fun K hK => ?_)
                go_simp
                with_reducible refine hK _ _ ?_
                clear hK K
                try simp only [Act.put, List.setIfInBounds_toArray, List.set_cons_zero, List.set_cons_succ]
                refine wpList_plain rfl (fun K hK => ?_)
                go_simp
                with_reducible refine hK _ _ ?_
                clear hK K
                try simp only [Act.put, List.setIfInBounds_toArray, List.set_cons_zero, List.set_cons_succ]
                refine BigFrame.wpList_want (by rfl) (fun K hK => ?_)
                go_simp
                with_reducible refine hK _ _ ?_
                clear hK K
                try simp only [Act.put, List.setIfInBounds_toArray, List.set_cons_zero, List.set_cons_succ]
                refine BigFrame.wpList_want (by rfl) (fun K hK => ?_)
                go_simp
                with_reducible refine hK _ _ ?_
                clear hK K
                try simp only [Act.put, List.setIfInBounds_toArray, List.set_cons_zero, List.set_cons_succ]
                refine BigFrame.wpList_want (by rfl) (fun K hK => ?_)
                go_simp
                with_reducible refine hK _ _ ?_
                clear hK K
                try simp only [Act.put, List.setIfInBounds_toArray, List.set_cons_zero, List.set_cons_succ]
                refine BigFrame.wpList_want (by rfl) (fun K hK => ?_)
                go_simp
                with_reducible refine hK _ _ ?_
                clear hK K
                try simp only [Act.put, List.setIfInBounds_toArray, List.set_cons_zero, List.set_cons_succ]
                refine BigFrame.wpList_want (by rfl) (fun K hK => ?_)
                go_simp
                with_reducible refine hK _ _ ?_
                clear hK K
                try simp only [Act.put, List.setIfInBounds_toArray, List.set_cons_zero, List.set_cons_succ]
                refine BigFrame.wpList_want (by rfl) (fun K hK => ?_)
                go_simp
                with_reducible refine hK _ _ ?_
                clear hK K
                try simp only [Act.put, List.setIfInBounds_toArray, List.set_cons_zero, List.set_cons_succ]
                refine BigFrame.wpList_want (by rfl) (fun K hK => ?_)
                go_simp
                with_reducible refine hK _ _ ?_
                clear hK K
                try simp only [Act.put, List.setIfInBounds_toArray, List.set_cons_zero, List.set_cons_succ]
                refine BigFrame.wpList_want (by rfl) (fun K hK => ?_)
                go_simp
                with_reducible refine hK _ _ ?_
                clear hK K
                try simp only [Act.put, List.setIfInBounds_toArray, List.set_cons_zero, List.set_cons_succ]
                refine BigFrame.wpList_want (by rfl) (fun K hK => ?_)
                go_simp
                with_reducible refine hK _ _ ?_
                clear hK K
                try simp only [Act.put, List.setIfInBounds_toArray, List.set_cons_zero, List.set_cons_succ]
                with_reducible refine wpList_skip (by kernel_rfl) ?_
                try simp only [Act.put, List.setIfInBounds_toArray, List.set_cons_zero, List.set_cons_succ]
                with_reducible refine wpList_skip (by kernel_rfl) ?_
                try simp only [Act.put, List.setIfInBounds_toArray, List.set_cons_zero, List.set_cons_succ]
                with_reducible refine wpList_skip (by kernel_rfl) ?_
                try simp only [Act.put, List.setIfInBounds_toArray, List.set_cons_zero, List.set_cons_succ]
                with_reducible refine wpList_skip (by kernel_rfl) ?_
                try simp only [Act.put, List.setIfInBounds_toArray, List.set_cons_zero, List.set_cons_succ]
                with_reducible refine wpList_skip (by kernel_rfl) ?_
                try simp only [Act.put, List.setIfInBounds_toArray, List.set_cons_zero, List.set_cons_succ]
                with_reducible refine wpList_skip (by kernel_rfl) ?_
                try simp only [Act.put, List.setIfInBounds_toArray, List.set_cons_zero, List.set_cons_succ]
                with_reducible refine wpList_skip (by kernel_rfl) ?_
                try simp only [Act.put, List.setIfInBounds_toArray, List.set_cons_zero, List.set_cons_succ]
                with_reducible refine wpList_skip (by kernel_rfl) ?_
                try simp only [Act.put, List.setIfInBounds_toArray, List.set_cons_zero, List.set_cons_succ]
                with_reducible refine wpList_skip (by kernel_rfl) ?_
                try simp only [Act.put, List.setIfInBounds_toArray, List.set_cons_zero, List.set_cons_succ]
                with_reducible refine wpList_skip (by kernel_rfl) ?_
                try simp only [Act.put, List.setIfInBounds_toArray, List.set_cons_zero, List.set_cons_succ]
                refine BigFrame.wpList_want (by rfl) (fun K hK => ?_)
                go_simp
                with_reducible refine hK _ _ ?_
                clear hK K
                try simp only [Act.put, List.setIfInBounds_toArray, List.set_cons_zero, List.set_cons_succ]
                refine wpList_plain rfl (fun K hK => ?_)
                go_simp
                with_reducible refine hK _ _ ?_
                clear hK K
                try simp only [Act.put, List.setIfInBounds_toArray, List.set_cons_zero, List.set_cons_succ]
                refine wpList_plain rfl (fun K hK => ?_)
                go_simp
                with_reducible refine hK _ _ ?_
                clear hK K
                try simp only [Act.put, List.setIfInBounds_toArray, List.set_cons_zero, List.set_cons_succ]
                refine BigFrame.wpList_want (by rfl) (fun K hK => ?_)
                go_simp
                with_reducible refine hK _ _ ?_
                clear hK K
                try simp only [Act.put, List.setIfInBounds_toArray, List.set_cons_zero, List.set_cons_succ]
                refine BigFrame.wpList_want (by rfl) (fun K hK => ?_)
                go_simp
                with_reducible refine hK _ _ ?_
                clear hK K
                try simp only [Act.put, List.setIfInBounds_toArray, List.set_cons_zero, List.set_cons_succ]
                refine BigFrame.wpList_want (by rfl) (fun K hK => ?_)
                go_simp
                with_reducible refine hK _ _ ?_
                clear hK K
                try simp only [Act.put, List.setIfInBounds_toArray, List.set_cons_zero, List.set_cons_succ]
                refine BigFrame.wpList_want (by rfl) (fun K hK => ?_)
                go_simp
                with_reducible refine hK _ _ ?_
                clear hK K
                try simp only [Act.put, List.setIfInBounds_toArray, List.set_cons_zero, List.set_cons_succ]
                refine BigFrame.wpList_want (by rfl) (fun K hK => ?_)
                go_simp
                with_reducible refine hK _ _ ?_
                clear hK K
                try simp only [Act.put, List.setIfInBounds_toArray, List.set_cons_zero, List.set_cons_succ]
                refine BigFrame.wpList_want (by rfl) (fun K hK => ?_)
                go_simp
                with_reducible refine hK _ _ ?_
                clear hK K
                try simp only [Act.put, List.setIfInBounds_toArray, List.set_cons_zero, List.set_cons_succ]
                refine BigFrame.wpList_want (by rfl) (fun K hK => ?_)
                go_simp
                with_reducible refine hK _ _ ?_
                clear hK K
                try simp only [Act.put, List.setIfInBounds_toArray, List.set_cons_zero, List.set_cons_succ]
                with_reducible refine wpList_skip (by kernel_rfl) ?_
                try simp only [Act.put, List.setIfInBounds_toArray, List.set_cons_zero, List.set_cons_succ]
                with_reducible refine wpList_skip (by kernel_rfl) ?_
                try simp only [Act.put, List.setIfInBounds_toArray, List.set_cons_zero, List.set_cons_succ]
                with_reducible refine wpList_skip (by kernel_rfl) ?_
                try simp only [Act.put, List.setIfInBounds_toArray, List.set_cons_zero, List.set_cons_succ]
                with_reducible refine wpList_skip (by kernel_rfl) ?_
                try simp only [Act.put, List.setIfInBounds_toArray, List.set_cons_zero, List.set_cons_succ]
                refine BigFrame.wpList_want (by rfl) (fun K hK => ?_)
                go_simp
                with_reducible refine hK _ _ ?_
                clear hK K
                try simp only [Act.put, List.setIfInBounds_toArray, List.set_cons_zero, List.set_cons_succ]
                refine wpList_plain rfl (fun K hK => ?_)
                go_simp
                with_reducible refine hK _ _ ?_
                clear hK K
                try simp only [Act.put, List.setIfInBounds_toArray, List.set_cons_zero, List.set_cons_succ]
                clear c0 c1 c2 c3
                go_wp2_with fail
                go_meet
                case rel => exact ⟨rfl, B0, B1, B2, B3, BJ, BW, M, G⟩
              · obtain ⟨rfl, rfl⟩ := f2.out rfl
                refine wp_region_lit ?_
                refine wpList_plain rfl (fun K hK => ?_)
                go_simp
                with_reducible refine hK _ _ ?_
                clear hK K
                try simp only [Act.put, List.setIfInBounds_toArray, List.set_cons_zero, List.set_cons_succ]
                refine wpList_plain rfl (fun K hK => ?_)
                go_simp
                with_reducible refine hK _ _ ?_
                clear hK K
                try simp only [Act.put, List.setIfInBounds_toArray, List.set_cons_zero, List.set_cons_succ]
                refine wpList_plain rfl (fun K hK => ?_)
                go_simp
                with_reducible refine hK _ _ ?_
                clear hK K
                try simp only [Act.put, List.setIfInBounds_toArray, List.set_cons_zero, List.set_cons_succ]
                refine BigFrame.wpList_want (by rfl) (fun K hK => ?_)
                go_simp
                with_reducible refine hK _ _ ?_
                clear hK K
                try simp only [Act.put, List.setIfInBounds_toArray, List.set_cons_zero, List.set_cons_succ]
                refine BigFrame.wpList_want (by rfl) (fun K hK => ?_)
                go_simp
                with_reducible refine hK _ _ ?_
                clear hK K
                try simp only [Act.put, List.setIfInBounds_toArray, List.set_cons_zero, List.set_cons_succ]
                refine BigFrame.wpList_want (by rfl) (fun K hK => ?_)
                go_simp
                with_reducible refine hK _ _ ?_
                clear hK K
                try simp only [Act.put, List.setIfInBounds_toArray, List.set_cons_zero, List.set_cons_succ]
                refine BigFrame.wpList_want (by rfl) (fun K hK => ?_)
                go_simp
                with_reducible refine hK _ _ ?_
                clear hK K
                try simp only [Act.put, List.setIfInBounds_toArray, List.set_cons_zero, List.set_cons_succ]
                refine BigFrame.wpList_want (by rfl) (fun K hK => ?_)
                go_simp
                with_reducible refine hK _ _ ?_
                clear hK K
                try simp only [Act.put, List.setIfInBounds_toArray, List.set_cons_zero, List.set_cons_succ]
                refine BigFrame.wpList_want (by rfl) (fun K hK => ?_)
                go_simp
                with_reducible refine hK _ _ ?_
                clear hK K
                try simp only [Act.put, List.setIfInBounds_toArray, List.set_cons_zero, List.set_cons_succ]
                refine wpList_plain rfl (fun K hK => ?_)
                go_simp
                with_reducible refine hK _ _ ?_
                clear hK K
                try simp only [Act.put, List.setIfInBounds_toArray, List.set_cons_zero, List.set_cons_succ]
                refine wpList_plain rfl (fun K hK => ?_)
                go_simp
                with_reducible refine hK _ _ ?_
                clear hK K
                try simp only [Act.put, List.setIfInBounds_toArray, List.set_cons_zero, List.set_cons_succ]
                refine BigFrame.wpList_want (by rfl) (fun K hK => ?_)
                go_simp
                with_reducible refine hK _ _ ?_
                clear hK K
                try simp only [Act.put, List.setIfInBounds_toArray, List.set_cons_zero, List.set_cons_succ]
                refine BigFrame.wpList_want (by rfl) (fun K hK => ?_)
                go_simp
                with_reducible refine hK _ _ ?_
                clear hK K
                try simp only [Act.put, List.setIfInBounds_toArray, List.set_cons_zero, List.set_cons_succ]
                refine wpList_plain rfl (fun K hK => ?_)
                go_simp
                with_reducible refine hK _ _ ?_
                clear hK K
                try simp only [Act.put, List.setIfInBounds_toArray, List.set_cons_zero, List.set_cons_succ]
                refine wpList_plain rfl (fun K hK => ?_)
                go_simp
                with_reducible refine hK _ _ ?_
                clear hK K
                try simp only [Act.put, List.setIfInBounds_toArray, List.set_cons_zero, List.set_cons_succ]
                refine BigFrame.wpList_want (by rfl) (fun K hK => ?_)
                go_simp
                with_reducible refine hK _ _ ?_
                clear hK K
                try simp only [Act.put, List.setIfInBounds_toArray, List.set_cons_zero, List.set_cons_succ]
                refine BigFrame.wpList_want (by rfl) (fun K hK => ?_)
                go_simp
                with_reducible refine hK _ _ ?_
                clear hK K
                try simp only [Act.put, List.setIfInBounds_toArray, List.set_cons_zero, List.set_cons_succ]
                refine wpList_plain rfl (fun K hK => ?_)
                go_simp
                with_reducible refine hK _ _ ?_
                clear hK K
                try simp only [Act.put, List.setIfInBounds_toArray, List.set_cons_zero, List.set_cons_succ]
                refine wpList_plain rfl (fun K hK => ?_)
                go_simp
                with_reducible refine hK _ _ ?_
                clear hK K
                try simp only [Act.put, List.setIfInBounds_toArray, List.set_cons_zero, List.set_cons_succ]
                refine BigFrame.wpList_want (by rfl) (fun K hK => ?_)
                go_simp
                with_reducible refine hK _ _ ?_
                clear hK K
                try simp only [Act.put, List.setIfInBounds_toArray, List.set_cons_zero, List.set_cons_succ]
                refine BigFrame.wpList_want (by rfl) (fun K hK => ?_)
                go_simp
                with_reducible refine hK _ _ ?_
                clear hK K
                try simp only [Act.put, List.setIfInBounds_toArray, List.set_cons_zero, List.set_cons_succ]
                refine wpList_plain rfl (fun K hK => ?_)
                go_simp
                with_reducible refine hK _ _ ?_
                clear hK K
                try simp only [Act.put, List.setIfInBounds_toArray, List.set_cons_zero, List.set_cons_succ]
                refine wpList_plain rfl (fun K hK => ?_)
                go_simp
                with_reducible refine hK _ _ ?_
                clear hK K
                try simp only [Act.put, List.setIfInBounds_toArray, List.set_cons_zero, List.set_cons_succ]
                refine BigFrame.wpList_want (by rfl) (fun K hK => ?_)
                go_simp
                with_reducible refine hK _ _ ?_
                clear hK K
                try simp only [Act.put, List.setIfInBounds_toArray, List.set_cons_zero, List.set_cons_succ]
                refine BigFrame.wpList_want (by rfl) (fun K hK => ?_)
                go_simp
                with_reducible refine hK _ _ ?_
                clear hK K
                try simp only [Act.put, List.setIfInBounds_toArray, List.set_cons_zero, List.set_cons_succ]
                refine BigFrame.wpList_want (by rfl) (fun K hK => ?_)
                go_simp
                with_reducible refine hK _ _ ?_
                clear hK K
                try simp only [Act.put, List.setIfInBounds_toArray, List.set_cons_zero, List.set_cons_succ]
                refine BigFrame.wpList_want (by rfl) (fun K hK => ?_)
                go_simp
                with_reducible refine hK _ _ ?_
                clear hK K
                try simp only [Act.put, List.setIfInBounds_toArray, List.set_cons_zero, List.set_cons_succ]
                refine BigFrame.wpList_want (by rfl) (fun K hK => ?_)
                go_simp
                with_reducible refine hK _ _ ?_
                clear hK K
                try simp only [Act.put, List.setIfInBounds_toArray, List.set_cons_zero, List.set_cons_succ]
                refine BigFrame.wpList_want (by rfl) (fun K hK => ?_)
                go_simp
                with_reducible refine hK _ _ ?_
                clear hK K
                try simp only [Act.put, List.setIfInBounds_toArray, List.set_cons_zero, List.set_cons_succ]
                refine BigFrame.wpList_want (by rfl) (fun K hK => ?_)
                go_simp
                with_reducible refine hK _ _ ?_
                clear hK K
                try simp only [Act.put, List.setIfInBounds_toArray, List.set_cons_zero, List.set_cons_succ]
                refine BigFrame.wpList_want (by rfl) (fun K hK => ?_)
                go_simp
                with_reducible refine hK _ _ ?_
                clear hK K
                try simp only [Act.put, List.setIfInBounds_toArray, List.set_cons_zero, List.set_cons_succ]
                refine BigFrame.wpList_want (by rfl) (fun K hK => ?_)
                go_simp
                with_reducible refine hK _ _ ?_
                clear hK K
                try simp only [Act.put, List.setIfInBounds_toArray, List.set_cons_zero, List.set_cons_succ]
                refine BigFrame.wpList_want (by rfl) (fun K hK => ?_)
                go_simp
                with_reducible refine hK _ _ ?_
                clear hK K
                try simp only [Act.put, List.setIfInBounds_toArray, List.set_cons_zero, List.set_cons_succ]
                refine BigFrame.wpList_want (by rfl) (fun K hK => ?_)
                go_simp
                with_reducible refine hK _ _ ?_
                clear hK K
                try simp only [Act.put, List.setIfInBounds_toArray, List.set_cons_zero, List.set_cons_succ]
                refine BigFrame.wpList_want (by rfl) (fun K hK => ?_)
                go_simp
                with_reducible refine hK _ _ ?_
                clear hK K
                try simp only [Act.put, List.setIfInBounds_toArray, List.set_cons_zero, List.set_cons_succ]
                refine BigFrame.wpList_want (by rfl) (fun K hK => ?_)
                go_simp
                with_reducible refine hK _ _ ?_
                clear hK K
                try simp only [Act.put, List.setIfInBounds_toArray, List.set_cons_zero, List.set_cons_succ]
                refine BigFrame.wpList_want (by rfl) (fun K hK => ?_)
                go_simp
                with_reducible refine hK _ _ ?_
                clear hK K
                try simp only [Act.put, List.setIfInBounds_toArray, List.set_cons_zero, List.set_cons_succ]
                refine BigFrame.wpList_want (by rfl) (fun K hK => ?_)
                go_simp
                with_reducible refine hK _ _ ?_
                clear hK K
                try simp only [Act.put, List.setIfInBounds_toArray, List.set_cons_zero, List.set_cons_succ]
                refine BigFrame.wpList_want (by rfl) (fun K hK => ?_)
                go_simp
                with_reducible refine hK _ _ ?_
                clear hK K
                try simp only [Act.put, List.setIfInBounds_toArray, List.set_cons_zero, List.set_cons_succ]
                refine BigFrame.wpList_want (by rfl) (fun K hK => ?_)
                go_simp
                with_reducible refine hK _ _ ?_
                clear hK K
                try simp only [Act.put, List.setIfInBounds_toArray, List.set_cons_zero, List.set_cons_succ]
                refine BigFrame.wpList_want (by rfl) (fun K hK => ?_)
                go_simp
                with_reducible refine hK _ _ ?_
                clear hK K
                try simp only [Act.put, List.setIfInBounds_toArray, List.set_cons_zero, List.set_cons_succ]
                refine BigFrame.wpList_want (by rfl) (fun K hK => ?_)
                go_simp
                with_reducible refine hK _ _ ?_
                clear hK K
                try simp only [Act.put, List.setIfInBounds_toArray, List.set_cons_zero, List.set_cons_succ]
                refine BigFrame.wpList_want (by rfl) (fun K hK => ?_)
                go_simp
                with_reducible refine hK _ _ ?_
                clear hK K
                try simp only [Act.put, List.setIfInBounds_toArray, List.set_cons_zero, List.set_cons_succ]
                refine wpList_plain rfl (fun K hK => ?_)
                go_simp
                with_reducible refine hK _ _ ?_
                clear hK K
                try simp only [Act.put, List.setIfInBounds_toArray, List.set_cons_zero, List.set_cons_succ]
                refine wpList_plain rfl (fun K hK => ?_)
                go_simp
                with_reducible refine hK _ _ ?_
                clear hK K
                try simp only [Act.put, List.setIfInBounds_toArray, List.set_cons_zero, List.set_cons_succ]
                refine BigFrame.wpList_want (by rfl) (fun K hK => ?_)
                go_simp
                with_reducible refine hK _ _ ?_
                clear hK K
                try simp only [Act.put, List.setIfInBounds_toArray, List.set_cons_zero, List.set_cons_succ]
                refine BigFrame.wpList_want (by rfl) (fun K hK => ?_)
                go_simp
                with_reducible refine hK _ _ ?_
                clear hK K
                try simp only [Act.put, List.setIfInBounds_toArray, List.set_cons_zero, List.set_cons_succ]
                refine BigFrame.wpList_want (by rfl) (fun K hK => ?_)
                go_simp
                with_reducible refine hK _ _ ?_
                clear hK K
                try simp only [Act.put, List.setIfInBounds_toArray, List.set_cons_zero, List.set_cons_succ]
                refine BigFrame.wpList_want (by rfl) (fun K hK => ?_)
                go_simp
                with_reducible refine hK _ _ ?_
                clear hK K
                try simp only [Act.put, List.setIfInBounds_toArray, List.set_cons_zero, List.set_cons_succ]
                refine BigFrame.wpList_want (by rfl) (fun K hK => ?_)
                go_simp
                with_reducible refine hK _ _ ?_
                clear hK K
                try simp only [Act.put, List.setIfInBounds_toArray, List.set_cons_zero, List.set_cons_succ]
                refine BigFrame.wpList_want (by rfl) (fun K hK => ?_)
                go_simp
                with_reducible refine hK _ _ ?_
                clear hK K
                try simp only [Act.put, List.setIfInBounds_toArray, List.set_cons_zero, List.set_cons_succ]
                refine BigFrame.wpList_want (by rfl) (fun K hK => ?_)
                go_simp
                with_reducible refine hK _ _ ?_
                clear hK K
                try simp only [Act.put, List.setIfInBounds_toArray, List.set_cons_zero, List.set_cons_succ]
                with_reducible refine wpList_skip (by kernel_rfl) ?_
                try simp only [Act.put, List.setIfInBounds_toArray, List.set_cons_zero, List.set_cons_succ]
                with_reducible refine wpList_skip (by kernel_rfl) ?_
                try simp only [Act.put, List.setIfInBounds_toArray, List.set_cons_zero, List.set_cons_succ]
                with_reducible refine wpList_skip (by kernel_rfl) ?_
                try simp only [Act.put, List.setIfInBounds_toArray, List.set_cons_zero, List.set_cons_succ]
                with_reducible refine wpList_skip (by kernel_rfl) ?_
                try simp only [Act.put, List.setIfInBounds_toArray, List.set_cons_zero, List.set_cons_succ]
                refine BigFrame.wpList_want (by rfl) (fun K hK => ?_)
                go_simp
                with_reducible refine hK _ _ ?_
                clear hK K
                try simp only [Act.put, List.setIfInBounds_toArray, List.set_cons_zero, List.set_cons_succ]
                refine wpList_plain rfl (fun K hK => ?_)
                go_simp
                with_reducible refine hK _ _ ?_
                clear hK K
                try simp only [Act.put, List.setIfInBounds_toArray, List.set_cons_zero, List.set_cons_succ]
                clear c0 c1 c2 c3
                go_wp2_with fail
                go_meet
                case rel => exact ⟨rfl, B0, B1, B2, B3, BJ, BW, M, G⟩
            · obtain ⟨rfl, rfl⟩ := f1.out rfl
              have eac := f3.out rfl rfl
              subst eac
              refine wp_region_lit ?_
              refine wpList_plain rfl (fun K hK => ?_)
              go_simp
              with_reducible refine hK _ _ ?_
              clear hK K
              try simp only [Act.put, List.setIfInBounds_toArray, List.set_cons_zero, List.set_cons_succ]
              refine wpList_plain rfl (fun K hK => ?_)
              go_simp
              with_reducible refine hK _ _ ?_
              clear hK K
              try simp only [Act.put, List.setIfInBounds_toArray, List.set_cons_zero, List.set_cons_succ]
              refine wpList_plain rfl (fun K hK => ?_)
              go_simp
              with_reducible refine hK _ _ ?_
              clear hK K
              try simp only [Act.put, List.setIfInBounds_toArray, List.set_cons_zero, List.set_cons_succ]
              refine BigFrame.wpList_want (by rfl) (fun K hK => ?_)
              go_simp
              with_reducible refine hK _ _ ?_
              clear hK K
              try simp only [Act.put, List.setIfInBounds_toArray, List.set_cons_zero, List.set_cons_succ]
              refine BigFrame.wpList_want (by rfl) (fun K hK => ?_)
              go_simp
              with_reducible refine hK _ _ ?_
              clear hK K
              try simp only [Act.put, List.setIfInBounds_toArray, List.set_cons_zero, List.set_cons_succ]
              refine BigFrame.wpList_want (by rfl) (fun K hK => ?_)
              go_simp
              with_reducible refine hK _ _ ?_
              clear hK K
              try simp only [Act.put, List.setIfInBounds_toArray, List.set_cons_zero, List.set_cons_succ]
              refine BigFrame.wpList_want (by rfl) (fun K hK => ?_)
              go_simp
              with_reducible refine hK _ _ ?_
              clear hK K
              try simp only [Act.put, List.setIfInBounds_toArray, List.set_cons_zero, List.set_cons_succ]
              refine BigFrame.wpList_want (by rfl) (fun K hK => ?_)
              go_simp
              with_reducible refine hK _ _ ?_
              clear hK K
              try simp only [Act.put, List.setIfInBounds_toArray, List.set_cons_zero, List.set_cons_succ]
              refine BigFrame.wpList_want (by rfl) (fun K hK => ?_)
              go_simp
              with_reducible refine hK _ _ ?_
              clear hK K
              try simp only [Act.put, List.setIfInBounds_toArray, List.set_cons_zero, List.set_cons_succ]
              refine wpList_plain rfl (fun K hK => ?_)
              go_simp
              with_reducible refine hK _ _ ?_
              clear hK K
              try simp only [Act.put, List.setIfInBounds_toArray, List.set_cons_zero, List.set_cons_succ]
              refine wpList_plain rfl (fun K hK => ?_)
              go_simp
              with_reducible refine hK _ _ ?_
              clear hK K
              try simp only [Act.put, List.setIfInBounds_toArray, List.set_cons_zero, List.set_cons_succ]
              refine BigFrame.wpList_want (by rfl) (fun K hK => ?_)
              go_simp
              with_reducible refine hK _ _ ?_
              clear hK K
              try simp only [Act.put, List.setIfInBounds_toArray, List.set_cons_zero, List.set_cons_succ]
              refine BigFrame.wpList_want (by rfl) (fun K hK => ?_)
              go_simp
              with_reducible refine hK _ _ ?_
              clear hK K
              try simp only [Act.put, List.setIfInBounds_toArray, List.set_cons_zero, List.set_cons_succ]
              refine wpList_plain rfl (fun K hK => ?_)
              go_simp
              with_reducible refine hK _ _ ?_
              clear hK K
              try simp only [Act.put, List.setIfInBounds_toArray, List.set_cons_zero, List.set_cons_succ]
              refine wpList_plain rfl (fun K hK => ?_)
              go_simp
              with_reducible refine hK _ _ ?_
              clear hK K
              try simp only [Act.put, List.setIfInBounds_toArray, List.set_cons_zero, List.set_cons_succ]
              refine BigFrame.wpList_want (by rfl) (fun K hK => ?_)
              go_simp
              with_reducible refine hK _ _ ?_
              clear hK K
              try simp only [Act.put, List.setIfInBounds_toArray, List.set_cons_zero, List.set_cons_succ]
              refine BigFrame.wpList_want (by rfl) (fun K hK => ?_)
              go_simp
              with_reducible refine hK _ _ ?_
              clear hK K
              try simp only [Act.put, List.setIfInBounds_toArray, List.set_cons_zero, List.set_cons_succ]
              refine wpList_plain rfl (fun K hK => ?_)
              go_simp
              with_reducible refine hK _ _ ?_
              clear hK K
              try simp only [Act.put, List.setIfInBounds_toArray, List.set_cons_zero, List.set_cons_succ]
              refine wpList_plain rfl (fun K hK => ?_)
              go_simp
              with_reducible refine hK _ _ ?_
              clear hK K
              try simp only [Act.put, List.setIfInBounds_toArray, List.set_cons_zero, List.set_cons_succ]
              refine BigFrame.wpList_want (by rfl) (fun K hK => ?_)
              go_simp
              with_reducible refine hK _ _ ?_
              clear hK K
              try simp only [Act.put, List.setIfInBounds_toArray, List.set_cons_zero, List.set_cons_succ]
              refine BigFrame.wpList_want (by rfl) (fun K hK => ?_)
              go_simp
              with_reducible refine hK _ _ ?_
              clear hK K
              try simp only [Act.put, List.setIfInBounds_toArray, List.set_cons_zero, List.set_cons_succ]
              refine wpList_plain rfl (fun K hK => ?_)
              go_simp
              with_reducible refine hK _ _ ?_
              clear hK K
              try simp only [Act.put, List.setIfInBounds_toArray, List.set_cons_zero, List.set_cons_succ]
              refine wpList_plain rfl (fun K hK => ?_)
              go_simp
              with_reducible refine hK _ _ ?_
              clear hK K
              try simp only [Act.put, List.setIfInBounds_toArray, List.set_cons_zero, List.set_cons_succ]
              refine BigFrame.wpList_want (by rfl) (fun K hK => ?_)
              go_simp
              with_reducible refine hK _ _ ?_
              clear hK K
              try simp only [Act.put, List.setIfInBounds_toArray, List.set_cons_zero, List.set_cons_succ]
              refine BigFrame.wpList_want (by rfl) (fun K hK => ?_)
              go_simp
              with_reducible refine hK _ _ ?_
              clear hK K
              try simp only [Act.put, List.setIfInBounds_toArray, List.set_cons_zero, List.set_cons_succ]
              refine BigFrame.wpList_want (by rfl) (fun K hK => ?_)
              go_simp
              with_reducible refine hK _ _ ?_
              clear hK K
              try simp only [Act.put, List.setIfInBounds_toArray, List.set_cons_zero, List.set_cons_succ]
              refine BigFrame.wpList_want (by rfl) (fun K hK => ?_)
              go_simp
              with_reducible refine hK _ _ ?_
              clear hK K
              try simp only [Act.put, List.setIfInBounds_toArray, List.set_cons_zero, List.set_cons_succ]
              with_reducible refine wpList_skip (by kernel_rfl) ?_
              try simp only [Act.put, List.setIfInBounds_toArray, List.set_cons_zero, List.set_cons_succ]
              with_reducible refine wpList_skip (by kernel_rfl) ?_
              try simp only [Act.put, List.setIfInBounds_toArray, List.set_cons_zero, List.set_cons_succ]
              with_reducible refine wpList_skip (by kernel_rfl) ?_
              try simp only [Act.put, List.setIfInBounds_toArray, List.set_cons_zero, List.set_cons_succ]
              refine BigFrame.wpList_want (by rfl) (fun K hK => ?_)
              go_simp
              with_reducible refine hK _ _ ?_
              clear hK K
              try simp only [Act.put, List.setIfInBounds_toArray, List.set_cons_zero, List.set_cons_succ]
              refine BigFrame.wpList_want (by rfl) (fun K hK => ?_)
              go_simp
              with_reducible refine hK _ _ ?_
              clear hK K
              try simp only [Act.put, List.setIfInBounds_toArray, List.set_cons_zero, List.set_cons_succ]
              refine BigFrame.wpList_want (by rfl) (fun K hK => ?_)
              go_simp
              with_reducible refine hK _ _ ?_
              clear hK K
              try simp only [Act.put, List.setIfInBounds_toArray, List.set_cons_zero, List.set_cons_succ]
              refine BigFrame.wpList_want (by rfl) (fun K hK => ?_)
              go_simp
              with_reducible refine hK _ _ ?_
              clear hK K
              try simp only [Act.put, List.setIfInBounds_toArray, List.set_cons_zero, List.set_cons_succ]
              refine BigFrame.wpList_want (by rfl) (fun K hK => ?_)
              go_simp
              with_reducible refine hK _ _ ?_
              clear hK K
              try simp only [Act.put, List.setIfInBounds_toArray, List.set_cons_zero, List.set_cons_succ]
              refine BigFrame.wpList_want (by rfl) (fun K hK => ?_)
              go_simp
              with_reducible refine hK _ _ ?_
              clear hK K
              try simp only [Act.put, List.setIfInBounds_toArray, List.set_cons_zero, List.set_cons_succ]
              refine BigFrame.wpList_want (by rfl) (fun K hK => ?_)
              go_simp
              with_reducible refine hK _ _ ?_
              clear hK K
              try simp only [Act.put, List.setIfInBounds_toArray, List.set_cons_zero, List.set_cons_succ]
              refine BigFrame.wpList_want (by rfl) (fun K hK => ?_)
              go_simp
              with_reducible refine hK _ _ ?_
              clear hK K
              try simp only [Act.put, List.setIfInBounds_toArray, List.set_cons_zero, List.set_cons_succ]
              refine BigFrame.wpList_want (by rfl) (fun K hK => ?_)
              go_simp
              with_reducible refine hK _ _ ?_
              clear hK K
              try simp only [Act.put, List.setIfInBounds_toArray, List.set_cons_zero, List.set_cons_succ]
              refine BigFrame.wpList_want (by rfl) (fun K hK => ?_)
              go_simp
              with_reducible refine hK _ _ ?_
              clear hK K
              try simp only [Act.put, List.setIfInBounds_toArray, List.set_cons_zero, List.set_cons_succ]
              refine BigFrame.wpList_want (by rfl) (fun K hK => ?_)
              go_simp
              with_reducible refine hK _ _ ?_
              clear hK K
              try simp only [Act.put, List.setIfInBounds_toArray, List.set_cons_zero, List.set_cons_succ]
              refine BigFrame.wpList_want (by rfl) (fun K hK => ?_)
              go_simp
              with_reducible refine hK _ _ ?_
              clear hK K
              try simp only [Act.put, List.setIfInBounds_toArray, List.set_cons_zero, List.set_cons_succ]
              refine BigFrame.wpList_want (by rfl) (fun K hK => ?_)
              go_simp
              with_reducible refine hK _ _ ?_
              clear hK K
              try simp only [Act.put, List.setIfInBounds_toArray, List.set_cons_zero, List.set_cons_succ]
              refine wpList_plain rfl (fun K hK => ?_)
              go_simp
              with_reducible refine hK _ _ ?_
              clear hK K
              try simp only [Act.put, List.setIfInBounds_toArray, List.set_cons_zero, List.set_cons_succ]
              refine wpList_plain rfl (fun K hK => ?_)
              go_simp
              with_reducible refine hK _ _ ?_
              clear hK K
              try simp only [Act.put, List.setIfInBounds_toArray, List.set_cons_zero, List.set_cons_succ]
              refine BigFrame.wpList_want (by rfl) (fun K hK => ?_)
              go_simp
              with_reducible refine hK _ _ ?_
              clear hK K
              try simp only [Act.put, List.setIfInBounds_toArray, List.set_cons_zero, List.set_cons_succ]
              refine BigFrame.wpList_want (by rfl) (fun K hK => ?_)
              go_simp
              with_reducible refine hK _ _ ?_
              clear hK K
              try simp only [Act.put, List.setIfInBounds_toArray, List.set_cons_zero, List.set_cons_succ]
              refine BigFrame.wpList_want (by rfl) (fun K hK => ?_)
              go_simp
              with_reducible refine hK _ _ ?_
              clear hK K
              try simp only [Act.put, List.setIfInBounds_toArray, List.set_cons_zero, List.set_cons_succ]
              refine BigFrame.wpList_want (by rfl) (fun K hK => ?_)
              go_simp
              with_reducible refine hK _ _ ?_
              clear hK K
              try simp only [Act.put, List.setIfInBounds_toArray, List.set_cons_zero, List.set_cons_succ]
              refine BigFrame.wpList_want (by rfl) (fun K hK => ?_)
              go_simp
              with_reducible refine hK _ _ ?_
              clear hK K
              try simp only [Act.put, List.setIfInBounds_toArray, List.set_cons_zero, List.set_cons_succ]
              refine BigFrame.wpList_want (by rfl) (fun K hK => ?_)
              go_simp
              with_reducible refine hK _ _ ?_
              clear hK K
              try simp only [Act.put, List.setIfInBounds_toArray, List.set_cons_zero, List.set_cons_succ]
              refine BigFrame.wpList_want (by rfl) (fun K hK => ?_)
              go_simp
              with_reducible refine hK _ _ ?_
              clear hK K
              try simp only [Act.put, List.setIfInBounds_toArray, List.set_cons_zero, List.set_cons_succ]
              refine BigFrame.wpList_want (by rfl) (fun K hK => ?_)
              refine wp_load_mid _ _ rfl _ 0 rfl (stV sc) _ B2.out.range Try.underlying47 rfl (info_sv _) (hK _ _ ?_)
              clear hK K
              try simp only [Act.put, List.setIfInBounds_toArray, List.set_cons_zero, List.set_cons_succ]
              refine BigFrame.wpList_want (by rfl) (fun K hK => ?_)
              refine wp_load_mid _ _ rfl _ 0 rfl (rowV [] Vv.vals V) _ B3.out.range Try.underlying48 rfl lV.out (hK _ _ ?_)
              clear hK K
              try simp only [Act.put, List.setIfInBounds_toArray, List.set_cons_zero, List.set_cons_succ]
              refine BigFrame.wpList_want (by rfl) (fun K hK => ?_)
              go_simp
              (go_at_call 17; refine (h8.out _).mono ?_; rintro x wq ⟨rfl, q9⟩; replace q9 := T.Hid.mk q9)
              with_reducible refine hK _ _ ?_
              clear hK K
              try simp only [Act.put, List.setIfInBounds_toArray, List.set_cons_zero, List.set_cons_succ]
              refine BigFrame.wpList_want (by rfl) (fun K hK => ?_)
              go_simp
              with_reducible refine hK _ _ ?_
              clear hK K
              try simp only [Act.put, List.setIfInBounds_toArray, List.set_cons_zero, List.set_cons_succ]
              refine BigFrame.wpList_want (by rfl) (fun K hK => ?_)
              go_simp
              with_reducible refine hK _ _ ?_
              clear hK K
              try simp only [Act.put, List.setIfInBounds_toArray, List.set_cons_zero, List.set_cons_succ]
              refine wpList_plain rfl (fun K hK => ?_)
              go_simp
              with_reducible refine hK _ _ ?_
              clear hK K
              try simp only [Act.put, List.setIfInBounds_toArray, List.set_cons_zero, List.set_cons_succ]
              clear c0 c1 c2 c3
              replace G := T.Hid.mk (Below.gr G.out (Nat.le_of_lt (B0.out.1)) q9.out)
              replace B0 := T.Hid.mk (B0.out.gr q9.out)
              replace B1 := T.Hid.mk (B1.out.gr q9.out)
              replace B2 := T.Hid.mk (B2.out.gr q9.out)
              replace B3 := T.Hid.mk (B3.out.gr q9.out)
              replace BJ := T.Hid.mk (BJ.out.gr q9.out)
              replace BW := T.Hid.mk (BW.out.gr q9.out)
              replace M := T.Hid.mk (M.out.gr q9.out)
              clear q9
              go_wp2_with fail
              go_meet
              case rel => exact ⟨rfl, B0, B1, B2, B3, BJ, BW, M, G⟩
      case rest =>
        clear B0 B1 B2 B3 BJ BW M G c0 c1 c2 c3 f1 f2 f3 h8
        obtain ⟨rfl, B0, B1, B2, B3, BJ, BW, M, G⟩ := hcut
        go_upto_region 19 with fail
        have rT : T.Hid (wc.rangeAt w.heap.size 1 (rowV [] RT.vals A)) := T.Hid.mk (At.tailRow (v := .bool la) (by rw [esa.out]; exact B0.out))
        have hlA : (rowV [] RT.vals A).length = 192 := by rw [row_len rt_len, hA]; rfl
        have hlz : (stV sz).length = 193 := stV_len _
        have hdb' : List.foldl (fun cs x => cs.setIfInBounds (1 + x.snd) x.fst) (stV sz).toArray (rowV [] RT.vals A).zipIdx = (stV sd).toArray := by rw [← z47]; exact hdb.out
        go_upto_region 19 with fail
        refine wp_region_lit ?_
        refine wpList_plain rfl (fun K hK => ?_)
        go_simp
        with_reducible refine hK _ _ ?_
        clear hK K
        try simp only [Act.put, List.setIfInBounds_toArray, List.set_cons_zero, List.set_cons_succ]
        refine wpList_plain rfl (fun K hK => ?_)
        refine wp_load_mid _ _ rfl _ 1 rfl (rowV [] RT.vals A) _ rT.out Try.underlying45 rfl (by rw [row_len rt_len, hA]; exact info45) (hK _ _ ?_)
        clear hK K
        try simp only [Act.put, List.setIfInBounds_toArray, List.set_cons_zero, List.set_cons_succ]
        refine wpList_plain rfl (fun K hK => ?_)
        go_simp
        with_reducible refine hK _ _ ?_
        clear hK K
        try simp only [Act.put, List.setIfInBounds_toArray, List.set_cons_zero, List.set_cons_succ]
        refine wpList_plain rfl (fun K hK => ?_)
        go_simp
        with_reducible refine hK _ _ ?_
        clear hK K
        try simp only [Act.put, List.setIfInBounds_toArray, List.set_cons_zero, List.set_cons_succ]
        have b4 : T.Hid (At (wc.alloc (.cells (stV sz).toArray 47)) wc.heap.size (stV sz).toArray) := T.Hid.mk (At.new _ _ _)
        refine wpList_plain rfl (fun K hK => ?_)
        refine wp_store_mid _ _ _ rfl _ _ (List.toArray (stV sd)) rfl rfl (by first | (rw [z47]; exact b4.out.there 0 _ (by have a9 := stV_len sz; have b9 := stV_len sd; simp only [List.size_toArray]; omega)) | exact b4.out.there 0 _ (by have a9 := stV_len sz; have b9 := stV_len sd; simp only [List.size_toArray]; omega)) (by rw [List.size_toArray]; exact info_sv _) (all_oneCell_toArray (one_sv _)) (hK _ _ ?_)
        clear hK K
        try simp only [Act.put]
        try rw [z47]
        have BD := T.Hid.mk (b4.out.setAll (stV sd) ((stV_len _).trans (stV_len _).symm))
        replace G := T.Hid.mk (Below.gr G.out (Nat.le_of_lt (B0.out).1) (((Gr.refl _).alloc (.cells (stV sz).toArray 47)).setCells wc.heap.size (Nat.le_refl _) (stV sd) 0))
        replace B0 := T.Hid.mk (((B0.out).alloc (.cells (stV sz).toArray 47)).other (b' := wc.heap.size) (Nat.ne_of_lt (B0.out).1) 0 (stV sd))
        replace B1 := T.Hid.mk (((B1.out).alloc (.cells (stV sz).toArray 47)).other (b' := wc.heap.size) (Nat.ne_of_lt (B1.out).1) 0 (stV sd))
        replace B2 := T.Hid.mk (((B2.out).alloc (.cells (stV sz).toArray 47)).other (b' := wc.heap.size) (Nat.ne_of_lt (B2.out).1) 0 (stV sd))
        replace B3 := T.Hid.mk (((B3.out).alloc (.cells (stV sz).toArray 47)).other (b' := wc.heap.size) (Nat.ne_of_lt (B3.out).1) 0 (stV sd))
        replace BJ := T.Hid.mk (((BJ.out).alloc (.cells (stV sz).toArray 47)).other (b' := wc.heap.size) (Nat.ne_of_lt (BJ.out).1) 0 (stV sd))
        replace BW := T.Hid.mk (((BW.out).alloc (.cells (stV sz).toArray 47)).other (b' := wc.heap.size) (Nat.ne_of_lt (BW.out).1) 0 (stV sd))
        replace M := T.Hid.mk (M.out.gr (((Gr.refl _).alloc (.cells (stV sz).toArray 47)).setCells wc.heap.size (Nat.le_refl _) (stV sd) 0))
        clear b4 rT hdb hdb' hlA hlz
        generalize World.setCells _ _ _ _ = X7 at *
        generalize wc.heap.size = kd at *
        go_upto_region 20 with fail
        refine wp_region_lit ?_
        refine wpList_plain rfl (fun K hK => ?_)
        refine wp_load_mid _ _ rfl _ 0 rfl (stV sd) _ BD.out.range Try.underlying47 rfl (info_sv _) (hK _ _ ?_)
        clear hK K
        try simp only [Act.put, List.setIfInBounds_toArray, List.set_cons_zero, List.set_cons_succ]
        refine wpList_plain rfl (fun K hK => ?_)
        refine wp_load_mid _ _ rfl _ 0 rfl (rowV [] Vv.vals V) _ B3.out.range Try.underlying48 rfl lV.out (hK _ _ ?_)
        clear hK K
        try simp only [Act.put, List.setIfInBounds_toArray, List.set_cons_zero, List.set_cons_succ]
        refine wpList_plain rfl (fun K hK => ?_)
        go_simp
        (go_at_call 17; refine (h9.out _).mono ?_; rintro x wq ⟨rfl, q9⟩; replace q9 := T.Hid.mk q9)
        with_reducible refine hK _ _ ?_
        clear hK K
        try simp only [Act.put, List.setIfInBounds_toArray, List.set_cons_zero, List.set_cons_succ]
        refine wpList_plain rfl (fun K hK => ?_)
        go_simp
        with_reducible refine hK _ _ ?_
        clear hK K
        try simp only [Act.put, List.setIfInBounds_toArray, List.set_cons_zero, List.set_cons_succ]
        replace G := T.Hid.mk (Below.gr G.out (Nat.le_of_lt (B0.out.1)) q9.out)
        replace B0 := T.Hid.mk (B0.out.gr q9.out)
        replace B1 := T.Hid.mk (B1.out.gr q9.out)
        replace B2 := T.Hid.mk (B2.out.gr q9.out)
        replace B3 := T.Hid.mk (B3.out.gr q9.out)
        replace BJ := T.Hid.mk (BJ.out.gr q9.out)
        replace BW := T.Hid.mk (BW.out.gr q9.out)
        replace BD := T.Hid.mk (BD.out.gr q9.out)
        replace M := T.Hid.mk (M.out.gr q9.out)
        clear q9 h9
        generalize wq = X8 at *
        go_upto_region 21 with fail
        refine wp_region_lit ?_
        refine wpList_plain rfl (fun K hK => ?_)
        refine wp_load_mid _ _ rfl _ 0 rfl (stV sd) _ BD.out.range Try.underlying47 rfl (info_sv _) (hK _ _ ?_)
        clear hK K
        try simp only [Act.put, List.setIfInBounds_toArray, List.set_cons_zero, List.set_cons_succ]
        refine wpList_plain rfl (fun K hK => ?_)
        refine wp_load_mid _ _ rfl _ 0 rfl (stV sb) _ B1.out.range Try.underlying47 rfl (info_sv _) (hK _ _ ?_)
        clear hK K
        try simp only [Act.put, List.setIfInBounds_toArray, List.set_cons_zero, List.set_cons_succ]
        refine wpList_plain rfl (fun K hK => ?_)
        go_simp
        (go_at_call 16; refine (h10.out _).mono ?_; rintro x wq ⟨rfl, q9⟩; replace q9 := T.Hid.mk q9)
        with_reducible refine hK _ _ ?_
        clear hK K
        try simp only [Act.put, List.setIfInBounds_toArray, List.set_cons_zero, List.set_cons_succ]
        refine wpList_plain rfl (fun K hK => ?_)
        go_simp
        with_reducible refine hK _ _ ?_
        clear hK K
        try simp only [Act.put, List.setIfInBounds_toArray, List.set_cons_zero, List.set_cons_succ]
        replace G := T.Hid.mk (Below.gr G.out (Nat.le_of_lt (B0.out.1)) q9.out)
        replace B0 := T.Hid.mk (B0.out.gr q9.out)
        replace B1 := T.Hid.mk (B1.out.gr q9.out)
        replace B2 := T.Hid.mk (B2.out.gr q9.out)
        replace B3 := T.Hid.mk (B3.out.gr q9.out)
        replace BJ := T.Hid.mk (BJ.out.gr q9.out)
        replace BW := T.Hid.mk (BW.out.gr q9.out)
        replace BD := T.Hid.mk (BD.out.gr q9.out)
        replace M := T.Hid.mk (M.out.gr q9.out)
        clear q9 h10
        generalize wq = X9 at *
        go_upto_region 22 with fail
        refine wp_region_lit ?_
        refine wpList_plain rfl (fun K hK => ?_)
        refine wp_load_mid _ _ rfl _ 0 rfl (stV sd) _ BD.out.range Try.underlying47 rfl (info_sv _) (hK _ _ ?_)
        clear hK K
        try simp only [Act.put, List.setIfInBounds_toArray, List.set_cons_zero, List.set_cons_succ]
        refine wpList_plain rfl (fun K hK => ?_)
        refine wp_load_mid _ _ rfl _ 0 rfl (stV sd) _ BD.out.range Try.underlying47 rfl (info_sv _) (hK _ _ ?_)
        clear hK K
        try simp only [Act.put, List.setIfInBounds_toArray, List.set_cons_zero, List.set_cons_succ]
        refine wpList_plain rfl (fun K hK => ?_)
        go_simp
        (go_at_call 14; refine (h11.out _).mono ?_; rintro x wq ⟨rfl, q9⟩; replace q9 := T.Hid.mk q9)
        with_reducible refine hK _ _ ?_
        clear hK K
        try simp only [Act.put, List.setIfInBounds_toArray, List.set_cons_zero, List.set_cons_succ]
        refine wpList_plain rfl (fun K hK => ?_)
        go_simp
        with_reducible refine hK _ _ ?_
        clear hK K
        try simp only [Act.put, List.setIfInBounds_toArray, List.set_cons_zero, List.set_cons_succ]
        have b4 : T.Hid (At (wq.alloc (.cells (stV sz).toArray 47)) wq.heap.size (stV sz).toArray) := T.Hid.mk (At.new _ _ _)
        refine wpList_plain rfl (fun K hK => ?_)
        refine wp_store_mid _ _ _ rfl _ _ (List.toArray (stV sz)) rfl rfl (by first | (rw [z47]; exact b4.out.there 0 _ (by have a9 := stV_len sz; have b9 := stV_len sz; simp only [List.size_toArray]; omega)) | exact b4.out.there 0 _ (by have a9 := stV_len sz; have b9 := stV_len sz; simp only [List.size_toArray]; omega)) (by rw [List.size_toArray]; exact info_sv _) (all_oneCell_toArray (one_sv _)) (hK _ _ ?_)
        clear hK K
        try simp only [Act.put]
        try rw [z47]
        have BZ := T.Hid.mk (b4.out.setAll (stV sz) ((stV_len _).trans (stV_len _).symm))
        replace G := T.Hid.mk (Below.gr (Below.gr G.out (Nat.le_of_lt (B0.out.1)) q9.out) (Nat.le_of_lt ((B0.out.gr q9.out)).1) (((Gr.refl _).alloc (.cells (stV sz).toArray 47)).setCells wq.heap.size (Nat.le_refl _) (stV sz) 0))
        replace B0 := T.Hid.mk ((((B0.out.gr q9.out)).alloc (.cells (stV sz).toArray 47)).other (b' := wq.heap.size) (Nat.ne_of_lt ((B0.out.gr q9.out)).1) 0 (stV sz))
        replace B1 := T.Hid.mk ((((B1.out.gr q9.out)).alloc (.cells (stV sz).toArray 47)).other (b' := wq.heap.size) (Nat.ne_of_lt ((B1.out.gr q9.out)).1) 0 (stV sz))
        replace B2 := T.Hid.mk ((((B2.out.gr q9.out)).alloc (.cells (stV sz).toArray 47)).other (b' := wq.heap.size) (Nat.ne_of_lt ((B2.out.gr q9.out)).1) 0 (stV sz))
        replace B3 := T.Hid.mk ((((B3.out.gr q9.out)).alloc (.cells (stV sz).toArray 47)).other (b' := wq.heap.size) (Nat.ne_of_lt ((B3.out.gr q9.out)).1) 0 (stV sz))
        replace BJ := T.Hid.mk ((((BJ.out.gr q9.out)).alloc (.cells (stV sz).toArray 47)).other (b' := wq.heap.size) (Nat.ne_of_lt ((BJ.out.gr q9.out)).1) 0 (stV sz))
        replace BW := T.Hid.mk ((((BW.out.gr q9.out)).alloc (.cells (stV sz).toArray 47)).other (b' := wq.heap.size) (Nat.ne_of_lt ((BW.out.gr q9.out)).1) 0 (stV sz))
        replace BD := T.Hid.mk ((((BD.out.gr q9.out)).alloc (.cells (stV sz).toArray 47)).other (b' := wq.heap.size) (Nat.ne_of_lt ((BD.out.gr q9.out)).1) 0 (stV sz))
        replace M := T.Hid.mk ((M.out.gr q9.out).gr (((Gr.refl _).alloc (.cells (stV sz).toArray 47)).setCells wq.heap.size (Nat.le_refl _) (stV sz) 0))
        clear q9 b4
        generalize World.setCells _ _ _ _ = X10 at *
        generalize wq.heap.size = kz at *
        clear h11
        go_upto_region 24 with fail
        clear B1 B2 BJ BW BD
        replace B0 := T.Hid.mk (show At X10 w.heap.size (rowV [.bool la] RT.vals A).toArray by rw [esa.out]; exact B0.out)
        clear esa
        go_loopw [26] (fun i wr => ∃ k : Nat, i = .int .i64 k ∧ k ≤ 16 ∧ T.Hid (At wr w.heap.size (rowV [.bool la] RT.vals A).toArray) ∧ T.Hid (At wr (w.heap.size + 1 + 1 + 1) (rowV [] Vv.vals V).toArray) ∧ T.Hid (At wr kz (stV sz).toArray) ∧ T.Hid (MayIn wr g [m0, m1, m2, m3]) ∧ T.Hid (Below w.heap.size w wr)) (fun i _ => 16 - (intOf i).toNat)
        case atStart => exact ⟨0, rfl, by omega, B0, B3, BZ, M, G⟩
        case round =>
          clear B0 B3 BZ M G
          obtain ⟨k, rfl, hk, B0, B3, BZ, M, G⟩ := hrel
          by_cases hlt : k < 16
          · have ha : k < A.length := by omega
            have hv : k < V.length := by omega
            have k1 : (k : Int) < 16 := by omega
            have h12 := T.Hid.mk (fun W => hHas.out k ha hv W)
            have f5 := T.Hid.mk (fun h => f4.out h k ha hv)
            have rA := T.Hid.mk (fun (W : World) (q : Gr wr W) => (B0.out.gr q).elem (pre := [.bool la]) rt_len k ha (1 + k * 12) (by simp))
            have rV := T.Hid.mk (fun (W : World) (q : Gr wr W) => (B3.out.gr q).elem (pre := []) vv_len k hv (k * 7) (by simp))
            generalize H9 A[k] V[k] = u at *
            generalize A[k] = ak at *
            generalize V[k] = vk at *
            go_upto_region 26 with fail
            have KS : T.Hid (∀ W, Gr wr W → W.rangeAt w.heap.size (1 + k * 12) (RT.vals ak) ∧ W.rangeAt (w.heap.size + 1 + 1 + 1) (k * 7) (Vv.vals vk)) := T.Hid.mk (fun W g => ⟨rA.out W g, rV.out W g⟩)
            have d1 : Gr wr wr.drew := (Gr.refl _).drew
            refine wp_region_held_drew (S := (fun W => W.rangeAt w.heap.size (1 + k * 12) (RT.vals ak) ∧ W.rangeAt (w.heap.size + 1 + 1 + 1) (k * 7) (Vv.vals vk))) (by kernel_rfl) (KS.out _ d1) (fun hHeld => ?_)
            refine wpAnyH_take (i := 0) (oi := { dst := some 148, op := Op.move (Operand.tmp 26), type := 3, pos := "order.go:162", after := #[], guard := none }) (v := ?_) rfl (by kernel_rfl) (by kernel_rfl) (by kernel_rfl) (fun _ _ _ h => h) (Or.inl ⟨by rfl, ?_⟩) (by assumption) ?_
            rotate_left
            · intro w hSw; (try dsimp only at hSw); go_simp; first | done | with_reducible rfl
            try simp only [Act.put, List.setIfInBounds_toArray, List.set_cons_zero, List.set_cons_succ]
            refine wpAnyH_take (i := 1) (oi := { dst := some 149, op := Op.fieldAddr 47 (Operand.tmp 4) 1, type := 0, pos := "order.go:162", after := #[], guard := none }) (v := ?_) rfl (by kernel_rfl) (by kernel_rfl) (by kernel_rfl) (fun _ _ _ h => h) (Or.inl ⟨by rfl, ?_⟩) (by assumption) ?_
            rotate_left
            · intro w hSw; (try dsimp only at hSw); go_simp; first | done | with_reducible rfl
            try simp only [Act.put, List.setIfInBounds_toArray, List.set_cons_zero, List.set_cons_succ]
            refine wpAnyH_take (i := 2) (oi := { dst := some 150, op := Op.indexAddr 45 (Operand.tmp 149) (Operand.tmp 148), type := 0, pos := "order.go:162", after := #[{ on := 1, ground := Ground.data }, { on := 0, ground := Ground.data }], guard := none }) (v := ?_) rfl (by kernel_rfl) (by kernel_rfl) (by kernel_rfl) (fun _ _ _ h => h) (Or.inl ⟨by rfl, ?_⟩) (by assumption) ?_
            rotate_left
            · intro w hSw; (try dsimp only at hSw); go_simp; first | done | with_reducible rfl
            try simp only [Act.put, List.setIfInBounds_toArray, List.set_cons_zero, List.set_cons_succ]
            refine wpAnyH_take (i := 3) (oi := { dst := some 151, op := Op.load 28 (Operand.tmp 150), type := 28, pos := "order.go:162", after := #[{ on := 2, ground := Ground.data }], guard := none }) (v := _) rfl (by kernel_rfl) (by kernel_rfl) (by kernel_rfl) (fun _ _ _ h => h) (yieldsIf_load_mid (by rfl) _ _ rfl _ _ rfl _ _ (fun _ h => h.1) Try.underlying28 rfl info28) (by assumption) ?_
            try simp only [Act.put, List.setIfInBounds_toArray, List.set_cons_zero, List.set_cons_succ]
            refine wpAnyH_take (i := 4) (oi := { dst := some 152, op := Op.move (Operand.tmp 26), type := 3, pos := "order.go:162", after := #[], guard := none }) (v := ?_) rfl (by kernel_rfl) (by kernel_rfl) (by kernel_rfl) (fun _ _ _ h => h) (Or.inl ⟨by rfl, ?_⟩) (by assumption) ?_
            rotate_left
            · intro w hSw; (try dsimp only at hSw); go_simp; first | done | with_reducible rfl
            try simp only [Act.put, List.setIfInBounds_toArray, List.set_cons_zero, List.set_cons_succ]
            refine wpAnyH_take (i := 5) (oi := { dst := some 153, op := Op.indexAddr 48 (Operand.tmp 7) (Operand.tmp 152), type := 0, pos := "order.go:162", after := #[{ on := 4, ground := Ground.data }], guard := none }) (v := ?_) rfl (by kernel_rfl) (by kernel_rfl) (by kernel_rfl) (fun _ _ _ h => h) (Or.inl ⟨by rfl, ?_⟩) (by assumption) ?_
            rotate_left
            · intro w hSw; (try dsimp only at hSw); go_simp; first | done | with_reducible rfl
            try simp only [Act.put, List.setIfInBounds_toArray, List.set_cons_zero, List.set_cons_succ]
            refine wpAnyH_take (i := 6) (oi := { dst := some 154, op := Op.load 34 (Operand.tmp 153), type := 34, pos := "order.go:162", after := #[{ on := 5, ground := Ground.data }], guard := none }) (v := _) rfl (by kernel_rfl) (by kernel_rfl) (by kernel_rfl) (fun _ _ _ h => h) (yieldsIf_load_mid (by rfl) _ _ rfl _ _ rfl _ _ (fun _ h => h.2) Try.underlying34 rfl info34) (by assumption) ?_
            try simp only [Act.put, List.setIfInBounds_toArray, List.set_cons_zero, List.set_cons_succ]
            refine wpAnyH_ready (rs := [7]) (by kernel_rfl) (by simp) ?_
            refine AllReadyH.cons (o := { dst := some 155, op := Op.call { callee := Callee.value (Operand.func 10), args := #[Operand.tmp 151, Operand.tmp 154], argTypes := #[28, 34] }, type := 4, pos := "order.go:162", after := #[{ on := 3, ground := Ground.data }, { on := 6, ground := Ground.data }], guard := none }) rfl (fun K hK => ?_) AllReadyH.nil
            go_simp
            go_wp2_with ((go_at_call 10; refine (h12.out _).mono ?_; rintro x wq ⟨rfl, q9⟩; have d1 : Gr wr wq := Gr.trans (by (repeat (first | with_reducible assumption | with_reducible exact Gr.refl _ | with_reducible refine Gr.drew ?_ | with_reducible refine Gr.alloc ?_ _))) q9; clear q9))
            refine hK.out _ _ (KS.out _ d1) (fun hHeld => ?_)
            clear hK K
            try simp only [Act.put, List.setIfInBounds_toArray, List.set_cons_zero, List.set_cons_succ]
            refine wpAnyH_take (i := 8) (oi := { dst := some 27, op := Op.assign (Operand.tmp 155), type := 4, pos := "order.go:162", after := #[{ on := 7, ground := Ground.data }, { on := 7, ground := Ground.chain }, { on := 0, ground := Ground.phase }, { on := 1, ground := Ground.phase }, { on := 2, ground := Ground.phase }, { on := 3, ground := Ground.phase }, { on := 4, ground := Ground.phase }, { on := 5, ground := Ground.phase }, { on := 6, ground := Ground.phase }, { on := 7, ground := Ground.phase }], guard := none }) (v := ?_) rfl (by kernel_rfl) (by kernel_rfl) (by kernel_rfl) (fun _ _ _ h => h) (Or.inl ⟨by rfl, ?_⟩) (by assumption) ?_
            rotate_left
            · intro w hSw; (try dsimp only at hSw); go_simp; first | done | with_reducible rfl
            try simp only [Act.put, List.setIfInBounds_toArray, List.set_cons_zero, List.set_cons_succ]
            refine wpAnyH_done (by kernel_rfl) ?_ _
            clear hHeld KS rA rV h12
            replace G := T.Hid.mk (Below.gr G.out (Nat.le_of_lt (B0.out.1)) d1)
            replace B0 := T.Hid.mk (B0.out.gr d1)
            replace B3 := T.Hid.mk (B3.out.gr d1)
            replace BZ := T.Hid.mk (BZ.out.gr d1)
            replace M := T.Hid.mk (M.out.gr d1)
            clear d1
            generalize wq = X11 at *
            have c0 : X11.cell? ⟨g, 0, none⟩ = some (.bool m0) := M.out.2 0 (by simp)
            have c1 := At.headRow B0.out
            go_upto_region 27 with fail
            have hF : T.Hid (la = true → m0 = true → u = true) := T.Hid.mk (fun _ h => f5.out h)
            clear f5
            cases la
            · refine wp_region_lit ?_
              refine wpList_plain rfl (fun K hK => ?_)
              go_simp
              with_reducible refine hK _ _ ?_
              clear hK K
              try simp only [Act.put, List.setIfInBounds_toArray, List.set_cons_zero, List.set_cons_succ]
              refine wpList_plain rfl (fun K hK => ?_)
              go_simp
              with_reducible refine hK _ _ ?_
              clear hK K
              try simp only [Act.put, List.setIfInBounds_toArray, List.set_cons_zero, List.set_cons_succ]
              refine wpList_plain rfl (fun K hK => ?_)
              go_simp
              with_reducible refine hK _ _ ?_
              clear hK K
              try simp only [Act.put, List.setIfInBounds_toArray, List.set_cons_zero, List.set_cons_succ]
              with_reducible refine wpList_skip (by kernel_rfl) ?_
              try simp only [Act.put, List.setIfInBounds_toArray, List.set_cons_zero, List.set_cons_succ]
              with_reducible refine wpList_skip (by kernel_rfl) ?_
              try simp only [Act.put, List.setIfInBounds_toArray, List.set_cons_zero, List.set_cons_succ]
              with_reducible refine wpList_skip (by kernel_rfl) ?_
              try simp only [Act.put, List.setIfInBounds_toArray, List.set_cons_zero, List.set_cons_succ]
              refine wpList_plain rfl (fun K hK => ?_)
              go_simp
              with_reducible refine hK _ _ ?_
              clear hK K
              try simp only [Act.put, List.setIfInBounds_toArray, List.set_cons_zero, List.set_cons_succ]
              refine wpList_plain rfl (fun K hK => ?_)
              go_simp
              with_reducible refine hK _ _ ?_
              clear hK K
              try simp only [Act.put, List.setIfInBounds_toArray, List.set_cons_zero, List.set_cons_succ]
              with_reducible refine wpList_skip (by kernel_rfl) ?_
              try simp only [Act.put, List.setIfInBounds_toArray, List.set_cons_zero, List.set_cons_succ]
              with_reducible refine wpList_skip (by kernel_rfl) ?_
              try simp only [Act.put, List.setIfInBounds_toArray, List.set_cons_zero, List.set_cons_succ]
              refine wpList_plain rfl (fun K hK => ?_)
              go_simp
              with_reducible refine hK _ _ ?_
              clear hK K
              try simp only [Act.put, List.setIfInBounds_toArray, List.set_cons_zero, List.set_cons_succ]
              clear c0 c1 hF
              go_wp2_with fail
              exact ⟨⟨k + 1, by go_num, by omega, B0, B3, BZ, M, G⟩, by simp [intOf]; omega⟩
            · cases m0
              · refine wp_region_lit ?_
                refine wpList_plain rfl (fun K hK => ?_)
                go_simp
                with_reducible refine hK _ _ ?_
                clear hK K
                try simp only [Act.put, List.setIfInBounds_toArray, List.set_cons_zero, List.set_cons_succ]
                refine wpList_plain rfl (fun K hK => ?_)
                go_simp
                with_reducible refine hK _ _ ?_
                clear hK K
                try simp only [Act.put, List.setIfInBounds_toArray, List.set_cons_zero, List.set_cons_succ]
                refine wpList_plain rfl (fun K hK => ?_)
                go_simp
                with_reducible refine hK _ _ ?_
                clear hK K
                try simp only [Act.put, List.setIfInBounds_toArray, List.set_cons_zero, List.set_cons_succ]
                refine BigFrame.wpList_want (by rfl) (fun K hK => ?_)
                go_simp
                with_reducible refine hK _ _ ?_
                clear hK K
                try simp only [Act.put, List.setIfInBounds_toArray, List.set_cons_zero, List.set_cons_succ]
                refine BigFrame.wpList_want (by rfl) (fun K hK => ?_)
                go_simp
                with_reducible refine hK _ _ ?_
                clear hK K
                try simp only [Act.put, List.setIfInBounds_toArray, List.set_cons_zero, List.set_cons_succ]
                refine BigFrame.wpList_want (by rfl) (fun K hK => ?_)
                go_simp
                with_reducible refine hK _ _ ?_
                clear hK K
                try simp only [Act.put, List.setIfInBounds_toArray, List.set_cons_zero, List.set_cons_succ]
                refine wpList_plain rfl (fun K hK => ?_)
                go_simp
                with_reducible refine hK _ _ ?_
                clear hK K
                try simp only [Act.put, List.setIfInBounds_toArray, List.set_cons_zero, List.set_cons_succ]
                refine wpList_plain rfl (fun K hK => ?_)
                go_simp
                with_reducible refine hK _ _ ?_
                clear hK K
                try simp only [Act.put, List.setIfInBounds_toArray, List.set_cons_zero, List.set_cons_succ]
                with_reducible refine wpList_skip (by kernel_rfl) ?_
                try simp only [Act.put, List.setIfInBounds_toArray, List.set_cons_zero, List.set_cons_succ]
                with_reducible refine wpList_skip (by kernel_rfl) ?_
                try simp only [Act.put, List.setIfInBounds_toArray, List.set_cons_zero, List.set_cons_succ]
                refine wpList_plain rfl (fun K hK => ?_)
                go_simp
                with_reducible refine hK _ _ ?_
                clear hK K
                try simp only [Act.put, List.setIfInBounds_toArray, List.set_cons_zero, List.set_cons_succ]
                clear c0 c1 hF
                go_wp2_with fail
                exact ⟨⟨k + 1, by go_num, by omega, B0, B3, BZ, M, G⟩, by simp [intOf]; omega⟩
              · have eu := hF.out rfl rfl
                subst eu
                refine wp_region_lit ?_
                refine wpList_plain rfl (fun K hK => ?_)
                go_simp
                with_reducible refine hK _ _ ?_
                clear hK K
                try simp only [Act.put, List.setIfInBounds_toArray, List.set_cons_zero, List.set_cons_succ]
                refine wpList_plain rfl (fun K hK => ?_)
                go_simp
                with_reducible refine hK _ _ ?_
                clear hK K
                try simp only [Act.put, List.setIfInBounds_toArray, List.set_cons_zero, List.set_cons_succ]
                refine wpList_plain rfl (fun K hK => ?_)
                go_simp
                with_reducible refine hK _ _ ?_
                clear hK K
                try simp only [Act.put, List.setIfInBounds_toArray, List.set_cons_zero, List.set_cons_succ]
                refine BigFrame.wpList_want (by rfl) (fun K hK => ?_)
                go_simp
                with_reducible refine hK _ _ ?_
                clear hK K
                try simp only [Act.put, List.setIfInBounds_toArray, List.set_cons_zero, List.set_cons_succ]
                refine BigFrame.wpList_want (by rfl) (fun K hK => ?_)
                go_simp
                with_reducible refine hK _ _ ?_
                clear hK K
                try simp only [Act.put, List.setIfInBounds_toArray, List.set_cons_zero, List.set_cons_succ]
                refine BigFrame.wpList_want (by rfl) (fun K hK => ?_)
                go_simp
                with_reducible refine hK _ _ ?_
                clear hK K
                try simp only [Act.put, List.setIfInBounds_toArray, List.set_cons_zero, List.set_cons_succ]
                refine wpList_plain rfl (fun K hK => ?_)
                go_simp
                with_reducible refine hK _ _ ?_
                clear hK K
                try simp only [Act.put, List.setIfInBounds_toArray, List.set_cons_zero, List.set_cons_succ]
                refine wpList_plain rfl (fun K hK => ?_)
                go_simp
                with_reducible refine hK _ _ ?_
                clear hK K
                try simp only [Act.put, List.setIfInBounds_toArray, List.set_cons_zero, List.set_cons_succ]
                refine BigFrame.wpList_want (by rfl) (fun K hK => ?_)
                go_simp
                with_reducible refine hK _ _ ?_
                clear hK K
                try simp only [Act.put, List.setIfInBounds_toArray, List.set_cons_zero, List.set_cons_succ]
                refine BigFrame.wpList_want (by rfl) (fun K hK => ?_)
                go_simp
                with_reducible refine hK _ _ ?_
                clear hK K
                try simp only [Act.put, List.setIfInBounds_toArray, List.set_cons_zero, List.set_cons_succ]
                refine wpList_plain rfl (fun K hK => ?_)
                go_simp
                with_reducible refine hK _ _ ?_
                clear hK K
                try simp only [Act.put, List.setIfInBounds_toArray, List.set_cons_zero, List.set_cons_succ]
                clear c0 c1 hF
                go_wp2_with fail
                exact ⟨⟨k + 1, by go_num, by omega, B0, B3, BZ, M, G⟩, by simp [intOf]; omega⟩
          · have k1 : ¬ (k : Int) < 16 := by omega
            go_upto_region 29 with fail
            have eS' := eS.out
            have z' := z47
            refine wp_region_lit ?_
            refine wpList_plain rfl (fun K hK => ?_)
            go_simp
            with_reducible refine hK _ _ ?_
            clear hK K
            try simp only [Act.put, List.setIfInBounds_toArray, List.set_cons_zero, List.set_cons_succ]
            refine wpList_plain rfl (fun K hK => ?_)
            go_simp
            with_reducible refine hK _ _ ?_
            clear hK K
            try simp only [Act.put, List.setIfInBounds_toArray, List.set_cons_zero, List.set_cons_succ]
            refine wpList_plain rfl (fun K hK => ?_)
            go_simp
            with_reducible refine hK _ _ ?_
            clear hK K
            try simp only [Act.put, List.setIfInBounds_toArray, List.set_cons_zero, List.set_cons_succ]
            refine BigFrame.wpList_want (by rfl) (fun K hK => ?_)
            go_simp
            with_reducible refine hK _ _ ?_
            clear hK K
            try simp only [Act.put, List.setIfInBounds_toArray, List.set_cons_zero, List.set_cons_succ]
            refine wpList_plain rfl (fun K hK => ?_)
            go_simp
            with_reducible refine hK _ _ ?_
            clear hK K
            try simp only [Act.put, List.setIfInBounds_toArray, List.set_cons_zero, List.set_cons_succ]
            refine wpList_plain rfl (fun K hK => ?_)
            go_simp
            with_reducible refine hK _ _ ?_
            clear hK K
            try simp only [Act.put, List.setIfInBounds_toArray, List.set_cons_zero, List.set_cons_succ]
            refine BigFrame.wpList_want (by rfl) (fun K hK => ?_)
            refine wp_load_mid _ _ rfl _ 0 rfl (stV sz) _ BZ.out.range Try.underlying47 rfl (info_sv _) (hK _ _ ?_)
            clear hK K
            try simp only [Act.put, List.setIfInBounds_toArray, List.set_cons_zero, List.set_cons_succ]
            refine BigFrame.wpList_want (by rfl) (fun K hK => ?_)
            go_simp
            refine hK _ _ ?_
            clear hK K
            try rw [z']
            try simp only [Act.put, List.setIfInBounds_toArray, List.set_cons_zero, List.set_cons_succ]
            refine BigFrame.wpList_want (by rfl) (fun K hK => ?_)
            go_simp
            with_reducible refine hK _ _ ?_
            clear hK K
            try simp only [Act.put, List.setIfInBounds_toArray, List.set_cons_zero, List.set_cons_succ]
            refine wpList_plain rfl (fun K hK => ?_)
            go_simp
            with_reducible refine hK _ _ ?_
            clear hK K
            try simp only [Act.put, List.setIfInBounds_toArray, List.set_cons_zero, List.set_cons_succ]
            refine wpList_plain rfl (fun K hK => ?_)
            go_simp
            with_reducible refine hK _ _ ?_
            clear hK K
            try simp only [Act.put, List.setIfInBounds_toArray, List.set_cons_zero, List.set_cons_succ]
            go_wp2_with fail
            go_ret
            exact ⟨rfl, G.out⟩
end R
end Go.Proofs.Ytbbpbfbifgfjdaa
