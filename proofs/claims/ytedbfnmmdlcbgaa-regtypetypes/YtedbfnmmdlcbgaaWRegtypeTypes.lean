/-
  Stage 9, regtype: RegtypeTypes, walked.
-/
import Derived.Test.YtedbfnmmdlcbgaaRLaw
import Derived.Test.YtedbfnmmdlcbgaaRProM
import Derived.Test.YtedbfnmmdlcbgaaRProU
import Derived.Test.YtedbfnmmdlcbgaaRProH
import Derived.Test.YtedbfnmmdlcbgaaRProS
import Derived.Test.YtedbfnmmdlcbgaaRFits
import Derived.Test.YtedbfnmmdlcbgaaREach
import Derived.BigFrame
namespace Go.Proofs.Ytedbfnmmdlcbgaa
namespace R
open Go.RowKit

theorem info30 : (Try.prog.info? 30).map (·.size) = some 7 := by kernel_rfl
theorem any_zero {a : RV} : a.rt.eqB RT.zero = true ↔ a = .any := by
  rw [RT.eqB_iff]
  exact ⟨fun h => RV.rt_inj (b := .any) h, fun h => by rw [h]; rfl⟩
theorem ofT_ok {t : Tt} (h : t.Rng) : (ofT t).ok := by
  rw [ofT_eq]
  split
  · split
    · rename_i h1
      exact ⟨⟨h.1.1, Int.le_refl _, h.1.2⟩, ⟨h.2.1.1, Int.le_refl _, h.2.1.2⟩, ⟨h.2.2.1.1, h1.1, h.2.2.2.1.2⟩, amg_refl _, amg_of_lt h1.2.1, by omega, by omega⟩
    · trivial
  · exact ⟨by decide, by decide, by decide⟩
theorem ofT_sure (t : Tt) : (ofT t).sure t = !(ofT t).rt.eqB RT.zero := by
  rcases sure_of t with h | h
  · rw [h]
    have : (ofT t).rt.eqB RT.zero = false := by
      rw [Bool.eq_false_iff]
      intro q
      rw [any_zero.1 q] at h
      cases h
    rw [this]
    rfl
  · rw [any_zero.2 h.1, h.1]
    rfl
theorem rows4 (r s J O : RT) : #[.int .i64 r.k, .int .u64 r.n.lo, .int .u64 r.n.hi, .int .u64 r.b.lo, .int .u64 r.b.hi, .int .u64 r.e.lo, .int .u64 r.e.hi, .int .u64 r.p.lo, .int .u64 r.p.hi, .int .u8 r.mu, .int .u8 r.ma, .int .i64 r.s, .int .i64 s.k, .int .u64 s.n.lo, .int .u64 s.n.hi, .int .u64 s.b.lo, .int .u64 s.b.hi, .int .u64 s.e.lo, .int .u64 s.e.hi, .int .u64 s.p.lo, .int .u64 s.p.hi, .int .u8 s.mu, .int .u8 s.ma, .int .i64 s.s, .int .i64 J.k, .int .u64 J.n.lo, .int .u64 J.n.hi, .int .u64 J.b.lo, .int .u64 J.b.hi, .int .u64 J.e.lo, .int .u64 J.e.hi, .int .u64 J.p.lo, .int .u64 J.p.hi, .int .u8 J.mu, .int .u8 J.ma, .int .i64 J.s, .int .i64 O.k, .int .u64 O.n.lo, .int .u64 O.n.hi, .int .u64 O.b.lo, .int .u64 O.b.hi, .int .u64 O.e.lo, .int .u64 O.e.hi, .int .u64 O.p.lo, .int .u64 O.p.hi, .int .u8 O.mu, .int .u8 O.ma, .int .i64 O.s] = (rowV [] RT.vals [r, s, J, O]).toArray := by
  simp only [rowV, List.flatMap_cons, List.flatMap_nil, List.nil_append, List.append_nil, RT.vals, List.cons_append]
set_option maxRecDepth 100000 in
set_option maxHeartbeats 16000000 in
theorem walk_RegtypeTypes (r s : RT) (t : Tt) (v : Vv) (w : World) (hr : r.Rng) (hs : s.Rng) (ht : t.Rng) (hv : v.Rng) : Calls Try.prog 3 #[.agg (RT.vals r).toArray, .agg (RT.vals s).toArray, .agg (Tt.vals t).toArray, .agg (Vv.vals v).toArray] w fun x w' => x = .returned (.bool true) ∧ Gr w w' := by
  have oO := ofT_ok ht
  have h0 := T.Hid.mk (fun W => alive_any pInt_any pJoin_any W)
  have oS := RT.nm_ok hs
  have rJ := RV.rt_rng (RV.jn_ok (RT.nm_ok hr) (RT.nm_ok hs))
  have rO := RV.rt_rng oO
  obtain ⟨O, eO⟩ : ∃ O, (ofT t).rt = O := ⟨_, rfl⟩
  obtain ⟨J, eJ⟩ : ∃ J, (r.nm.jn s.nm).rt = J := ⟨_, rfl⟩
  obtain ⟨P, eP⟩ : ∃ P, t.pl = P := ⟨_, rfl⟩
  obtain ⟨z, ez⟩ : ∃ z, (ofT t).rt.eqB RT.zero = z := ⟨_, rfl⟩
  have h1 : T.Hid (∀ W, Calls Try.prog 7 #[.agg (Tt.vals t).toArray] W fun x w' => x = .returned (.agg (RT.vals O).toArray) ∧ Gr W w') := T.Hid.mk (fun W => by have := pOf_any t W ht; rw [eO] at this; exact this)
  have h2 : T.Hid (∀ W, Calls Try.prog 8 #[.agg (RT.vals O).toArray, .agg (Tt.vals t).toArray] W fun x w' => x = .returned (.bool (!z)) ∧ Gr W w') := T.Hid.mk (fun W => by have := pSure_any (ofT t).rt t W rO ht; rw [RV.nm_rt oO, ofT_sure, ez, eO] at this; exact this)
  have h3 : T.Hid (∀ W, Calls Try.prog 9 #[.agg (RT.vals r).toArray, .agg (RT.vals s).toArray] W fun x w' => x = .returned (.agg (RT.vals J).toArray) ∧ Gr W w') := T.Hid.mk (fun W => by have := pJoin_any r s W hr hs; rw [eJ] at this; exact this)
  have h4 : T.Hid (∀ E : RT, E.Rng → (∀ W, Calls Try.prog 8 #[.agg (RT.vals E).toArray, .agg (Tt.vals t).toArray] W fun x w' => x = .returned (.bool (E.nm.sure t)) ∧ Gr W w')) := T.Hid.mk (fun E hE W => pSure_any E t W hE ht)
  have h5 : T.Hid (∀ E : RT, E.Rng → (∀ W, Calls Try.prog 10 #[.agg (RT.vals E).toArray, .agg (Vv.vals v).toArray] W fun x w' => x = .returned (.bool (E.nm.has v)) ∧ Gr W w')) := T.Hid.mk (fun E hE W => pHas_any E v W hE hv.2.2.2.2)
  have h6 : T.Hid (∀ E : RT, E.Rng → (∀ W, Calls Try.prog 11 #[.agg (RT.vals s).toArray, .agg (RT.vals E).toArray] W fun x w' => x = .returned (.bool (s.nm.und E.nm)) ∧ Gr W w')) := T.Hid.mk (fun E hE W => pUnder_any s E W hs hE)
  have h7 : T.Hid (∀ W, Calls Try.prog 8 #[.agg (RT.vals s).toArray, .agg (Tt.vals t).toArray] W fun x w' => x = .returned (.bool (s.nm.sure t)) ∧ Gr W w') := T.Hid.mk (fun W => pSure_any s t W hs ht)
  have h8 : T.Hid (∀ W, Calls Try.prog 13 #[.agg (Tt.vals t).toArray] W fun x w' => x = .returned (.agg (Tt.vals P).toArray) ∧ Gr W w') := T.Hid.mk (fun W => by have := plain_any t W; rw [eP] at this; exact this)
  have h9 : T.Hid (∀ W, Calls Try.prog 12 #[.agg (Vv.vals v).toArray, .agg (Tt.vals P).toArray] W fun x w' => x = .returned (.bool (fitB v P)) ∧ Gr W w') := T.Hid.mk (fun W => pFits_any v P W)
  have qe : ∀ W, (binOp .eql 28 (.agg (RT.vals O).toArray) (.agg #[.int .i64 0, .int .u64 0, .int .u64 0, .int .u64 0, .int .u64 0, .int .u64 0, .int .u64 0, .int .u64 0, .int .u64 0, .int .u8 0, .int .u8 0, .int .i64 0])).run Try.prog W = .ok (.bool z) W := fun W => by have := eqRT O RT.zero W; rw [← eO, ez, eO] at this; exact this
  have qn : ∀ W, (binOp .neq 28 (.agg (RT.vals O).toArray) (.agg #[.int .i64 0, .int .u64 0, .int .u64 0, .int .u64 0, .int .u64 0, .int .u64 0, .int .u64 0, .int .u64 0, .int .u64 0, .int .u8 0, .int .u8 0, .int .i64 0])).run Try.prog W = .ok (.bool (!z)) W := fun W => by have := neRT O RT.zero W; rw [← eO, ez, eO] at this; exact this
  have hL : T.Hid (∀ E ∈ [r, s, J, O], E.Rng) := T.Hid.mk (by
    intro E hE
    simp only [List.mem_cons, List.not_mem_nil, or_false] at hE
    rcases hE with rfl | rfl | rfl | rfl
    · exact hr
    · exact hs
    · rw [← eJ]; exact rJ
    · rw [← eO]; exact rO)
  have e1 : T.Hid (∀ E : RT, E.nm.sure t = true → E.nm.has v = true → fitB v P = true) := T.Hid.mk (fun E => by rw [← eP]; exact sure_fit)
  have e2 : T.Hid (∀ E : RT, E.nm.sure t = true → s.nm.und E.nm = true → s.nm.sure t = true) := T.Hid.mk (fun E a b => RV.sure_und oS b a)
  clear hr hs ht hv oO oS rJ rO eO eJ eP ez
  generalize fitB v P = u3 at *
  generalize s.nm.sure t = u5 at *
  go_enter Try.func3, Try.ntmps3
  go_upto_region 1 with fail
  have B0 : T.Hid (At (((((w).alloc (.cells (RT.vals r).toArray 28)).alloc (.cells (RT.vals s).toArray 28)).alloc (.cells (Tt.vals t).toArray 30)).alloc (.cells (Vv.vals v).toArray 34)) (w.heap.size) (RT.vals r).toArray) := T.Hid.mk ((((At.at_ w _ _ rfl).alloc _).alloc _).alloc _)
  have B1 : T.Hid (At (((((w).alloc (.cells (RT.vals r).toArray 28)).alloc (.cells (RT.vals s).toArray 28)).alloc (.cells (Tt.vals t).toArray 30)).alloc (.cells (Vv.vals v).toArray 34)) (w.heap.size + 1) (RT.vals s).toArray) := T.Hid.mk (((At.at_ _ _ _ (by simp)).alloc _).alloc _)
  have B2 : T.Hid (At (((((w).alloc (.cells (RT.vals r).toArray 28)).alloc (.cells (RT.vals s).toArray 28)).alloc (.cells (Tt.vals t).toArray 30)).alloc (.cells (Vv.vals v).toArray 34)) (w.heap.size + 1 + 1) (Tt.vals t).toArray) := T.Hid.mk ((At.at_ _ _ _ (by simp)).alloc _)
  have B3 : T.Hid (At (((((w).alloc (.cells (RT.vals r).toArray 28)).alloc (.cells (RT.vals s).toArray 28)).alloc (.cells (Tt.vals t).toArray 30)).alloc (.cells (Vv.vals v).toArray 34)) (w.heap.size + 1 + 1 + 1) (Vv.vals v).toArray) := T.Hid.mk (At.at_ _ _ _ (by simp))
  have G : T.Hid (Gr w (((((w).alloc (.cells (RT.vals r).toArray 28)).alloc (.cells (RT.vals s).toArray 28)).alloc (.cells (Tt.vals t).toArray 30)).alloc (.cells (Vv.vals v).toArray 34))) := T.Hid.mk (((((Gr.refl w).alloc _).alloc _).alloc _).alloc _)
  generalize ((((w).alloc (.cells (RT.vals r).toArray 28)).alloc (.cells (RT.vals s).toArray 28)).alloc (.cells (Tt.vals t).toArray 30)).alloc (.cells (Vv.vals v).toArray 34) = W0 at B0 B1 B2 B3 G ⊢
  go_upto_region 2 with (go_at_call 6; refine (h0.out _).mono ?_; rintro x w1 ⟨rfl, q⟩)
  replace B0 := T.Hid.mk (B0.out.gr q)
  replace B1 := T.Hid.mk (B1.out.gr q)
  replace B2 := T.Hid.mk (B2.out.gr q)
  replace B3 := T.Hid.mk (B3.out.gr q)
  replace G := T.Hid.mk (G.out.trans q)
  clear q h0
  refine wp_region_lit ?_
  refine wpList_plain rfl (fun K hK => ?_)
  refine wp_load_mid _ _ rfl _ 0 rfl (Tt.vals t) _ B2.out.range Try.underlying30 rfl info30 (hK _ _ ?_)
  clear hK K
  try simp only [Act.put, List.setIfInBounds_toArray, List.set_cons_zero, List.set_cons_succ]
  refine wpList_plain rfl (fun K hK => ?_)
  go_simp
  (go_at_call 7; refine (h1.out _).mono ?_; rintro x wq ⟨rfl, q9⟩; replace q9 := T.Hid.mk q9)
  refine hK _ _ ?_
  clear hK K
  try simp only [Act.put, List.setIfInBounds_toArray, List.set_cons_zero, List.set_cons_succ]
  refine wpList_plain rfl (fun K hK => ?_)
  go_simp
  refine hK _ _ ?_
  clear hK K
  try simp only [Act.put, List.setIfInBounds_toArray, List.set_cons_zero, List.set_cons_succ]
  have b4 : T.Hid (At (wq.alloc (.cells (RT.vals RT.zero).toArray 28)) wq.heap.size (RT.vals RT.zero).toArray) := T.Hid.mk (At.new _ _ _)
  refine wpList_plain rfl (fun K hK => ?_)
  refine wp_store_mid _ _ _ rfl _ _ (List.toArray (RT.vals O)) rfl rfl (b4.out.there 0 _ (by simp [RT.vals])) info28 (all_oneCell_toArray (one_rt _)) (hK _ _ ?_)
  clear hK K
  try simp only [Act.put]
  rw [zero28]
  have B4 := T.Hid.mk (b4.out.setAll (RT.vals O) rfl)
  replace B0 := T.Hid.mk (((B0.out.gr q9.out).alloc (.cells (RT.vals RT.zero).toArray 28)).other (b' := wq.heap.size) (Nat.ne_of_lt (B0.out.gr q9.out).1) 0 (RT.vals O))
  replace B1 := T.Hid.mk (((B1.out.gr q9.out).alloc (.cells (RT.vals RT.zero).toArray 28)).other (b' := wq.heap.size) (Nat.ne_of_lt (B1.out.gr q9.out).1) 0 (RT.vals O))
  replace B2 := T.Hid.mk (((B2.out.gr q9.out).alloc (.cells (RT.vals RT.zero).toArray 28)).other (b' := wq.heap.size) (Nat.ne_of_lt (B2.out.gr q9.out).1) 0 (RT.vals O))
  replace B3 := T.Hid.mk (((B3.out.gr q9.out).alloc (.cells (RT.vals RT.zero).toArray 28)).other (b' := wq.heap.size) (Nat.ne_of_lt (B3.out.gr q9.out).1) 0 (RT.vals O))
  replace G := T.Hid.mk (((G.out.trans q9.out).alloc (.cells (RT.vals RT.zero).toArray 28)).setCells wq.heap.size (G.out.trans q9.out).below.size (RT.vals O) 0)
  clear q9 b4 h1
  generalize World.setCells _ _ _ _ = W2 at *
  generalize wq.heap.size = k4 at *
  go_upto_region 3 with fail
  refine wp_region_lit ?_
  refine wpList_plain rfl (fun K hK => ?_)
  refine wp_load_mid _ _ rfl _ 0 rfl (RT.vals O) _ B4.out.range Try.underlying28 rfl info28 (hK _ _ ?_)
  clear hK K
  try simp only [Act.put, List.setIfInBounds_toArray, List.set_cons_zero, List.set_cons_succ]
  refine wpList_plain rfl (fun K hK => ?_)
  refine wp_load_mid _ _ rfl _ 0 rfl (Tt.vals t) _ B2.out.range Try.underlying30 rfl info30 (hK _ _ ?_)
  clear hK K
  try simp only [Act.put, List.setIfInBounds_toArray, List.set_cons_zero, List.set_cons_succ]
  refine wpList_plain rfl (fun K hK => ?_)
  go_simp
  (go_at_call 8; refine (h2.out _).mono ?_; rintro x wq ⟨rfl, q9⟩; replace q9 := T.Hid.mk q9)
  refine hK _ _ ?_
  clear hK K
  try simp only [Act.put, List.setIfInBounds_toArray, List.set_cons_zero, List.set_cons_succ]
  refine wpList_plain rfl (fun K hK => ?_)
  go_simp
  refine hK _ _ ?_
  clear hK K
  try simp only [Act.put, List.setIfInBounds_toArray, List.set_cons_zero, List.set_cons_succ]
  replace B0 := T.Hid.mk (B0.out.gr q9.out)
  replace B1 := T.Hid.mk (B1.out.gr q9.out)
  replace B2 := T.Hid.mk (B2.out.gr q9.out)
  replace B3 := T.Hid.mk (B3.out.gr q9.out)
  replace B4 := T.Hid.mk (B4.out.gr q9.out)
  replace G := T.Hid.mk (G.out.trans q9.out)
  clear q9 h2
  generalize wq = W3 at *
  cases z
  · go_upto_region 4 with fail
    refine wp_region_lit ?_
    refine wpList_plain rfl (fun K hK => ?_)
    go_simp
    refine hK _ _ ?_
    clear hK K
    try simp only [Act.put, List.setIfInBounds_toArray, List.set_cons_zero, List.set_cons_succ]
    refine wpList_plain rfl (fun K hK => ?_)
    go_simp
    refine hK _ _ ?_
    clear hK K
    try simp only [Act.put, List.setIfInBounds_toArray, List.set_cons_zero, List.set_cons_succ]
    refine wpList_plain rfl (fun K hK => ?_)
    go_simp
    refine hK _ _ ?_
    clear hK K
    try simp only [Act.put, List.setIfInBounds_toArray, List.set_cons_zero, List.set_cons_succ]
    refine BigFrame.wpList_want (by rfl) (fun K hK => ?_)
    refine wp_load_mid _ _ rfl _ 0 rfl (RT.vals O) _ B4.out.range Try.underlying28 rfl info28 (hK _ _ ?_)
    clear hK K
    try simp only [Act.put, List.setIfInBounds_toArray, List.set_cons_zero, List.set_cons_succ]
    refine BigFrame.wpList_want (by rfl) (fun K hK => ?_)
    go_simp
    refine hK _ _ ?_
    clear hK K
    try simp only [Act.put, List.setIfInBounds_toArray, List.set_cons_zero, List.set_cons_succ]
    refine BigFrame.wpList_want (by rfl) (fun K hK => ?_)
    go_simp
    refine hK _ _ ?_
    clear hK K
    try simp only [Act.put, List.setIfInBounds_toArray, List.set_cons_zero, List.set_cons_succ]
    refine BigFrame.wpList_want (by rfl) (fun K hK => ?_)
    go_simp
    refine hK _ _ ?_
    clear hK K
    try simp only [Act.put, List.setIfInBounds_toArray, List.set_cons_zero, List.set_cons_succ]
    refine BigFrame.wpList_want (by rfl) (fun K hK => ?_)
    go_simp
    refine hK _ _ ?_
    clear hK K
    try simp only [Act.put, List.setIfInBounds_toArray, List.set_cons_zero, List.set_cons_succ]
    refine BigFrame.wpList_want (by rfl) (fun K hK => ?_)
    go_simp
    refine hK _ _ ?_
    clear hK K
    try simp only [Act.put, List.setIfInBounds_toArray, List.set_cons_zero, List.set_cons_succ]
    refine BigFrame.wpList_want (by rfl) (fun K hK => ?_)
    go_simp
    refine hK _ _ ?_
    clear hK K
    try simp only [Act.put, List.setIfInBounds_toArray, List.set_cons_zero, List.set_cons_succ]
    refine wpList_plain rfl (fun K hK => ?_)
    go_simp
    refine hK _ _ ?_
    clear hK K
    try simp only [Act.put, List.setIfInBounds_toArray, List.set_cons_zero, List.set_cons_succ]
    refine wpList_plain rfl (fun K hK => ?_)
    go_simp
    refine hK _ _ ?_
    clear hK K
    try simp only [Act.put, List.setIfInBounds_toArray, List.set_cons_zero, List.set_cons_succ]
    refine BigFrame.wpList_want (by rfl) (fun K hK => ?_)
    refine wp_load_mid _ _ rfl _ 0 rfl (RT.vals O) _ B4.out.range Try.underlying28 rfl info28 (hK _ _ ?_)
    clear hK K
    try simp only [Act.put, List.setIfInBounds_toArray, List.set_cons_zero, List.set_cons_succ]
    refine BigFrame.wpList_want (by rfl) (fun K hK => ?_)
    go_simp
    refine hK _ _ ?_
    clear hK K
    try simp only [Act.put, List.setIfInBounds_toArray, List.set_cons_zero, List.set_cons_succ]
    refine BigFrame.wpList_want (by rfl) (fun K hK => ?_)
    go_simp
    refine hK _ _ ?_
    clear hK K
    try simp only [Act.put, List.setIfInBounds_toArray, List.set_cons_zero, List.set_cons_succ]
    refine BigFrame.wpList_want (by rfl) (fun K hK => ?_)
    go_simp
    refine hK _ _ ?_
    clear hK K
    try simp only [Act.put, List.setIfInBounds_toArray, List.set_cons_zero, List.set_cons_succ]
    refine wpList_skip (by rfl) ?_
    try simp only [Act.put, List.setIfInBounds_toArray, List.set_cons_zero, List.set_cons_succ]
    refine BigFrame.wpList_want (by rfl) (fun K hK => ?_)
    go_simp
    refine hK _ _ ?_
    clear hK K
    try simp only [Act.put, List.setIfInBounds_toArray, List.set_cons_zero, List.set_cons_succ]
    refine wpList_plain rfl (fun K hK => ?_)
    go_simp
    refine hK _ _ ?_
    clear hK K
    try simp only [Act.put, List.setIfInBounds_toArray, List.set_cons_zero, List.set_cons_succ]
    clear qe qn
    go_upto_region 6 with fail
    have KS : T.Hid (∀ W, Gr W3 W → W.rangeAt w.heap.size 0 (RT.vals r) ∧ W.rangeAt (w.heap.size + 1) 0 (RT.vals s) ∧ W.rangeAt k4 0 (RT.vals O)) := T.Hid.mk (fun W g => ⟨(B0.out.gr g).range, (B1.out.gr g).range, (B4.out.gr g).range⟩)
    have d1 : Gr W3 W3.drew := (Gr.refl _).drew
    refine wp_region_held_drew (S := (fun W => W.rangeAt w.heap.size 0 (RT.vals r) ∧ W.rangeAt (w.heap.size + 1) 0 (RT.vals s) ∧ W.rangeAt k4 0 (RT.vals O))) (by kernel_rfl) (KS.out _ d1) (fun hHeld => ?_)
    refine wpAnyH_take (i := 0) (oi := { dst := some 44, op := Op.load 28 (Operand.tmp 4), type := 28, pos := "order.go:90", after := #[], guard := none }) (v := _) rfl (by kernel_rfl) (by kernel_rfl) (by kernel_rfl) (fun _ _ _ h => h) (yieldsIf_load_mid (by rfl) _ _ rfl _ _ rfl _ _ (fun _ h => h.1) Try.underlying28 rfl info28) (by assumption) ?_
    try simp only [Act.put, List.setIfInBounds_toArray, List.set_cons_zero, List.set_cons_succ]
    refine wpAnyH_take (i := 1) (oi := { dst := some 45, op := Op.load 28 (Operand.tmp 5), type := 28, pos := "order.go:90", after := #[], guard := none }) (v := _) rfl (by kernel_rfl) (by kernel_rfl) (by kernel_rfl) (fun _ _ _ h => h) (yieldsIf_load_mid (by rfl) _ _ rfl _ _ rfl _ _ (fun _ h => h.2.1) Try.underlying28 rfl info28) (by assumption) ?_
    try simp only [Act.put, List.setIfInBounds_toArray, List.set_cons_zero, List.set_cons_succ]
    refine wpAnyH_take (i := 2) (oi := { dst := some 46, op := Op.load 28 (Operand.tmp 4), type := 28, pos := "order.go:90", after := #[], guard := none }) (v := _) rfl (by kernel_rfl) (by kernel_rfl) (by kernel_rfl) (fun _ _ _ h => h) (yieldsIf_load_mid (by rfl) _ _ rfl _ _ rfl _ _ (fun _ h => h.1) Try.underlying28 rfl info28) (by assumption) ?_
    try simp only [Act.put, List.setIfInBounds_toArray, List.set_cons_zero, List.set_cons_succ]
    refine wpAnyH_take (i := 3) (oi := { dst := some 47, op := Op.load 28 (Operand.tmp 5), type := 28, pos := "order.go:90", after := #[], guard := none }) (v := _) rfl (by kernel_rfl) (by kernel_rfl) (by kernel_rfl) (fun _ _ _ h => h) (yieldsIf_load_mid (by rfl) _ _ rfl _ _ rfl _ _ (fun _ h => h.2.1) Try.underlying28 rfl info28) (by assumption) ?_
    try simp only [Act.put, List.setIfInBounds_toArray, List.set_cons_zero, List.set_cons_succ]
    refine wpAnyH_take (i := 5) (oi := { dst := some 49, op := Op.load 28 (Operand.tmp 10), type := 28, pos := "order.go:90", after := #[], guard := none }) (v := _) rfl (by kernel_rfl) (by kernel_rfl) (by kernel_rfl) (fun _ _ _ h => h) (yieldsIf_load_mid (by rfl) _ _ rfl _ _ rfl _ _ (fun _ h => h.2.2) Try.underlying28 rfl info28) (by assumption) ?_
    try simp only [Act.put, List.setIfInBounds_toArray, List.set_cons_zero, List.set_cons_succ]
    refine wpAnyH_ready (rs := [4]) (by kernel_rfl) (by simp) ?_
    refine AllReadyH.cons (o := { dst := some 48, op := Op.call { callee := Callee.value (Operand.func 9), args := #[Operand.tmp 46, Operand.tmp 47], argTypes := #[28, 28] }, type := 28, pos := "order.go:90", after := #[{ on := 2, ground := Ground.data }, { on := 3, ground := Ground.data }], guard := none }) rfl (fun K hK => ?_) AllReadyH.nil
    go_simp
    go_wp2_with ((go_at_call 9; refine (h3.out _).mono ?_; rintro x wq ⟨rfl, q9⟩; have d1 : Gr W3 wq := Gr.trans (by (repeat (first | with_reducible assumption | with_reducible exact Gr.refl _ | with_reducible refine Gr.drew ?_ | with_reducible refine Gr.alloc ?_ _))) q9; clear q9))
    refine hK.out _ _ (KS.out _ d1) (fun hHeld => ?_)
    clear hK K
    try simp only [Act.put, List.setIfInBounds_toArray, List.set_cons_zero, List.set_cons_succ]
    refine wpAnyH_ready (rs := [6]) (by kernel_rfl) (by simp) ?_
    refine AllReadyH.cons (o := { dst := some 50, op := Op.buildSlice 39 4 #[(0, Operand.tmp 44), (1, Operand.tmp 45), (2, Operand.tmp 48), (3, Operand.tmp 49)], type := 39, pos := "order.go:90", after := #[{ on := 0, ground := Ground.data }, { on := 1, ground := Ground.data }, { on := 4, ground := Ground.data }, { on := 5, ground := Ground.data }], guard := none }) rfl (fun K hK => ?_) AllReadyH.nil
    simp only [RT.vals]
    go_simp
    refine hK.out _ _ (KS.out _ (d1.alloc _)) (fun hHeld => ?_)
    clear hK K
    try simp only [Act.put, List.setIfInBounds_toArray, List.set_cons_zero, List.set_cons_succ]
    refine wpAnyH_take (i := 7) (oi := { dst := some 12, op := Op.assign (Operand.tmp 50), type := 39, pos := "order.go:90", after := #[{ on := 6, ground := Ground.data }, { on := 4, ground := Ground.chain }, { on := 0, ground := Ground.phase }, { on := 1, ground := Ground.phase }, { on := 2, ground := Ground.phase }, { on := 3, ground := Ground.phase }, { on := 4, ground := Ground.phase }, { on := 5, ground := Ground.phase }, { on := 6, ground := Ground.phase }], guard := none }) (v := ?_) rfl (by kernel_rfl) (by kernel_rfl) (by kernel_rfl) (fun _ _ _ h => h) (Or.inl ⟨by rfl, ?_⟩) (by assumption) ?_
    rotate_left
    · intro w hSw; (try dsimp only at hSw); go_simp; first | done | with_reducible rfl
    try simp only [Act.put, List.setIfInBounds_toArray, List.set_cons_zero, List.set_cons_succ]
    refine wpAnyH_done (by kernel_rfl) ?_ _
    clear hHeld KS
    have hC := rows4 r s J O
    have BL : T.Hid (At (wq.alloc (.cells #[.int .i64 r.k, .int .u64 r.n.lo, .int .u64 r.n.hi, .int .u64 r.b.lo, .int .u64 r.b.hi, .int .u64 r.e.lo, .int .u64 r.e.hi, .int .u64 r.p.lo, .int .u64 r.p.hi, .int .u8 r.mu, .int .u8 r.ma, .int .i64 r.s, .int .i64 s.k, .int .u64 s.n.lo, .int .u64 s.n.hi, .int .u64 s.b.lo, .int .u64 s.b.hi, .int .u64 s.e.lo, .int .u64 s.e.hi, .int .u64 s.p.lo, .int .u64 s.p.hi, .int .u8 s.mu, .int .u8 s.ma, .int .i64 s.s, .int .i64 J.k, .int .u64 J.n.lo, .int .u64 J.n.hi, .int .u64 J.b.lo, .int .u64 J.b.hi, .int .u64 J.e.lo, .int .u64 J.e.hi, .int .u64 J.p.lo, .int .u64 J.p.hi, .int .u8 J.mu, .int .u8 J.ma, .int .i64 J.s, .int .i64 O.k, .int .u64 O.n.lo, .int .u64 O.n.hi, .int .u64 O.b.lo, .int .u64 O.b.hi, .int .u64 O.e.lo, .int .u64 O.e.hi, .int .u64 O.p.lo, .int .u64 O.p.hi, .int .u8 O.mu, .int .u8 O.ma, .int .i64 O.s] 28)) wq.heap.size (rowV [] RT.vals [r, s, J, O]).toArray) := T.Hid.mk (by rw [← hC]; exact At.new _ _ _)
    clear hC
    replace B1 := T.Hid.mk (B1.out.gr (d1.alloc (.cells #[.int .i64 r.k, .int .u64 r.n.lo, .int .u64 r.n.hi, .int .u64 r.b.lo, .int .u64 r.b.hi, .int .u64 r.e.lo, .int .u64 r.e.hi, .int .u64 r.p.lo, .int .u64 r.p.hi, .int .u8 r.mu, .int .u8 r.ma, .int .i64 r.s, .int .i64 s.k, .int .u64 s.n.lo, .int .u64 s.n.hi, .int .u64 s.b.lo, .int .u64 s.b.hi, .int .u64 s.e.lo, .int .u64 s.e.hi, .int .u64 s.p.lo, .int .u64 s.p.hi, .int .u8 s.mu, .int .u8 s.ma, .int .i64 s.s, .int .i64 J.k, .int .u64 J.n.lo, .int .u64 J.n.hi, .int .u64 J.b.lo, .int .u64 J.b.hi, .int .u64 J.e.lo, .int .u64 J.e.hi, .int .u64 J.p.lo, .int .u64 J.p.hi, .int .u8 J.mu, .int .u8 J.ma, .int .i64 J.s, .int .i64 O.k, .int .u64 O.n.lo, .int .u64 O.n.hi, .int .u64 O.b.lo, .int .u64 O.b.hi, .int .u64 O.e.lo, .int .u64 O.e.hi, .int .u64 O.p.lo, .int .u64 O.p.hi, .int .u8 O.mu, .int .u8 O.ma, .int .i64 O.s] 28)))
    replace B2 := T.Hid.mk (B2.out.gr (d1.alloc (.cells #[.int .i64 r.k, .int .u64 r.n.lo, .int .u64 r.n.hi, .int .u64 r.b.lo, .int .u64 r.b.hi, .int .u64 r.e.lo, .int .u64 r.e.hi, .int .u64 r.p.lo, .int .u64 r.p.hi, .int .u8 r.mu, .int .u8 r.ma, .int .i64 r.s, .int .i64 s.k, .int .u64 s.n.lo, .int .u64 s.n.hi, .int .u64 s.b.lo, .int .u64 s.b.hi, .int .u64 s.e.lo, .int .u64 s.e.hi, .int .u64 s.p.lo, .int .u64 s.p.hi, .int .u8 s.mu, .int .u8 s.ma, .int .i64 s.s, .int .i64 J.k, .int .u64 J.n.lo, .int .u64 J.n.hi, .int .u64 J.b.lo, .int .u64 J.b.hi, .int .u64 J.e.lo, .int .u64 J.e.hi, .int .u64 J.p.lo, .int .u64 J.p.hi, .int .u8 J.mu, .int .u8 J.ma, .int .i64 J.s, .int .i64 O.k, .int .u64 O.n.lo, .int .u64 O.n.hi, .int .u64 O.b.lo, .int .u64 O.b.hi, .int .u64 O.e.lo, .int .u64 O.e.hi, .int .u64 O.p.lo, .int .u64 O.p.hi, .int .u8 O.mu, .int .u8 O.ma, .int .i64 O.s] 28)))
    replace B3 := T.Hid.mk (B3.out.gr (d1.alloc (.cells #[.int .i64 r.k, .int .u64 r.n.lo, .int .u64 r.n.hi, .int .u64 r.b.lo, .int .u64 r.b.hi, .int .u64 r.e.lo, .int .u64 r.e.hi, .int .u64 r.p.lo, .int .u64 r.p.hi, .int .u8 r.mu, .int .u8 r.ma, .int .i64 r.s, .int .i64 s.k, .int .u64 s.n.lo, .int .u64 s.n.hi, .int .u64 s.b.lo, .int .u64 s.b.hi, .int .u64 s.e.lo, .int .u64 s.e.hi, .int .u64 s.p.lo, .int .u64 s.p.hi, .int .u8 s.mu, .int .u8 s.ma, .int .i64 s.s, .int .i64 J.k, .int .u64 J.n.lo, .int .u64 J.n.hi, .int .u64 J.b.lo, .int .u64 J.b.hi, .int .u64 J.e.lo, .int .u64 J.e.hi, .int .u64 J.p.lo, .int .u64 J.p.hi, .int .u8 J.mu, .int .u8 J.ma, .int .i64 J.s, .int .i64 O.k, .int .u64 O.n.lo, .int .u64 O.n.hi, .int .u64 O.b.lo, .int .u64 O.b.hi, .int .u64 O.e.lo, .int .u64 O.e.hi, .int .u64 O.p.lo, .int .u64 O.p.hi, .int .u8 O.mu, .int .u8 O.ma, .int .i64 O.s] 28)))
    replace G := T.Hid.mk (G.out.trans (d1.alloc (.cells #[.int .i64 r.k, .int .u64 r.n.lo, .int .u64 r.n.hi, .int .u64 r.b.lo, .int .u64 r.b.hi, .int .u64 r.e.lo, .int .u64 r.e.hi, .int .u64 r.p.lo, .int .u64 r.p.hi, .int .u8 r.mu, .int .u8 r.ma, .int .i64 r.s, .int .i64 s.k, .int .u64 s.n.lo, .int .u64 s.n.hi, .int .u64 s.b.lo, .int .u64 s.b.hi, .int .u64 s.e.lo, .int .u64 s.e.hi, .int .u64 s.p.lo, .int .u64 s.p.hi, .int .u8 s.mu, .int .u8 s.ma, .int .i64 s.s, .int .i64 J.k, .int .u64 J.n.lo, .int .u64 J.n.hi, .int .u64 J.b.lo, .int .u64 J.b.hi, .int .u64 J.e.lo, .int .u64 J.e.hi, .int .u64 J.p.lo, .int .u64 J.p.hi, .int .u8 J.mu, .int .u8 J.ma, .int .i64 J.s, .int .i64 O.k, .int .u64 O.n.lo, .int .u64 O.n.hi, .int .u64 O.b.lo, .int .u64 O.b.hi, .int .u64 O.e.lo, .int .u64 O.e.hi, .int .u64 O.p.lo, .int .u64 O.p.hi, .int .u8 O.mu, .int .u8 O.ma, .int .i64 O.s] 28)))
    clear d1 B0 B4 h3
    go_upto_region 8 with fail
    refine wp_world (fun Wl => At Wl wq.heap.size (rowV [] RT.vals [r, s, J, O]).toArray ∧ At Wl (w.heap.size + 1) (RT.vals s).toArray ∧ At Wl (w.heap.size + 1 + 1) (Tt.vals t).toArray ∧ At Wl (w.heap.size + 1 + 1 + 1) (Vv.vals v).toArray ∧ Gr w Wl) ⟨BL.out, B1.out, B2.out, B3.out, G.out⟩ ?_
    clear BL B1 B2 B3 G
    generalize wq.heap.size = kl
    rintro Wl ⟨BL, B1, B2, B3, G⟩
    replace BL := T.Hid.mk BL
    replace B1 := T.Hid.mk B1
    replace B2 := T.Hid.mk B2
    replace B3 := T.Hid.mk B3
    replace G := T.Hid.mk G
    go_loopw [13] (fun i wr => ∃ j : Nat, i = .int .i64 j ∧ j ≤ 4 ∧ T.Hid (At wr (w.heap.size + 1) (RT.vals s).toArray) ∧ T.Hid (At wr (w.heap.size + 1 + 1) (Tt.vals t).toArray) ∧ T.Hid (At wr (w.heap.size + 1 + 1 + 1) (Vv.vals v).toArray) ∧ T.Hid (At wr kl (rowV [] RT.vals [r, s, J, O]).toArray) ∧ T.Hid (Gr w wr)) (fun i _ => 4 - (intOf i).toNat)
    case atStart => exact ⟨0, rfl, by omega, B1, B2, B3, BL, G⟩
    case round =>
      clear B1 B2 B3 BL G
      obtain ⟨j, rfl, hj, B1, B2, B3, BL, G⟩ := hrel
      by_cases hlt : j < 4
      · have hl4 : j < [r, s, J, O].length := hlt
        have hE := T.Hid.mk (fun (W : World) (q : Gr wr W) => (BL.out.gr q).elem rt_len j hl4 (j * 12) (by simp))
        have rE := hL.out _ (List.getElem_mem hl4)
        generalize [r, s, J, O][j] = E at *
        have hjl : (j : Int) < 4 := by omega
        have g1 := T.Hid.mk (e1.out E)
        have g2 := T.Hid.mk (e2.out E)
        have k4 := T.Hid.mk (fun W => h4.out E rE W)
        have k5 := T.Hid.mk (fun W => h5.out E rE W)
        have k6 := T.Hid.mk (fun W => h6.out E rE W)
        generalize E.nm.sure t = u1 at *
        generalize E.nm.has v = u2 at *
        generalize s.nm.und E.nm = u4 at *
        have gr := T.Hid.mk (Gr.refl wr)
        go_upto_region 10 with fail
        have KS : T.Hid (∀ W, Gr wr W → W.rangeAt kl (j * 12) (RT.vals E) ∧ W.rangeAt (w.heap.size + 1 + 1) 0 (Tt.vals t)) := T.Hid.mk (fun W g => ⟨hE.out W (gr.out.trans g), (B2.out.gr g).range⟩)
        have d1 : Gr wr wr.drew := (Gr.refl _).drew
        refine wp_region_held_drew (S := (fun W => W.rangeAt kl (j * 12) (RT.vals E) ∧ W.rangeAt (w.heap.size + 1 + 1) 0 (Tt.vals t))) (by kernel_rfl) (KS.out _ d1) (fun hHeld => ?_)
        refine wpAnyH_take (i := 0) (oi := { dst := some 57, op := Op.move (Operand.tmp 12), type := 39, pos := "order.go:92", after := #[], guard := none }) (v := ?_) rfl (by kernel_rfl) (by kernel_rfl) (by kernel_rfl) (fun _ _ _ h => h) (Or.inl ⟨by rfl, ?_⟩) (by assumption) ?_
        rotate_left
        · intro w hSw; (try dsimp only at hSw); go_simp; first | done | with_reducible rfl
        try simp only [Act.put, List.setIfInBounds_toArray, List.set_cons_zero, List.set_cons_succ]
        refine wpAnyH_take (i := 1) (oi := { dst := some 58, op := Op.move (Operand.tmp 13), type := 3, pos := "order.go:92", after := #[], guard := none }) (v := ?_) rfl (by kernel_rfl) (by kernel_rfl) (by kernel_rfl) (fun _ _ _ h => h) (Or.inl ⟨by rfl, ?_⟩) (by assumption) ?_
        rotate_left
        · intro w hSw; (try dsimp only at hSw); go_simp; first | done | with_reducible rfl
        try simp only [Act.put, List.setIfInBounds_toArray, List.set_cons_zero, List.set_cons_succ]
        refine wpAnyH_take (i := 2) (oi := { dst := some 59, op := Op.indexAddr 39 (Operand.tmp 57) (Operand.tmp 58), type := 0, pos := "order.go:92", after := #[{ on := 0, ground := Ground.data }, { on := 1, ground := Ground.data }], guard := none }) (v := ?_) rfl (by kernel_rfl) (by kernel_rfl) (by kernel_rfl) (fun _ _ _ h => h) (Or.inl ⟨by rfl, ?_⟩) (by assumption) ?_
        rotate_left
        · intro w hSw; (try dsimp only at hSw); go_simp; first | done | with_reducible rfl
        try simp only [Act.put, List.setIfInBounds_toArray, List.set_cons_zero, List.set_cons_succ]
        refine wpAnyH_take (i := 3) (oi := { dst := some 60, op := Op.load 28 (Operand.tmp 59), type := 28, pos := "order.go:92", after := #[{ on := 2, ground := Ground.data }], guard := none }) (v := _) rfl (by kernel_rfl) (by kernel_rfl) (by kernel_rfl) (fun _ _ _ h => h) (yieldsIf_load_mid (by rfl) _ _ rfl _ _ rfl _ _ (fun _ h => h.1) Try.underlying28 rfl info28) (by assumption) ?_
        try simp only [Act.put, List.setIfInBounds_toArray, List.set_cons_zero, List.set_cons_succ]
        refine wpAnyH_take (i := 4) (oi := { dst := some 61, op := Op.load 30 (Operand.tmp 6), type := 30, pos := "order.go:92", after := #[], guard := none }) (v := _) rfl (by kernel_rfl) (by kernel_rfl) (by kernel_rfl) (fun _ _ _ h => h) (yieldsIf_load_mid (by rfl) _ _ rfl _ _ rfl _ _ (fun _ h => h.2) Try.underlying30 rfl info30) (by assumption) ?_
        try simp only [Act.put, List.setIfInBounds_toArray, List.set_cons_zero, List.set_cons_succ]
        refine wpAnyH_ready (rs := [5]) (by kernel_rfl) (by simp) ?_
        refine AllReadyH.cons (o := { dst := some 62, op := Op.call { callee := Callee.value (Operand.func 8), args := #[Operand.tmp 60, Operand.tmp 61], argTypes := #[28, 30] }, type := 4, pos := "order.go:92", after := #[{ on := 3, ground := Ground.data }, { on := 4, ground := Ground.data }], guard := none }) rfl (fun K hK => ?_) AllReadyH.nil
        go_simp
        go_wp2_with ((go_at_call 8; refine (k4.out _).mono ?_; rintro x wq ⟨rfl, q9⟩; have d1 : Gr wr wq := Gr.trans (by (repeat (first | with_reducible assumption | with_reducible exact Gr.refl _ | with_reducible refine Gr.drew ?_ | with_reducible refine Gr.alloc ?_ _))) q9; clear q9))
        refine hK.out _ _ (KS.out _ d1) (fun hHeld => ?_)
        clear hK K
        try simp only [Act.put, List.setIfInBounds_toArray, List.set_cons_zero, List.set_cons_succ]
        refine wpAnyH_take (i := 6) (oi := { dst := some 14, op := Op.assign (Operand.tmp 62), type := 4, pos := "order.go:92", after := #[{ on := 5, ground := Ground.data }, { on := 5, ground := Ground.chain }, { on := 0, ground := Ground.phase }, { on := 1, ground := Ground.phase }, { on := 2, ground := Ground.phase }, { on := 3, ground := Ground.phase }, { on := 4, ground := Ground.phase }, { on := 5, ground := Ground.phase }], guard := none }) (v := ?_) rfl (by kernel_rfl) (by kernel_rfl) (by kernel_rfl) (fun _ _ _ h => h) (Or.inl ⟨by rfl, ?_⟩) (by assumption) ?_
        rotate_left
        · intro w hSw; (try dsimp only at hSw); go_simp; first | done | with_reducible rfl
        try simp only [Act.put, List.setIfInBounds_toArray, List.set_cons_zero, List.set_cons_succ]
        refine wpAnyH_done (by kernel_rfl) ?_ _
        clear hHeld KS
        replace B1 := T.Hid.mk (B1.out.gr d1)
        replace B2 := T.Hid.mk (B2.out.gr d1)
        replace B3 := T.Hid.mk (B3.out.gr d1)
        replace BL := T.Hid.mk (BL.out.gr d1)
        replace G := T.Hid.mk (G.out.trans d1)
        replace gr := T.Hid.mk (gr.out.trans d1)
        clear d1
        generalize wq = x1 at *
        go_upto_region 11 with fail
        have KS : T.Hid (∀ W, Gr x1 W → W.rangeAt kl (j * 12) (RT.vals E) ∧ W.rangeAt (w.heap.size + 1 + 1 + 1) 0 (Vv.vals v)) := T.Hid.mk (fun W g => ⟨hE.out W (gr.out.trans g), (B3.out.gr g).range⟩)
        have d1 : Gr x1 x1.drew := (Gr.refl _).drew
        refine wp_region_held_drew (S := (fun W => W.rangeAt kl (j * 12) (RT.vals E) ∧ W.rangeAt (w.heap.size + 1 + 1 + 1) 0 (Vv.vals v))) (by kernel_rfl) (KS.out _ d1) (fun hHeld => ?_)
        refine wpAnyH_take (i := 0) (oi := { dst := some 63, op := Op.move (Operand.tmp 12), type := 39, pos := "order.go:93", after := #[], guard := none }) (v := ?_) rfl (by kernel_rfl) (by kernel_rfl) (by kernel_rfl) (fun _ _ _ h => h) (Or.inl ⟨by rfl, ?_⟩) (by assumption) ?_
        rotate_left
        · intro w hSw; (try dsimp only at hSw); go_simp; first | done | with_reducible rfl
        try simp only [Act.put, List.setIfInBounds_toArray, List.set_cons_zero, List.set_cons_succ]
        refine wpAnyH_take (i := 1) (oi := { dst := some 64, op := Op.move (Operand.tmp 13), type := 3, pos := "order.go:93", after := #[], guard := none }) (v := ?_) rfl (by kernel_rfl) (by kernel_rfl) (by kernel_rfl) (fun _ _ _ h => h) (Or.inl ⟨by rfl, ?_⟩) (by assumption) ?_
        rotate_left
        · intro w hSw; (try dsimp only at hSw); go_simp; first | done | with_reducible rfl
        try simp only [Act.put, List.setIfInBounds_toArray, List.set_cons_zero, List.set_cons_succ]
        refine wpAnyH_take (i := 2) (oi := { dst := some 65, op := Op.indexAddr 39 (Operand.tmp 63) (Operand.tmp 64), type := 0, pos := "order.go:93", after := #[{ on := 0, ground := Ground.data }, { on := 1, ground := Ground.data }], guard := none }) (v := ?_) rfl (by kernel_rfl) (by kernel_rfl) (by kernel_rfl) (fun _ _ _ h => h) (Or.inl ⟨by rfl, ?_⟩) (by assumption) ?_
        rotate_left
        · intro w hSw; (try dsimp only at hSw); go_simp; first | done | with_reducible rfl
        try simp only [Act.put, List.setIfInBounds_toArray, List.set_cons_zero, List.set_cons_succ]
        refine wpAnyH_take (i := 3) (oi := { dst := some 66, op := Op.load 28 (Operand.tmp 65), type := 28, pos := "order.go:93", after := #[{ on := 2, ground := Ground.data }], guard := none }) (v := _) rfl (by kernel_rfl) (by kernel_rfl) (by kernel_rfl) (fun _ _ _ h => h) (yieldsIf_load_mid (by rfl) _ _ rfl _ _ rfl _ _ (fun _ h => h.1) Try.underlying28 rfl info28) (by assumption) ?_
        try simp only [Act.put, List.setIfInBounds_toArray, List.set_cons_zero, List.set_cons_succ]
        refine wpAnyH_take (i := 4) (oi := { dst := some 67, op := Op.load 34 (Operand.tmp 7), type := 34, pos := "order.go:93", after := #[], guard := none }) (v := _) rfl (by kernel_rfl) (by kernel_rfl) (by kernel_rfl) (fun _ _ _ h => h) (yieldsIf_load_mid (by rfl) _ _ rfl _ _ rfl _ _ (fun _ h => h.2) Try.underlying34 rfl info34) (by assumption) ?_
        try simp only [Act.put, List.setIfInBounds_toArray, List.set_cons_zero, List.set_cons_succ]
        refine wpAnyH_ready (rs := [5]) (by kernel_rfl) (by simp) ?_
        refine AllReadyH.cons (o := { dst := some 68, op := Op.call { callee := Callee.value (Operand.func 10), args := #[Operand.tmp 66, Operand.tmp 67], argTypes := #[28, 34] }, type := 4, pos := "order.go:93", after := #[{ on := 3, ground := Ground.data }, { on := 4, ground := Ground.data }], guard := none }) rfl (fun K hK => ?_) AllReadyH.nil
        go_simp
        go_wp2_with ((go_at_call 10; refine (k5.out _).mono ?_; rintro x wq ⟨rfl, q9⟩; have d1 : Gr x1 wq := Gr.trans (by (repeat (first | with_reducible assumption | with_reducible exact Gr.refl _ | with_reducible refine Gr.drew ?_ | with_reducible refine Gr.alloc ?_ _))) q9; clear q9))
        refine hK.out _ _ (KS.out _ d1) (fun hHeld => ?_)
        clear hK K
        try simp only [Act.put, List.setIfInBounds_toArray, List.set_cons_zero, List.set_cons_succ]
        refine wpAnyH_take (i := 6) (oi := { dst := some 15, op := Op.assign (Operand.tmp 68), type := 4, pos := "order.go:93", after := #[{ on := 5, ground := Ground.data }, { on := 5, ground := Ground.chain }, { on := 0, ground := Ground.phase }, { on := 1, ground := Ground.phase }, { on := 2, ground := Ground.phase }, { on := 3, ground := Ground.phase }, { on := 4, ground := Ground.phase }, { on := 5, ground := Ground.phase }], guard := none }) (v := ?_) rfl (by kernel_rfl) (by kernel_rfl) (by kernel_rfl) (fun _ _ _ h => h) (Or.inl ⟨by rfl, ?_⟩) (by assumption) ?_
        rotate_left
        · intro w hSw; (try dsimp only at hSw); go_simp; first | done | with_reducible rfl
        try simp only [Act.put, List.setIfInBounds_toArray, List.set_cons_zero, List.set_cons_succ]
        refine wpAnyH_done (by kernel_rfl) ?_ _
        clear hHeld KS
        replace B1 := T.Hid.mk (B1.out.gr d1)
        replace B2 := T.Hid.mk (B2.out.gr d1)
        replace B3 := T.Hid.mk (B3.out.gr d1)
        replace BL := T.Hid.mk (BL.out.gr d1)
        replace G := T.Hid.mk (G.out.trans d1)
        replace gr := T.Hid.mk (gr.out.trans d1)
        clear d1
        generalize wq = x2 at *
        go_upto_region 12 with fail
        have KS : T.Hid (∀ W, Gr x2 W → W.rangeAt (w.heap.size + 1) 0 (RT.vals s) ∧ W.rangeAt kl (j * 12) (RT.vals E)) := T.Hid.mk (fun W g => ⟨(B1.out.gr g).range, hE.out W (gr.out.trans g)⟩)
        have d1 : Gr x2 x2.drew := (Gr.refl _).drew
        refine wp_region_held_drew (S := (fun W => W.rangeAt (w.heap.size + 1) 0 (RT.vals s) ∧ W.rangeAt kl (j * 12) (RT.vals E))) (by kernel_rfl) (KS.out _ d1) (fun hHeld => ?_)
        refine wpAnyH_take (i := 0) (oi := { dst := some 69, op := Op.load 28 (Operand.tmp 5), type := 28, pos := "order.go:94", after := #[], guard := none }) (v := _) rfl (by kernel_rfl) (by kernel_rfl) (by kernel_rfl) (fun _ _ _ h => h) (yieldsIf_load_mid (by rfl) _ _ rfl _ _ rfl _ _ (fun _ h => h.1) Try.underlying28 rfl info28) (by assumption) ?_
        try simp only [Act.put, List.setIfInBounds_toArray, List.set_cons_zero, List.set_cons_succ]
        refine wpAnyH_take (i := 1) (oi := { dst := some 70, op := Op.move (Operand.tmp 12), type := 39, pos := "order.go:94", after := #[], guard := none }) (v := ?_) rfl (by kernel_rfl) (by kernel_rfl) (by kernel_rfl) (fun _ _ _ h => h) (Or.inl ⟨by rfl, ?_⟩) (by assumption) ?_
        rotate_left
        · intro w hSw; (try dsimp only at hSw); go_simp; first | done | with_reducible rfl
        try simp only [Act.put, List.setIfInBounds_toArray, List.set_cons_zero, List.set_cons_succ]
        refine wpAnyH_take (i := 2) (oi := { dst := some 71, op := Op.move (Operand.tmp 13), type := 3, pos := "order.go:94", after := #[], guard := none }) (v := ?_) rfl (by kernel_rfl) (by kernel_rfl) (by kernel_rfl) (fun _ _ _ h => h) (Or.inl ⟨by rfl, ?_⟩) (by assumption) ?_
        rotate_left
        · intro w hSw; (try dsimp only at hSw); go_simp; first | done | with_reducible rfl
        try simp only [Act.put, List.setIfInBounds_toArray, List.set_cons_zero, List.set_cons_succ]
        refine wpAnyH_take (i := 3) (oi := { dst := some 72, op := Op.indexAddr 39 (Operand.tmp 70) (Operand.tmp 71), type := 0, pos := "order.go:94", after := #[{ on := 1, ground := Ground.data }, { on := 2, ground := Ground.data }], guard := none }) (v := ?_) rfl (by kernel_rfl) (by kernel_rfl) (by kernel_rfl) (fun _ _ _ h => h) (Or.inl ⟨by rfl, ?_⟩) (by assumption) ?_
        rotate_left
        · intro w hSw; (try dsimp only at hSw); go_simp; first | done | with_reducible rfl
        try simp only [Act.put, List.setIfInBounds_toArray, List.set_cons_zero, List.set_cons_succ]
        refine wpAnyH_take (i := 4) (oi := { dst := some 73, op := Op.load 28 (Operand.tmp 72), type := 28, pos := "order.go:94", after := #[{ on := 3, ground := Ground.data }], guard := none }) (v := _) rfl (by kernel_rfl) (by kernel_rfl) (by kernel_rfl) (fun _ _ _ h => h) (yieldsIf_load_mid (by rfl) _ _ rfl _ _ rfl _ _ (fun _ h => h.2) Try.underlying28 rfl info28) (by assumption) ?_
        try simp only [Act.put, List.setIfInBounds_toArray, List.set_cons_zero, List.set_cons_succ]
        refine wpAnyH_ready (rs := [5]) (by kernel_rfl) (by simp) ?_
        refine AllReadyH.cons (o := { dst := some 74, op := Op.call { callee := Callee.value (Operand.func 11), args := #[Operand.tmp 69, Operand.tmp 73], argTypes := #[28, 28] }, type := 4, pos := "order.go:94", after := #[{ on := 0, ground := Ground.data }, { on := 4, ground := Ground.data }], guard := none }) rfl (fun K hK => ?_) AllReadyH.nil
        go_simp
        go_wp2_with ((go_at_call 11; refine (k6.out _).mono ?_; rintro x wq ⟨rfl, q9⟩; have d1 : Gr x2 wq := Gr.trans (by (repeat (first | with_reducible assumption | with_reducible exact Gr.refl _ | with_reducible refine Gr.drew ?_ | with_reducible refine Gr.alloc ?_ _))) q9; clear q9))
        refine hK.out _ _ (KS.out _ d1) (fun hHeld => ?_)
        clear hK K
        try simp only [Act.put, List.setIfInBounds_toArray, List.set_cons_zero, List.set_cons_succ]
        refine wpAnyH_take (i := 6) (oi := { dst := some 16, op := Op.assign (Operand.tmp 74), type := 4, pos := "order.go:94", after := #[{ on := 5, ground := Ground.data }, { on := 5, ground := Ground.chain }, { on := 0, ground := Ground.phase }, { on := 1, ground := Ground.phase }, { on := 2, ground := Ground.phase }, { on := 3, ground := Ground.phase }, { on := 4, ground := Ground.phase }, { on := 5, ground := Ground.phase }], guard := none }) (v := ?_) rfl (by kernel_rfl) (by kernel_rfl) (by kernel_rfl) (fun _ _ _ h => h) (Or.inl ⟨by rfl, ?_⟩) (by assumption) ?_
        rotate_left
        · intro w hSw; (try dsimp only at hSw); go_simp; first | done | with_reducible rfl
        try simp only [Act.put, List.setIfInBounds_toArray, List.set_cons_zero, List.set_cons_succ]
        refine wpAnyH_done (by kernel_rfl) ?_ _
        clear hHeld KS
        replace B1 := T.Hid.mk (B1.out.gr d1)
        replace B2 := T.Hid.mk (B2.out.gr d1)
        replace B3 := T.Hid.mk (B3.out.gr d1)
        replace BL := T.Hid.mk (BL.out.gr d1)
        replace G := T.Hid.mk (G.out.trans d1)
        replace gr := T.Hid.mk (gr.out.trans d1)
        clear d1
        generalize wq = x3 at *
        go_upto_region 13 with fail
        refine wp_region_lit ?_
        refine wpList_plain rfl (fun K hK => ?_)
        refine wp_load_mid _ _ rfl _ 0 rfl (RT.vals s) _ B1.out.range Try.underlying28 rfl info28 (hK _ _ ?_)
        clear hK K
        try simp only [Act.put, List.setIfInBounds_toArray, List.set_cons_zero, List.set_cons_succ]
        refine wpList_plain rfl (fun K hK => ?_)
        refine wp_load_mid _ _ rfl _ 0 rfl (Tt.vals t) _ B2.out.range Try.underlying30 rfl info30 (hK _ _ ?_)
        clear hK K
        try simp only [Act.put, List.setIfInBounds_toArray, List.set_cons_zero, List.set_cons_succ]
        refine wpList_plain rfl (fun K hK => ?_)
        go_simp
        (go_at_call 8; refine (h7.out _).mono ?_; rintro x wq ⟨rfl, q9⟩; replace q9 := T.Hid.mk q9)
        refine hK _ _ ?_
        clear hK K
        try simp only [Act.put, List.setIfInBounds_toArray, List.set_cons_zero, List.set_cons_succ]
        refine wpList_plain rfl (fun K hK => ?_)
        go_simp
        refine hK _ _ ?_
        clear hK K
        try simp only [Act.put, List.setIfInBounds_toArray, List.set_cons_zero, List.set_cons_succ]
        replace B1 := T.Hid.mk (B1.out.gr q9.out)
        replace B2 := T.Hid.mk (B2.out.gr q9.out)
        replace B3 := T.Hid.mk (B3.out.gr q9.out)
        replace BL := T.Hid.mk (BL.out.gr q9.out)
        replace G := T.Hid.mk (G.out.trans q9.out)
        replace gr := T.Hid.mk (gr.out.trans q9.out)
        clear q9
        generalize wq = x4 at *
        go_upto_region 14 with fail
        have KS : T.Hid (∀ W, Gr x4 W → W.rangeAt (w.heap.size + 1 + 1 + 1) 0 (Vv.vals v) ∧ W.rangeAt (w.heap.size + 1 + 1) 0 (Tt.vals t)) := T.Hid.mk (fun W g => ⟨(B3.out.gr g).range, (B2.out.gr g).range⟩)
        have d1 : Gr x4 x4.drew := (Gr.refl _).drew
        refine wp_region_held_drew (S := (fun W => W.rangeAt (w.heap.size + 1 + 1 + 1) 0 (Vv.vals v) ∧ W.rangeAt (w.heap.size + 1 + 1) 0 (Tt.vals t))) (by kernel_rfl) (KS.out _ d1) (fun hHeld => ?_)
        refine wpAnyH_take (i := 0) (oi := { dst := some 78, op := Op.load 34 (Operand.tmp 7), type := 34, pos := "order.go:96", after := #[], guard := none }) (v := _) rfl (by kernel_rfl) (by kernel_rfl) (by kernel_rfl) (fun _ _ _ h => h) (yieldsIf_load_mid (by rfl) _ _ rfl _ _ rfl _ _ (fun _ h => h.1) Try.underlying34 rfl info34) (by assumption) ?_
        try simp only [Act.put, List.setIfInBounds_toArray, List.set_cons_zero, List.set_cons_succ]
        refine wpAnyH_take (i := 1) (oi := { dst := some 79, op := Op.load 30 (Operand.tmp 6), type := 30, pos := "order.go:96", after := #[], guard := none }) (v := _) rfl (by kernel_rfl) (by kernel_rfl) (by kernel_rfl) (fun _ _ _ h => h) (yieldsIf_load_mid (by rfl) _ _ rfl _ _ rfl _ _ (fun _ h => h.2) Try.underlying30 rfl info30) (by assumption) ?_
        try simp only [Act.put, List.setIfInBounds_toArray, List.set_cons_zero, List.set_cons_succ]
        refine wpAnyH_ready (rs := [2]) (by kernel_rfl) (by simp) ?_
        refine AllReadyH.cons (o := { dst := some 80, op := Op.call { callee := Callee.value (Operand.func 13), args := #[Operand.tmp 79], argTypes := #[30] }, type := 30, pos := "order.go:96", after := #[{ on := 1, ground := Ground.data }], guard := none }) rfl (fun K hK => ?_) AllReadyH.nil
        go_simp
        go_wp2_with (first | (go_at_call 13; refine (h8.out _).mono ?_; rintro x wq ⟨rfl, q9⟩; have d1 : Gr x4 wq := Gr.trans (by (repeat (first | with_reducible assumption | with_reducible exact Gr.refl _ | with_reducible refine Gr.drew ?_ | with_reducible refine Gr.alloc ?_ _))) q9; clear q9) | (go_at_call 12; refine (h9.out _).mono ?_; rintro x wq ⟨rfl, q9⟩; have d1 : Gr x4 wq := Gr.trans (by (repeat (first | with_reducible assumption | with_reducible exact Gr.refl _ | with_reducible refine Gr.drew ?_ | with_reducible refine Gr.alloc ?_ _))) q9; clear q9))
        refine hK.out _ _ (KS.out _ d1) (fun hHeld => ?_)
        clear hK K
        try simp only [Act.put, List.setIfInBounds_toArray, List.set_cons_zero, List.set_cons_succ]
        refine wpAnyH_ready (rs := [3]) (by kernel_rfl) (by simp) ?_
        refine AllReadyH.cons (o := { dst := some 81, op := Op.call { callee := Callee.value (Operand.func 12), args := #[Operand.tmp 78, Operand.tmp 80], argTypes := #[34, 30] }, type := 4, pos := "order.go:96", after := #[{ on := 0, ground := Ground.data }, { on := 2, ground := Ground.data }, { on := 2, ground := Ground.chain }], guard := none }) rfl (fun K hK => ?_) AllReadyH.nil
        go_simp
        go_wp2_with (first | (go_at_call 13; refine (h8.out _).mono ?_; rintro x wq ⟨rfl, q9⟩; have d1 : Gr x4 wq := Gr.trans (by (repeat (first | with_reducible assumption | with_reducible exact Gr.refl _ | with_reducible refine Gr.drew ?_ | with_reducible refine Gr.alloc ?_ _))) q9; clear q9) | (go_at_call 12; refine (h9.out _).mono ?_; rintro x wq ⟨rfl, q9⟩; have d1 : Gr x4 wq := Gr.trans (by (repeat (first | with_reducible assumption | with_reducible exact Gr.refl _ | with_reducible refine Gr.drew ?_ | with_reducible refine Gr.alloc ?_ _))) q9; clear q9))
        refine hK.out _ _ (KS.out _ d1) (fun hHeld => ?_)
        clear hK K
        try simp only [Act.put, List.setIfInBounds_toArray, List.set_cons_zero, List.set_cons_succ]
        refine wpAnyH_take (i := 4) (oi := { dst := some 18, op := Op.assign (Operand.tmp 81), type := 4, pos := "order.go:96", after := #[{ on := 3, ground := Ground.data }, { on := 3, ground := Ground.chain }, { on := 0, ground := Ground.phase }, { on := 1, ground := Ground.phase }, { on := 2, ground := Ground.phase }, { on := 3, ground := Ground.phase }], guard := none }) (v := ?_) rfl (by kernel_rfl) (by kernel_rfl) (by kernel_rfl) (fun _ _ _ h => h) (Or.inl ⟨by rfl, ?_⟩) (by assumption) ?_
        rotate_left
        · intro w hSw; (try dsimp only at hSw); go_simp; first | done | with_reducible rfl
        try simp only [Act.put, List.setIfInBounds_toArray, List.set_cons_zero, List.set_cons_succ]
        refine wpAnyH_done (by kernel_rfl) ?_ _
        clear hHeld KS
        replace B1 := T.Hid.mk (B1.out.gr d1)
        replace B2 := T.Hid.mk (B2.out.gr d1)
        replace B3 := T.Hid.mk (B3.out.gr d1)
        replace BL := T.Hid.mk (BL.out.gr d1)
        replace G := T.Hid.mk (G.out.trans d1)
        replace gr := T.Hid.mk (gr.out.trans d1)
        clear d1
        generalize wq = x5 at *
        replace g1 := g1.out
        replace g2 := g2.out
        clear hE gr
        cases u1
        · clear g1 g2
          go_wp2_with fail
          exact ⟨⟨j + 1, by go_num, by omega, B1, B2, B3, BL, G⟩, by simp [intOf]; omega⟩
        · cases u2
          · cases u4
            · clear g1 g2
              go_wp2_with fail
              exact ⟨⟨j + 1, by go_num, by omega, B1, B2, B3, BL, G⟩, by simp [intOf]; omega⟩
            · have e5 := g2 rfl rfl
              subst e5
              clear g1 g2
              go_wp2_with fail
              exact ⟨⟨j + 1, by go_num, by omega, B1, B2, B3, BL, G⟩, by simp [intOf]; omega⟩
          · have e3 := g1 rfl rfl
            subst e3
            cases u4
            · clear g1 g2
              go_wp2_with fail
              exact ⟨⟨j + 1, by go_num, by omega, B1, B2, B3, BL, G⟩, by simp [intOf]; omega⟩
            · have e5 := g2 rfl rfl
              subst e5
              clear g1 g2
              go_wp2_with fail
              exact ⟨⟨j + 1, by go_num, by omega, B1, B2, B3, BL, G⟩, by simp [intOf]; omega⟩
      · have hjl : ¬ (j : Int) < 4 := by omega
        go_wp2_with fail
        go_ret
        exact ⟨rfl, G.out⟩
  · go_upto_region 4 with fail
    refine wp_region_lit ?_
    refine wpList_plain rfl (fun K hK => ?_)
    go_simp
    refine hK _ _ ?_
    clear hK K
    try simp only [Act.put, List.setIfInBounds_toArray, List.set_cons_zero, List.set_cons_succ]
    refine wpList_plain rfl (fun K hK => ?_)
    go_simp
    refine hK _ _ ?_
    clear hK K
    try simp only [Act.put, List.setIfInBounds_toArray, List.set_cons_zero, List.set_cons_succ]
    refine wpList_plain rfl (fun K hK => ?_)
    go_simp
    refine hK _ _ ?_
    clear hK K
    try simp only [Act.put, List.setIfInBounds_toArray, List.set_cons_zero, List.set_cons_succ]
    refine BigFrame.wpList_want (by rfl) (fun K hK => ?_)
    refine wp_load_mid _ _ rfl _ 0 rfl (RT.vals O) _ B4.out.range Try.underlying28 rfl info28 (hK _ _ ?_)
    clear hK K
    try simp only [Act.put, List.setIfInBounds_toArray, List.set_cons_zero, List.set_cons_succ]
    refine BigFrame.wpList_want (by rfl) (fun K hK => ?_)
    go_simp
    refine hK _ _ ?_
    clear hK K
    try simp only [Act.put, List.setIfInBounds_toArray, List.set_cons_zero, List.set_cons_succ]
    refine BigFrame.wpList_want (by rfl) (fun K hK => ?_)
    go_simp
    refine hK _ _ ?_
    clear hK K
    try simp only [Act.put, List.setIfInBounds_toArray, List.set_cons_zero, List.set_cons_succ]
    refine BigFrame.wpList_want (by rfl) (fun K hK => ?_)
    go_simp
    refine hK _ _ ?_
    clear hK K
    try simp only [Act.put, List.setIfInBounds_toArray, List.set_cons_zero, List.set_cons_succ]
    refine wpList_skip (by rfl) ?_
    try simp only [Act.put, List.setIfInBounds_toArray, List.set_cons_zero, List.set_cons_succ]
    refine wpList_skip (by rfl) ?_
    try simp only [Act.put, List.setIfInBounds_toArray, List.set_cons_zero, List.set_cons_succ]
    refine BigFrame.wpList_want (by rfl) (fun K hK => ?_)
    go_simp
    refine hK _ _ ?_
    clear hK K
    try simp only [Act.put, List.setIfInBounds_toArray, List.set_cons_zero, List.set_cons_succ]
    refine wpList_plain rfl (fun K hK => ?_)
    go_simp
    refine hK _ _ ?_
    clear hK K
    try simp only [Act.put, List.setIfInBounds_toArray, List.set_cons_zero, List.set_cons_succ]
    refine wpList_plain rfl (fun K hK => ?_)
    go_simp
    refine hK _ _ ?_
    clear hK K
    try simp only [Act.put, List.setIfInBounds_toArray, List.set_cons_zero, List.set_cons_succ]
    refine BigFrame.wpList_want (by rfl) (fun K hK => ?_)
    refine wp_load_mid _ _ rfl _ 0 rfl (RT.vals O) _ B4.out.range Try.underlying28 rfl info28 (hK _ _ ?_)
    clear hK K
    try simp only [Act.put, List.setIfInBounds_toArray, List.set_cons_zero, List.set_cons_succ]
    refine BigFrame.wpList_want (by rfl) (fun K hK => ?_)
    go_simp
    refine hK _ _ ?_
    clear hK K
    try simp only [Act.put, List.setIfInBounds_toArray, List.set_cons_zero, List.set_cons_succ]
    refine BigFrame.wpList_want (by rfl) (fun K hK => ?_)
    go_simp
    refine hK _ _ ?_
    clear hK K
    try simp only [Act.put, List.setIfInBounds_toArray, List.set_cons_zero, List.set_cons_succ]
    refine BigFrame.wpList_want (by rfl) (fun K hK => ?_)
    go_simp
    refine hK _ _ ?_
    clear hK K
    try simp only [Act.put, List.setIfInBounds_toArray, List.set_cons_zero, List.set_cons_succ]
    refine BigFrame.wpList_want (by rfl) (fun K hK => ?_)
    go_simp
    refine hK _ _ ?_
    clear hK K
    try simp only [Act.put, List.setIfInBounds_toArray, List.set_cons_zero, List.set_cons_succ]
    refine BigFrame.wpList_want (by rfl) (fun K hK => ?_)
    go_simp
    refine hK _ _ ?_
    clear hK K
    try simp only [Act.put, List.setIfInBounds_toArray, List.set_cons_zero, List.set_cons_succ]
    refine wpList_plain rfl (fun K hK => ?_)
    go_simp
    refine hK _ _ ?_
    clear hK K
    try simp only [Act.put, List.setIfInBounds_toArray, List.set_cons_zero, List.set_cons_succ]
    clear qe qn
    go_upto_region 6 with fail
    have KS : T.Hid (∀ W, Gr W3 W → W.rangeAt w.heap.size 0 (RT.vals r) ∧ W.rangeAt (w.heap.size + 1) 0 (RT.vals s) ∧ W.rangeAt k4 0 (RT.vals O)) := T.Hid.mk (fun W g => ⟨(B0.out.gr g).range, (B1.out.gr g).range, (B4.out.gr g).range⟩)
    have d1 : Gr W3 W3.drew := (Gr.refl _).drew
    refine wp_region_held_drew (S := (fun W => W.rangeAt w.heap.size 0 (RT.vals r) ∧ W.rangeAt (w.heap.size + 1) 0 (RT.vals s) ∧ W.rangeAt k4 0 (RT.vals O))) (by kernel_rfl) (KS.out _ d1) (fun hHeld => ?_)
    refine wpAnyH_take (i := 0) (oi := { dst := some 44, op := Op.load 28 (Operand.tmp 4), type := 28, pos := "order.go:90", after := #[], guard := none }) (v := _) rfl (by kernel_rfl) (by kernel_rfl) (by kernel_rfl) (fun _ _ _ h => h) (yieldsIf_load_mid (by rfl) _ _ rfl _ _ rfl _ _ (fun _ h => h.1) Try.underlying28 rfl info28) (by assumption) ?_
    try simp only [Act.put, List.setIfInBounds_toArray, List.set_cons_zero, List.set_cons_succ]
    refine wpAnyH_take (i := 1) (oi := { dst := some 45, op := Op.load 28 (Operand.tmp 5), type := 28, pos := "order.go:90", after := #[], guard := none }) (v := _) rfl (by kernel_rfl) (by kernel_rfl) (by kernel_rfl) (fun _ _ _ h => h) (yieldsIf_load_mid (by rfl) _ _ rfl _ _ rfl _ _ (fun _ h => h.2.1) Try.underlying28 rfl info28) (by assumption) ?_
    try simp only [Act.put, List.setIfInBounds_toArray, List.set_cons_zero, List.set_cons_succ]
    refine wpAnyH_take (i := 2) (oi := { dst := some 46, op := Op.load 28 (Operand.tmp 4), type := 28, pos := "order.go:90", after := #[], guard := none }) (v := _) rfl (by kernel_rfl) (by kernel_rfl) (by kernel_rfl) (fun _ _ _ h => h) (yieldsIf_load_mid (by rfl) _ _ rfl _ _ rfl _ _ (fun _ h => h.1) Try.underlying28 rfl info28) (by assumption) ?_
    try simp only [Act.put, List.setIfInBounds_toArray, List.set_cons_zero, List.set_cons_succ]
    refine wpAnyH_take (i := 3) (oi := { dst := some 47, op := Op.load 28 (Operand.tmp 5), type := 28, pos := "order.go:90", after := #[], guard := none }) (v := _) rfl (by kernel_rfl) (by kernel_rfl) (by kernel_rfl) (fun _ _ _ h => h) (yieldsIf_load_mid (by rfl) _ _ rfl _ _ rfl _ _ (fun _ h => h.2.1) Try.underlying28 rfl info28) (by assumption) ?_
    try simp only [Act.put, List.setIfInBounds_toArray, List.set_cons_zero, List.set_cons_succ]
    refine wpAnyH_take (i := 5) (oi := { dst := some 49, op := Op.load 28 (Operand.tmp 10), type := 28, pos := "order.go:90", after := #[], guard := none }) (v := _) rfl (by kernel_rfl) (by kernel_rfl) (by kernel_rfl) (fun _ _ _ h => h) (yieldsIf_load_mid (by rfl) _ _ rfl _ _ rfl _ _ (fun _ h => h.2.2) Try.underlying28 rfl info28) (by assumption) ?_
    try simp only [Act.put, List.setIfInBounds_toArray, List.set_cons_zero, List.set_cons_succ]
    refine wpAnyH_ready (rs := [4]) (by kernel_rfl) (by simp) ?_
    refine AllReadyH.cons (o := { dst := some 48, op := Op.call { callee := Callee.value (Operand.func 9), args := #[Operand.tmp 46, Operand.tmp 47], argTypes := #[28, 28] }, type := 28, pos := "order.go:90", after := #[{ on := 2, ground := Ground.data }, { on := 3, ground := Ground.data }], guard := none }) rfl (fun K hK => ?_) AllReadyH.nil
    go_simp
    go_wp2_with ((go_at_call 9; refine (h3.out _).mono ?_; rintro x wq ⟨rfl, q9⟩; have d1 : Gr W3 wq := Gr.trans (by (repeat (first | with_reducible assumption | with_reducible exact Gr.refl _ | with_reducible refine Gr.drew ?_ | with_reducible refine Gr.alloc ?_ _))) q9; clear q9))
    refine hK.out _ _ (KS.out _ d1) (fun hHeld => ?_)
    clear hK K
    try simp only [Act.put, List.setIfInBounds_toArray, List.set_cons_zero, List.set_cons_succ]
    refine wpAnyH_ready (rs := [6]) (by kernel_rfl) (by simp) ?_
    refine AllReadyH.cons (o := { dst := some 50, op := Op.buildSlice 39 4 #[(0, Operand.tmp 44), (1, Operand.tmp 45), (2, Operand.tmp 48), (3, Operand.tmp 49)], type := 39, pos := "order.go:90", after := #[{ on := 0, ground := Ground.data }, { on := 1, ground := Ground.data }, { on := 4, ground := Ground.data }, { on := 5, ground := Ground.data }], guard := none }) rfl (fun K hK => ?_) AllReadyH.nil
    simp only [RT.vals]
    go_simp
    refine hK.out _ _ (KS.out _ (d1.alloc _)) (fun hHeld => ?_)
    clear hK K
    try simp only [Act.put, List.setIfInBounds_toArray, List.set_cons_zero, List.set_cons_succ]
    refine wpAnyH_take (i := 7) (oi := { dst := some 12, op := Op.assign (Operand.tmp 50), type := 39, pos := "order.go:90", after := #[{ on := 6, ground := Ground.data }, { on := 4, ground := Ground.chain }, { on := 0, ground := Ground.phase }, { on := 1, ground := Ground.phase }, { on := 2, ground := Ground.phase }, { on := 3, ground := Ground.phase }, { on := 4, ground := Ground.phase }, { on := 5, ground := Ground.phase }, { on := 6, ground := Ground.phase }], guard := none }) (v := ?_) rfl (by kernel_rfl) (by kernel_rfl) (by kernel_rfl) (fun _ _ _ h => h) (Or.inl ⟨by rfl, ?_⟩) (by assumption) ?_
    rotate_left
    · intro w hSw; (try dsimp only at hSw); go_simp; first | done | with_reducible rfl
    try simp only [Act.put, List.setIfInBounds_toArray, List.set_cons_zero, List.set_cons_succ]
    refine wpAnyH_done (by kernel_rfl) ?_ _
    clear hHeld KS
    have hC := rows4 r s J O
    have BL : T.Hid (At (wq.alloc (.cells #[.int .i64 r.k, .int .u64 r.n.lo, .int .u64 r.n.hi, .int .u64 r.b.lo, .int .u64 r.b.hi, .int .u64 r.e.lo, .int .u64 r.e.hi, .int .u64 r.p.lo, .int .u64 r.p.hi, .int .u8 r.mu, .int .u8 r.ma, .int .i64 r.s, .int .i64 s.k, .int .u64 s.n.lo, .int .u64 s.n.hi, .int .u64 s.b.lo, .int .u64 s.b.hi, .int .u64 s.e.lo, .int .u64 s.e.hi, .int .u64 s.p.lo, .int .u64 s.p.hi, .int .u8 s.mu, .int .u8 s.ma, .int .i64 s.s, .int .i64 J.k, .int .u64 J.n.lo, .int .u64 J.n.hi, .int .u64 J.b.lo, .int .u64 J.b.hi, .int .u64 J.e.lo, .int .u64 J.e.hi, .int .u64 J.p.lo, .int .u64 J.p.hi, .int .u8 J.mu, .int .u8 J.ma, .int .i64 J.s, .int .i64 O.k, .int .u64 O.n.lo, .int .u64 O.n.hi, .int .u64 O.b.lo, .int .u64 O.b.hi, .int .u64 O.e.lo, .int .u64 O.e.hi, .int .u64 O.p.lo, .int .u64 O.p.hi, .int .u8 O.mu, .int .u8 O.ma, .int .i64 O.s] 28)) wq.heap.size (rowV [] RT.vals [r, s, J, O]).toArray) := T.Hid.mk (by rw [← hC]; exact At.new _ _ _)
    clear hC
    replace B1 := T.Hid.mk (B1.out.gr (d1.alloc (.cells #[.int .i64 r.k, .int .u64 r.n.lo, .int .u64 r.n.hi, .int .u64 r.b.lo, .int .u64 r.b.hi, .int .u64 r.e.lo, .int .u64 r.e.hi, .int .u64 r.p.lo, .int .u64 r.p.hi, .int .u8 r.mu, .int .u8 r.ma, .int .i64 r.s, .int .i64 s.k, .int .u64 s.n.lo, .int .u64 s.n.hi, .int .u64 s.b.lo, .int .u64 s.b.hi, .int .u64 s.e.lo, .int .u64 s.e.hi, .int .u64 s.p.lo, .int .u64 s.p.hi, .int .u8 s.mu, .int .u8 s.ma, .int .i64 s.s, .int .i64 J.k, .int .u64 J.n.lo, .int .u64 J.n.hi, .int .u64 J.b.lo, .int .u64 J.b.hi, .int .u64 J.e.lo, .int .u64 J.e.hi, .int .u64 J.p.lo, .int .u64 J.p.hi, .int .u8 J.mu, .int .u8 J.ma, .int .i64 J.s, .int .i64 O.k, .int .u64 O.n.lo, .int .u64 O.n.hi, .int .u64 O.b.lo, .int .u64 O.b.hi, .int .u64 O.e.lo, .int .u64 O.e.hi, .int .u64 O.p.lo, .int .u64 O.p.hi, .int .u8 O.mu, .int .u8 O.ma, .int .i64 O.s] 28)))
    replace B2 := T.Hid.mk (B2.out.gr (d1.alloc (.cells #[.int .i64 r.k, .int .u64 r.n.lo, .int .u64 r.n.hi, .int .u64 r.b.lo, .int .u64 r.b.hi, .int .u64 r.e.lo, .int .u64 r.e.hi, .int .u64 r.p.lo, .int .u64 r.p.hi, .int .u8 r.mu, .int .u8 r.ma, .int .i64 r.s, .int .i64 s.k, .int .u64 s.n.lo, .int .u64 s.n.hi, .int .u64 s.b.lo, .int .u64 s.b.hi, .int .u64 s.e.lo, .int .u64 s.e.hi, .int .u64 s.p.lo, .int .u64 s.p.hi, .int .u8 s.mu, .int .u8 s.ma, .int .i64 s.s, .int .i64 J.k, .int .u64 J.n.lo, .int .u64 J.n.hi, .int .u64 J.b.lo, .int .u64 J.b.hi, .int .u64 J.e.lo, .int .u64 J.e.hi, .int .u64 J.p.lo, .int .u64 J.p.hi, .int .u8 J.mu, .int .u8 J.ma, .int .i64 J.s, .int .i64 O.k, .int .u64 O.n.lo, .int .u64 O.n.hi, .int .u64 O.b.lo, .int .u64 O.b.hi, .int .u64 O.e.lo, .int .u64 O.e.hi, .int .u64 O.p.lo, .int .u64 O.p.hi, .int .u8 O.mu, .int .u8 O.ma, .int .i64 O.s] 28)))
    replace B3 := T.Hid.mk (B3.out.gr (d1.alloc (.cells #[.int .i64 r.k, .int .u64 r.n.lo, .int .u64 r.n.hi, .int .u64 r.b.lo, .int .u64 r.b.hi, .int .u64 r.e.lo, .int .u64 r.e.hi, .int .u64 r.p.lo, .int .u64 r.p.hi, .int .u8 r.mu, .int .u8 r.ma, .int .i64 r.s, .int .i64 s.k, .int .u64 s.n.lo, .int .u64 s.n.hi, .int .u64 s.b.lo, .int .u64 s.b.hi, .int .u64 s.e.lo, .int .u64 s.e.hi, .int .u64 s.p.lo, .int .u64 s.p.hi, .int .u8 s.mu, .int .u8 s.ma, .int .i64 s.s, .int .i64 J.k, .int .u64 J.n.lo, .int .u64 J.n.hi, .int .u64 J.b.lo, .int .u64 J.b.hi, .int .u64 J.e.lo, .int .u64 J.e.hi, .int .u64 J.p.lo, .int .u64 J.p.hi, .int .u8 J.mu, .int .u8 J.ma, .int .i64 J.s, .int .i64 O.k, .int .u64 O.n.lo, .int .u64 O.n.hi, .int .u64 O.b.lo, .int .u64 O.b.hi, .int .u64 O.e.lo, .int .u64 O.e.hi, .int .u64 O.p.lo, .int .u64 O.p.hi, .int .u8 O.mu, .int .u8 O.ma, .int .i64 O.s] 28)))
    replace G := T.Hid.mk (G.out.trans (d1.alloc (.cells #[.int .i64 r.k, .int .u64 r.n.lo, .int .u64 r.n.hi, .int .u64 r.b.lo, .int .u64 r.b.hi, .int .u64 r.e.lo, .int .u64 r.e.hi, .int .u64 r.p.lo, .int .u64 r.p.hi, .int .u8 r.mu, .int .u8 r.ma, .int .i64 r.s, .int .i64 s.k, .int .u64 s.n.lo, .int .u64 s.n.hi, .int .u64 s.b.lo, .int .u64 s.b.hi, .int .u64 s.e.lo, .int .u64 s.e.hi, .int .u64 s.p.lo, .int .u64 s.p.hi, .int .u8 s.mu, .int .u8 s.ma, .int .i64 s.s, .int .i64 J.k, .int .u64 J.n.lo, .int .u64 J.n.hi, .int .u64 J.b.lo, .int .u64 J.b.hi, .int .u64 J.e.lo, .int .u64 J.e.hi, .int .u64 J.p.lo, .int .u64 J.p.hi, .int .u8 J.mu, .int .u8 J.ma, .int .i64 J.s, .int .i64 O.k, .int .u64 O.n.lo, .int .u64 O.n.hi, .int .u64 O.b.lo, .int .u64 O.b.hi, .int .u64 O.e.lo, .int .u64 O.e.hi, .int .u64 O.p.lo, .int .u64 O.p.hi, .int .u8 O.mu, .int .u8 O.ma, .int .i64 O.s] 28)))
    clear d1 B0 B4 h3
    go_upto_region 8 with fail
    refine wp_world (fun Wl => At Wl wq.heap.size (rowV [] RT.vals [r, s, J, O]).toArray ∧ At Wl (w.heap.size + 1) (RT.vals s).toArray ∧ At Wl (w.heap.size + 1 + 1) (Tt.vals t).toArray ∧ At Wl (w.heap.size + 1 + 1 + 1) (Vv.vals v).toArray ∧ Gr w Wl) ⟨BL.out, B1.out, B2.out, B3.out, G.out⟩ ?_
    clear BL B1 B2 B3 G
    generalize wq.heap.size = kl
    rintro Wl ⟨BL, B1, B2, B3, G⟩
    replace BL := T.Hid.mk BL
    replace B1 := T.Hid.mk B1
    replace B2 := T.Hid.mk B2
    replace B3 := T.Hid.mk B3
    replace G := T.Hid.mk G
    go_loopw [13] (fun i wr => ∃ j : Nat, i = .int .i64 j ∧ j ≤ 4 ∧ T.Hid (At wr (w.heap.size + 1) (RT.vals s).toArray) ∧ T.Hid (At wr (w.heap.size + 1 + 1) (Tt.vals t).toArray) ∧ T.Hid (At wr (w.heap.size + 1 + 1 + 1) (Vv.vals v).toArray) ∧ T.Hid (At wr kl (rowV [] RT.vals [r, s, J, O]).toArray) ∧ T.Hid (Gr w wr)) (fun i _ => 4 - (intOf i).toNat)
    case atStart => exact ⟨0, rfl, by omega, B1, B2, B3, BL, G⟩
    case round =>
      clear B1 B2 B3 BL G
      obtain ⟨j, rfl, hj, B1, B2, B3, BL, G⟩ := hrel
      by_cases hlt : j < 4
      · have hl4 : j < [r, s, J, O].length := hlt
        have hE := T.Hid.mk (fun (W : World) (q : Gr wr W) => (BL.out.gr q).elem rt_len j hl4 (j * 12) (by simp))
        have rE := hL.out _ (List.getElem_mem hl4)
        generalize [r, s, J, O][j] = E at *
        have hjl : (j : Int) < 4 := by omega
        have g1 := T.Hid.mk (e1.out E)
        have g2 := T.Hid.mk (e2.out E)
        have k4 := T.Hid.mk (fun W => h4.out E rE W)
        have k5 := T.Hid.mk (fun W => h5.out E rE W)
        have k6 := T.Hid.mk (fun W => h6.out E rE W)
        generalize E.nm.sure t = u1 at *
        generalize E.nm.has v = u2 at *
        generalize s.nm.und E.nm = u4 at *
        have gr := T.Hid.mk (Gr.refl wr)
        go_upto_region 10 with fail
        have KS : T.Hid (∀ W, Gr wr W → W.rangeAt kl (j * 12) (RT.vals E) ∧ W.rangeAt (w.heap.size + 1 + 1) 0 (Tt.vals t)) := T.Hid.mk (fun W g => ⟨hE.out W (gr.out.trans g), (B2.out.gr g).range⟩)
        have d1 : Gr wr wr.drew := (Gr.refl _).drew
        refine wp_region_held_drew (S := (fun W => W.rangeAt kl (j * 12) (RT.vals E) ∧ W.rangeAt (w.heap.size + 1 + 1) 0 (Tt.vals t))) (by kernel_rfl) (KS.out _ d1) (fun hHeld => ?_)
        refine wpAnyH_take (i := 0) (oi := { dst := some 57, op := Op.move (Operand.tmp 12), type := 39, pos := "order.go:92", after := #[], guard := none }) (v := ?_) rfl (by kernel_rfl) (by kernel_rfl) (by kernel_rfl) (fun _ _ _ h => h) (Or.inl ⟨by rfl, ?_⟩) (by assumption) ?_
        rotate_left
        · intro w hSw; (try dsimp only at hSw); go_simp; first | done | with_reducible rfl
        try simp only [Act.put, List.setIfInBounds_toArray, List.set_cons_zero, List.set_cons_succ]
        refine wpAnyH_take (i := 1) (oi := { dst := some 58, op := Op.move (Operand.tmp 13), type := 3, pos := "order.go:92", after := #[], guard := none }) (v := ?_) rfl (by kernel_rfl) (by kernel_rfl) (by kernel_rfl) (fun _ _ _ h => h) (Or.inl ⟨by rfl, ?_⟩) (by assumption) ?_
        rotate_left
        · intro w hSw; (try dsimp only at hSw); go_simp; first | done | with_reducible rfl
        try simp only [Act.put, List.setIfInBounds_toArray, List.set_cons_zero, List.set_cons_succ]
        refine wpAnyH_take (i := 2) (oi := { dst := some 59, op := Op.indexAddr 39 (Operand.tmp 57) (Operand.tmp 58), type := 0, pos := "order.go:92", after := #[{ on := 0, ground := Ground.data }, { on := 1, ground := Ground.data }], guard := none }) (v := ?_) rfl (by kernel_rfl) (by kernel_rfl) (by kernel_rfl) (fun _ _ _ h => h) (Or.inl ⟨by rfl, ?_⟩) (by assumption) ?_
        rotate_left
        · intro w hSw; (try dsimp only at hSw); go_simp; first | done | with_reducible rfl
        try simp only [Act.put, List.setIfInBounds_toArray, List.set_cons_zero, List.set_cons_succ]
        refine wpAnyH_take (i := 3) (oi := { dst := some 60, op := Op.load 28 (Operand.tmp 59), type := 28, pos := "order.go:92", after := #[{ on := 2, ground := Ground.data }], guard := none }) (v := _) rfl (by kernel_rfl) (by kernel_rfl) (by kernel_rfl) (fun _ _ _ h => h) (yieldsIf_load_mid (by rfl) _ _ rfl _ _ rfl _ _ (fun _ h => h.1) Try.underlying28 rfl info28) (by assumption) ?_
        try simp only [Act.put, List.setIfInBounds_toArray, List.set_cons_zero, List.set_cons_succ]
        refine wpAnyH_take (i := 4) (oi := { dst := some 61, op := Op.load 30 (Operand.tmp 6), type := 30, pos := "order.go:92", after := #[], guard := none }) (v := _) rfl (by kernel_rfl) (by kernel_rfl) (by kernel_rfl) (fun _ _ _ h => h) (yieldsIf_load_mid (by rfl) _ _ rfl _ _ rfl _ _ (fun _ h => h.2) Try.underlying30 rfl info30) (by assumption) ?_
        try simp only [Act.put, List.setIfInBounds_toArray, List.set_cons_zero, List.set_cons_succ]
        refine wpAnyH_ready (rs := [5]) (by kernel_rfl) (by simp) ?_
        refine AllReadyH.cons (o := { dst := some 62, op := Op.call { callee := Callee.value (Operand.func 8), args := #[Operand.tmp 60, Operand.tmp 61], argTypes := #[28, 30] }, type := 4, pos := "order.go:92", after := #[{ on := 3, ground := Ground.data }, { on := 4, ground := Ground.data }], guard := none }) rfl (fun K hK => ?_) AllReadyH.nil
        go_simp
        go_wp2_with ((go_at_call 8; refine (k4.out _).mono ?_; rintro x wq ⟨rfl, q9⟩; have d1 : Gr wr wq := Gr.trans (by (repeat (first | with_reducible assumption | with_reducible exact Gr.refl _ | with_reducible refine Gr.drew ?_ | with_reducible refine Gr.alloc ?_ _))) q9; clear q9))
        refine hK.out _ _ (KS.out _ d1) (fun hHeld => ?_)
        clear hK K
        try simp only [Act.put, List.setIfInBounds_toArray, List.set_cons_zero, List.set_cons_succ]
        refine wpAnyH_take (i := 6) (oi := { dst := some 14, op := Op.assign (Operand.tmp 62), type := 4, pos := "order.go:92", after := #[{ on := 5, ground := Ground.data }, { on := 5, ground := Ground.chain }, { on := 0, ground := Ground.phase }, { on := 1, ground := Ground.phase }, { on := 2, ground := Ground.phase }, { on := 3, ground := Ground.phase }, { on := 4, ground := Ground.phase }, { on := 5, ground := Ground.phase }], guard := none }) (v := ?_) rfl (by kernel_rfl) (by kernel_rfl) (by kernel_rfl) (fun _ _ _ h => h) (Or.inl ⟨by rfl, ?_⟩) (by assumption) ?_
        rotate_left
        · intro w hSw; (try dsimp only at hSw); go_simp; first | done | with_reducible rfl
        try simp only [Act.put, List.setIfInBounds_toArray, List.set_cons_zero, List.set_cons_succ]
        refine wpAnyH_done (by kernel_rfl) ?_ _
        clear hHeld KS
        replace B1 := T.Hid.mk (B1.out.gr d1)
        replace B2 := T.Hid.mk (B2.out.gr d1)
        replace B3 := T.Hid.mk (B3.out.gr d1)
        replace BL := T.Hid.mk (BL.out.gr d1)
        replace G := T.Hid.mk (G.out.trans d1)
        replace gr := T.Hid.mk (gr.out.trans d1)
        clear d1
        generalize wq = x1 at *
        go_upto_region 11 with fail
        have KS : T.Hid (∀ W, Gr x1 W → W.rangeAt kl (j * 12) (RT.vals E) ∧ W.rangeAt (w.heap.size + 1 + 1 + 1) 0 (Vv.vals v)) := T.Hid.mk (fun W g => ⟨hE.out W (gr.out.trans g), (B3.out.gr g).range⟩)
        have d1 : Gr x1 x1.drew := (Gr.refl _).drew
        refine wp_region_held_drew (S := (fun W => W.rangeAt kl (j * 12) (RT.vals E) ∧ W.rangeAt (w.heap.size + 1 + 1 + 1) 0 (Vv.vals v))) (by kernel_rfl) (KS.out _ d1) (fun hHeld => ?_)
        refine wpAnyH_take (i := 0) (oi := { dst := some 63, op := Op.move (Operand.tmp 12), type := 39, pos := "order.go:93", after := #[], guard := none }) (v := ?_) rfl (by kernel_rfl) (by kernel_rfl) (by kernel_rfl) (fun _ _ _ h => h) (Or.inl ⟨by rfl, ?_⟩) (by assumption) ?_
        rotate_left
        · intro w hSw; (try dsimp only at hSw); go_simp; first | done | with_reducible rfl
        try simp only [Act.put, List.setIfInBounds_toArray, List.set_cons_zero, List.set_cons_succ]
        refine wpAnyH_take (i := 1) (oi := { dst := some 64, op := Op.move (Operand.tmp 13), type := 3, pos := "order.go:93", after := #[], guard := none }) (v := ?_) rfl (by kernel_rfl) (by kernel_rfl) (by kernel_rfl) (fun _ _ _ h => h) (Or.inl ⟨by rfl, ?_⟩) (by assumption) ?_
        rotate_left
        · intro w hSw; (try dsimp only at hSw); go_simp; first | done | with_reducible rfl
        try simp only [Act.put, List.setIfInBounds_toArray, List.set_cons_zero, List.set_cons_succ]
        refine wpAnyH_take (i := 2) (oi := { dst := some 65, op := Op.indexAddr 39 (Operand.tmp 63) (Operand.tmp 64), type := 0, pos := "order.go:93", after := #[{ on := 0, ground := Ground.data }, { on := 1, ground := Ground.data }], guard := none }) (v := ?_) rfl (by kernel_rfl) (by kernel_rfl) (by kernel_rfl) (fun _ _ _ h => h) (Or.inl ⟨by rfl, ?_⟩) (by assumption) ?_
        rotate_left
        · intro w hSw; (try dsimp only at hSw); go_simp; first | done | with_reducible rfl
        try simp only [Act.put, List.setIfInBounds_toArray, List.set_cons_zero, List.set_cons_succ]
        refine wpAnyH_take (i := 3) (oi := { dst := some 66, op := Op.load 28 (Operand.tmp 65), type := 28, pos := "order.go:93", after := #[{ on := 2, ground := Ground.data }], guard := none }) (v := _) rfl (by kernel_rfl) (by kernel_rfl) (by kernel_rfl) (fun _ _ _ h => h) (yieldsIf_load_mid (by rfl) _ _ rfl _ _ rfl _ _ (fun _ h => h.1) Try.underlying28 rfl info28) (by assumption) ?_
        try simp only [Act.put, List.setIfInBounds_toArray, List.set_cons_zero, List.set_cons_succ]
        refine wpAnyH_take (i := 4) (oi := { dst := some 67, op := Op.load 34 (Operand.tmp 7), type := 34, pos := "order.go:93", after := #[], guard := none }) (v := _) rfl (by kernel_rfl) (by kernel_rfl) (by kernel_rfl) (fun _ _ _ h => h) (yieldsIf_load_mid (by rfl) _ _ rfl _ _ rfl _ _ (fun _ h => h.2) Try.underlying34 rfl info34) (by assumption) ?_
        try simp only [Act.put, List.setIfInBounds_toArray, List.set_cons_zero, List.set_cons_succ]
        refine wpAnyH_ready (rs := [5]) (by kernel_rfl) (by simp) ?_
        refine AllReadyH.cons (o := { dst := some 68, op := Op.call { callee := Callee.value (Operand.func 10), args := #[Operand.tmp 66, Operand.tmp 67], argTypes := #[28, 34] }, type := 4, pos := "order.go:93", after := #[{ on := 3, ground := Ground.data }, { on := 4, ground := Ground.data }], guard := none }) rfl (fun K hK => ?_) AllReadyH.nil
        go_simp
        go_wp2_with ((go_at_call 10; refine (k5.out _).mono ?_; rintro x wq ⟨rfl, q9⟩; have d1 : Gr x1 wq := Gr.trans (by (repeat (first | with_reducible assumption | with_reducible exact Gr.refl _ | with_reducible refine Gr.drew ?_ | with_reducible refine Gr.alloc ?_ _))) q9; clear q9))
        refine hK.out _ _ (KS.out _ d1) (fun hHeld => ?_)
        clear hK K
        try simp only [Act.put, List.setIfInBounds_toArray, List.set_cons_zero, List.set_cons_succ]
        refine wpAnyH_take (i := 6) (oi := { dst := some 15, op := Op.assign (Operand.tmp 68), type := 4, pos := "order.go:93", after := #[{ on := 5, ground := Ground.data }, { on := 5, ground := Ground.chain }, { on := 0, ground := Ground.phase }, { on := 1, ground := Ground.phase }, { on := 2, ground := Ground.phase }, { on := 3, ground := Ground.phase }, { on := 4, ground := Ground.phase }, { on := 5, ground := Ground.phase }], guard := none }) (v := ?_) rfl (by kernel_rfl) (by kernel_rfl) (by kernel_rfl) (fun _ _ _ h => h) (Or.inl ⟨by rfl, ?_⟩) (by assumption) ?_
        rotate_left
        · intro w hSw; (try dsimp only at hSw); go_simp; first | done | with_reducible rfl
        try simp only [Act.put, List.setIfInBounds_toArray, List.set_cons_zero, List.set_cons_succ]
        refine wpAnyH_done (by kernel_rfl) ?_ _
        clear hHeld KS
        replace B1 := T.Hid.mk (B1.out.gr d1)
        replace B2 := T.Hid.mk (B2.out.gr d1)
        replace B3 := T.Hid.mk (B3.out.gr d1)
        replace BL := T.Hid.mk (BL.out.gr d1)
        replace G := T.Hid.mk (G.out.trans d1)
        replace gr := T.Hid.mk (gr.out.trans d1)
        clear d1
        generalize wq = x2 at *
        go_upto_region 12 with fail
        have KS : T.Hid (∀ W, Gr x2 W → W.rangeAt (w.heap.size + 1) 0 (RT.vals s) ∧ W.rangeAt kl (j * 12) (RT.vals E)) := T.Hid.mk (fun W g => ⟨(B1.out.gr g).range, hE.out W (gr.out.trans g)⟩)
        have d1 : Gr x2 x2.drew := (Gr.refl _).drew
        refine wp_region_held_drew (S := (fun W => W.rangeAt (w.heap.size + 1) 0 (RT.vals s) ∧ W.rangeAt kl (j * 12) (RT.vals E))) (by kernel_rfl) (KS.out _ d1) (fun hHeld => ?_)
        refine wpAnyH_take (i := 0) (oi := { dst := some 69, op := Op.load 28 (Operand.tmp 5), type := 28, pos := "order.go:94", after := #[], guard := none }) (v := _) rfl (by kernel_rfl) (by kernel_rfl) (by kernel_rfl) (fun _ _ _ h => h) (yieldsIf_load_mid (by rfl) _ _ rfl _ _ rfl _ _ (fun _ h => h.1) Try.underlying28 rfl info28) (by assumption) ?_
        try simp only [Act.put, List.setIfInBounds_toArray, List.set_cons_zero, List.set_cons_succ]
        refine wpAnyH_take (i := 1) (oi := { dst := some 70, op := Op.move (Operand.tmp 12), type := 39, pos := "order.go:94", after := #[], guard := none }) (v := ?_) rfl (by kernel_rfl) (by kernel_rfl) (by kernel_rfl) (fun _ _ _ h => h) (Or.inl ⟨by rfl, ?_⟩) (by assumption) ?_
        rotate_left
        · intro w hSw; (try dsimp only at hSw); go_simp; first | done | with_reducible rfl
        try simp only [Act.put, List.setIfInBounds_toArray, List.set_cons_zero, List.set_cons_succ]
        refine wpAnyH_take (i := 2) (oi := { dst := some 71, op := Op.move (Operand.tmp 13), type := 3, pos := "order.go:94", after := #[], guard := none }) (v := ?_) rfl (by kernel_rfl) (by kernel_rfl) (by kernel_rfl) (fun _ _ _ h => h) (Or.inl ⟨by rfl, ?_⟩) (by assumption) ?_
        rotate_left
        · intro w hSw; (try dsimp only at hSw); go_simp; first | done | with_reducible rfl
        try simp only [Act.put, List.setIfInBounds_toArray, List.set_cons_zero, List.set_cons_succ]
        refine wpAnyH_take (i := 3) (oi := { dst := some 72, op := Op.indexAddr 39 (Operand.tmp 70) (Operand.tmp 71), type := 0, pos := "order.go:94", after := #[{ on := 1, ground := Ground.data }, { on := 2, ground := Ground.data }], guard := none }) (v := ?_) rfl (by kernel_rfl) (by kernel_rfl) (by kernel_rfl) (fun _ _ _ h => h) (Or.inl ⟨by rfl, ?_⟩) (by assumption) ?_
        rotate_left
        · intro w hSw; (try dsimp only at hSw); go_simp; first | done | with_reducible rfl
        try simp only [Act.put, List.setIfInBounds_toArray, List.set_cons_zero, List.set_cons_succ]
        refine wpAnyH_take (i := 4) (oi := { dst := some 73, op := Op.load 28 (Operand.tmp 72), type := 28, pos := "order.go:94", after := #[{ on := 3, ground := Ground.data }], guard := none }) (v := _) rfl (by kernel_rfl) (by kernel_rfl) (by kernel_rfl) (fun _ _ _ h => h) (yieldsIf_load_mid (by rfl) _ _ rfl _ _ rfl _ _ (fun _ h => h.2) Try.underlying28 rfl info28) (by assumption) ?_
        try simp only [Act.put, List.setIfInBounds_toArray, List.set_cons_zero, List.set_cons_succ]
        refine wpAnyH_ready (rs := [5]) (by kernel_rfl) (by simp) ?_
        refine AllReadyH.cons (o := { dst := some 74, op := Op.call { callee := Callee.value (Operand.func 11), args := #[Operand.tmp 69, Operand.tmp 73], argTypes := #[28, 28] }, type := 4, pos := "order.go:94", after := #[{ on := 0, ground := Ground.data }, { on := 4, ground := Ground.data }], guard := none }) rfl (fun K hK => ?_) AllReadyH.nil
        go_simp
        go_wp2_with ((go_at_call 11; refine (k6.out _).mono ?_; rintro x wq ⟨rfl, q9⟩; have d1 : Gr x2 wq := Gr.trans (by (repeat (first | with_reducible assumption | with_reducible exact Gr.refl _ | with_reducible refine Gr.drew ?_ | with_reducible refine Gr.alloc ?_ _))) q9; clear q9))
        refine hK.out _ _ (KS.out _ d1) (fun hHeld => ?_)
        clear hK K
        try simp only [Act.put, List.setIfInBounds_toArray, List.set_cons_zero, List.set_cons_succ]
        refine wpAnyH_take (i := 6) (oi := { dst := some 16, op := Op.assign (Operand.tmp 74), type := 4, pos := "order.go:94", after := #[{ on := 5, ground := Ground.data }, { on := 5, ground := Ground.chain }, { on := 0, ground := Ground.phase }, { on := 1, ground := Ground.phase }, { on := 2, ground := Ground.phase }, { on := 3, ground := Ground.phase }, { on := 4, ground := Ground.phase }, { on := 5, ground := Ground.phase }], guard := none }) (v := ?_) rfl (by kernel_rfl) (by kernel_rfl) (by kernel_rfl) (fun _ _ _ h => h) (Or.inl ⟨by rfl, ?_⟩) (by assumption) ?_
        rotate_left
        · intro w hSw; (try dsimp only at hSw); go_simp; first | done | with_reducible rfl
        try simp only [Act.put, List.setIfInBounds_toArray, List.set_cons_zero, List.set_cons_succ]
        refine wpAnyH_done (by kernel_rfl) ?_ _
        clear hHeld KS
        replace B1 := T.Hid.mk (B1.out.gr d1)
        replace B2 := T.Hid.mk (B2.out.gr d1)
        replace B3 := T.Hid.mk (B3.out.gr d1)
        replace BL := T.Hid.mk (BL.out.gr d1)
        replace G := T.Hid.mk (G.out.trans d1)
        replace gr := T.Hid.mk (gr.out.trans d1)
        clear d1
        generalize wq = x3 at *
        go_upto_region 13 with fail
        refine wp_region_lit ?_
        refine wpList_plain rfl (fun K hK => ?_)
        refine wp_load_mid _ _ rfl _ 0 rfl (RT.vals s) _ B1.out.range Try.underlying28 rfl info28 (hK _ _ ?_)
        clear hK K
        try simp only [Act.put, List.setIfInBounds_toArray, List.set_cons_zero, List.set_cons_succ]
        refine wpList_plain rfl (fun K hK => ?_)
        refine wp_load_mid _ _ rfl _ 0 rfl (Tt.vals t) _ B2.out.range Try.underlying30 rfl info30 (hK _ _ ?_)
        clear hK K
        try simp only [Act.put, List.setIfInBounds_toArray, List.set_cons_zero, List.set_cons_succ]
        refine wpList_plain rfl (fun K hK => ?_)
        go_simp
        (go_at_call 8; refine (h7.out _).mono ?_; rintro x wq ⟨rfl, q9⟩; replace q9 := T.Hid.mk q9)
        refine hK _ _ ?_
        clear hK K
        try simp only [Act.put, List.setIfInBounds_toArray, List.set_cons_zero, List.set_cons_succ]
        refine wpList_plain rfl (fun K hK => ?_)
        go_simp
        refine hK _ _ ?_
        clear hK K
        try simp only [Act.put, List.setIfInBounds_toArray, List.set_cons_zero, List.set_cons_succ]
        replace B1 := T.Hid.mk (B1.out.gr q9.out)
        replace B2 := T.Hid.mk (B2.out.gr q9.out)
        replace B3 := T.Hid.mk (B3.out.gr q9.out)
        replace BL := T.Hid.mk (BL.out.gr q9.out)
        replace G := T.Hid.mk (G.out.trans q9.out)
        replace gr := T.Hid.mk (gr.out.trans q9.out)
        clear q9
        generalize wq = x4 at *
        go_upto_region 14 with fail
        have KS : T.Hid (∀ W, Gr x4 W → W.rangeAt (w.heap.size + 1 + 1 + 1) 0 (Vv.vals v) ∧ W.rangeAt (w.heap.size + 1 + 1) 0 (Tt.vals t)) := T.Hid.mk (fun W g => ⟨(B3.out.gr g).range, (B2.out.gr g).range⟩)
        have d1 : Gr x4 x4.drew := (Gr.refl _).drew
        refine wp_region_held_drew (S := (fun W => W.rangeAt (w.heap.size + 1 + 1 + 1) 0 (Vv.vals v) ∧ W.rangeAt (w.heap.size + 1 + 1) 0 (Tt.vals t))) (by kernel_rfl) (KS.out _ d1) (fun hHeld => ?_)
        refine wpAnyH_take (i := 0) (oi := { dst := some 78, op := Op.load 34 (Operand.tmp 7), type := 34, pos := "order.go:96", after := #[], guard := none }) (v := _) rfl (by kernel_rfl) (by kernel_rfl) (by kernel_rfl) (fun _ _ _ h => h) (yieldsIf_load_mid (by rfl) _ _ rfl _ _ rfl _ _ (fun _ h => h.1) Try.underlying34 rfl info34) (by assumption) ?_
        try simp only [Act.put, List.setIfInBounds_toArray, List.set_cons_zero, List.set_cons_succ]
        refine wpAnyH_take (i := 1) (oi := { dst := some 79, op := Op.load 30 (Operand.tmp 6), type := 30, pos := "order.go:96", after := #[], guard := none }) (v := _) rfl (by kernel_rfl) (by kernel_rfl) (by kernel_rfl) (fun _ _ _ h => h) (yieldsIf_load_mid (by rfl) _ _ rfl _ _ rfl _ _ (fun _ h => h.2) Try.underlying30 rfl info30) (by assumption) ?_
        try simp only [Act.put, List.setIfInBounds_toArray, List.set_cons_zero, List.set_cons_succ]
        refine wpAnyH_ready (rs := [2]) (by kernel_rfl) (by simp) ?_
        refine AllReadyH.cons (o := { dst := some 80, op := Op.call { callee := Callee.value (Operand.func 13), args := #[Operand.tmp 79], argTypes := #[30] }, type := 30, pos := "order.go:96", after := #[{ on := 1, ground := Ground.data }], guard := none }) rfl (fun K hK => ?_) AllReadyH.nil
        go_simp
        go_wp2_with (first | (go_at_call 13; refine (h8.out _).mono ?_; rintro x wq ⟨rfl, q9⟩; have d1 : Gr x4 wq := Gr.trans (by (repeat (first | with_reducible assumption | with_reducible exact Gr.refl _ | with_reducible refine Gr.drew ?_ | with_reducible refine Gr.alloc ?_ _))) q9; clear q9) | (go_at_call 12; refine (h9.out _).mono ?_; rintro x wq ⟨rfl, q9⟩; have d1 : Gr x4 wq := Gr.trans (by (repeat (first | with_reducible assumption | with_reducible exact Gr.refl _ | with_reducible refine Gr.drew ?_ | with_reducible refine Gr.alloc ?_ _))) q9; clear q9))
        refine hK.out _ _ (KS.out _ d1) (fun hHeld => ?_)
        clear hK K
        try simp only [Act.put, List.setIfInBounds_toArray, List.set_cons_zero, List.set_cons_succ]
        refine wpAnyH_ready (rs := [3]) (by kernel_rfl) (by simp) ?_
        refine AllReadyH.cons (o := { dst := some 81, op := Op.call { callee := Callee.value (Operand.func 12), args := #[Operand.tmp 78, Operand.tmp 80], argTypes := #[34, 30] }, type := 4, pos := "order.go:96", after := #[{ on := 0, ground := Ground.data }, { on := 2, ground := Ground.data }, { on := 2, ground := Ground.chain }], guard := none }) rfl (fun K hK => ?_) AllReadyH.nil
        go_simp
        go_wp2_with (first | (go_at_call 13; refine (h8.out _).mono ?_; rintro x wq ⟨rfl, q9⟩; have d1 : Gr x4 wq := Gr.trans (by (repeat (first | with_reducible assumption | with_reducible exact Gr.refl _ | with_reducible refine Gr.drew ?_ | with_reducible refine Gr.alloc ?_ _))) q9; clear q9) | (go_at_call 12; refine (h9.out _).mono ?_; rintro x wq ⟨rfl, q9⟩; have d1 : Gr x4 wq := Gr.trans (by (repeat (first | with_reducible assumption | with_reducible exact Gr.refl _ | with_reducible refine Gr.drew ?_ | with_reducible refine Gr.alloc ?_ _))) q9; clear q9))
        refine hK.out _ _ (KS.out _ d1) (fun hHeld => ?_)
        clear hK K
        try simp only [Act.put, List.setIfInBounds_toArray, List.set_cons_zero, List.set_cons_succ]
        refine wpAnyH_take (i := 4) (oi := { dst := some 18, op := Op.assign (Operand.tmp 81), type := 4, pos := "order.go:96", after := #[{ on := 3, ground := Ground.data }, { on := 3, ground := Ground.chain }, { on := 0, ground := Ground.phase }, { on := 1, ground := Ground.phase }, { on := 2, ground := Ground.phase }, { on := 3, ground := Ground.phase }], guard := none }) (v := ?_) rfl (by kernel_rfl) (by kernel_rfl) (by kernel_rfl) (fun _ _ _ h => h) (Or.inl ⟨by rfl, ?_⟩) (by assumption) ?_
        rotate_left
        · intro w hSw; (try dsimp only at hSw); go_simp; first | done | with_reducible rfl
        try simp only [Act.put, List.setIfInBounds_toArray, List.set_cons_zero, List.set_cons_succ]
        refine wpAnyH_done (by kernel_rfl) ?_ _
        clear hHeld KS
        replace B1 := T.Hid.mk (B1.out.gr d1)
        replace B2 := T.Hid.mk (B2.out.gr d1)
        replace B3 := T.Hid.mk (B3.out.gr d1)
        replace BL := T.Hid.mk (BL.out.gr d1)
        replace G := T.Hid.mk (G.out.trans d1)
        replace gr := T.Hid.mk (gr.out.trans d1)
        clear d1
        generalize wq = x5 at *
        replace g1 := g1.out
        replace g2 := g2.out
        clear hE gr
        cases u1
        · clear g1 g2
          go_wp2_with fail
          exact ⟨⟨j + 1, by go_num, by omega, B1, B2, B3, BL, G⟩, by simp [intOf]; omega⟩
        · cases u2
          · cases u4
            · clear g1 g2
              go_wp2_with fail
              exact ⟨⟨j + 1, by go_num, by omega, B1, B2, B3, BL, G⟩, by simp [intOf]; omega⟩
            · have e5 := g2 rfl rfl
              subst e5
              clear g1 g2
              go_wp2_with fail
              exact ⟨⟨j + 1, by go_num, by omega, B1, B2, B3, BL, G⟩, by simp [intOf]; omega⟩
          · have e3 := g1 rfl rfl
            subst e3
            cases u4
            · clear g1 g2
              go_wp2_with fail
              exact ⟨⟨j + 1, by go_num, by omega, B1, B2, B3, BL, G⟩, by simp [intOf]; omega⟩
            · have e5 := g2 rfl rfl
              subst e5
              clear g1 g2
              go_wp2_with fail
              exact ⟨⟨j + 1, by go_num, by omega, B1, B2, B3, BL, G⟩, by simp [intOf]; omega⟩
      · have hjl : ¬ (j : Int) < 4 := by omega
        go_wp2_with fail
        go_ret
        exact ⟨rfl, G.out⟩
end R
end Go.Proofs.Ytedbfnmmdlcbgaa
