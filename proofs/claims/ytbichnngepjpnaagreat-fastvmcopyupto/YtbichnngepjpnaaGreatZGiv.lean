import Derived.ArgAppend
import Derived.Deep.AppendSrc
import Derived.Test.YtbichnngepjpnaaGreatZGivP
import Derived.Test.YtbichnngepjpnaaGreatP42
import Derived.Test.YtbichnngepjpnaaGreatP37
/-
  Stage 13, fastvm: inputs given.
-/
namespace Go.Proofs.YtbichnngepjpnaaGreat
namespace Z
open Go.RowKit
open T (Sep Ob Kp Mf FlIn boxOb)

def WAtG (w : World) (b o : Nat) (L : List Int) : Prop := ∀ k (h : k < L.length), b < w.heap.size ∧ w.cell? ⟨b, o + k, none⟩ = some (.int .u64 L[k])
theorem u64_at {w : World} {b o : Nat} {L : List Int} (h : WAtG w b o L) : ∀ j u, (L.map u64I)[j]? = some u → w.cell? ((⟨b, o, none⟩ : Addr).add j) = some u := fun j u q => by
  have hj : j < L.length := by have := (List.getElem?_eq_some_iff.1 q).1; simpa using this
  rw [addr_addZ, (h j hj).2, ← q]
  simp [hj, u64I]
theorem u64_one (L : List Int) : ∀ u ∈ L.map u64I, u.oneCell' = true := fun u hu => by
  obtain ⟨y, _, rfl⟩ := List.mem_map.1 hu
  rfl
theorem kp_setsG (g : Nat) : ∀ (vs : List Value) (o : Nat) (w : World), Kp (fun k => some g = some k) w (w.setCells g o vs) := fun vs o w => by
  have h := kp_setsZ w g vs o
  exact ⟨h.os, h.tape, h.output, h.size, fun k hk hn => h.block k hk (fun e => hn (by rw [e]))⟩
set_option maxRecDepth 100000 in
theorem run_append_iv (w : World) (v : Value) (L A : List Int) (hv : IvIn w v L) (b2 o2 c : Nat) (hA : WAtG w b2 o2 A) (hl : L.length + A.length ≤ 3000000) (ty : TypeId) :
    ∃ v' w', (Builtin.append_ #[26, 26] ty #[v, .slice (some ⟨b2, o2, none⟩) A.length c]).run Tryz.prog w = .ok v' w' ∧ IvIn w' v' (L ++ A) ∧ Kp (fun k => v.ownBlock = some k) w w' ∧ (∀ k, v'.ownBlock = some k → v.ownBlock = some k ∨ w.heap.size ≤ k) := by
  obtain ⟨i0, hi0, hz0, hz1, hz2⟩ := T.info_parts' (show (Tryz.prog.info? 31).map (fun i => (i.zero, i.size, i.bytes)) = some (some (.int .u64 0), 1, 8) by kernel_rfl)
  have hlA : (A.map u64I).length = A.length * 1 := by simp
  obtain ⟨a, cap, e1, e2⟩ := hv.rm
  obtain ⟨a', cap', f1, f2, f3⟩ := hv.go
  rw [e1] at f1
  injection f1 with g1 _ g3
  subst g1 g3
  rcases e2 with ⟨rfl, rfl⟩ | ⟨b, off, rfl, rm⟩
  · have hL : L = [] := List.eq_nil_of_length_eq_zero (by omega)
    subst hL
    obtain ⟨v', w', k1, k2, k3, _, k5⟩ := run_append_own_at (P := Tryz.prog) w w.heap.size 26 ty 31 i0 (.int .u64 0) 1 8 Tryz.underlying26 hi0 hz0 hz1 hz2 rfl (by decide) (.slice none 0 0) 0 [] (World.ownsRow_nil _ _ _ _) ⟨b2, o2, none⟩ A.length c (A.map u64I) hlA (u64_at hA) (u64_one A) (by unfold maxLen; omega) (by omega) (Nat.le_refl _)
    rw [Nat.zero_add, List.nil_append] at k2
    obtain ⟨k6, k7⟩ := own_iv k2
    refine ⟨v', w', by rw [e1]; exact k1, k6, ?_, fun k q => .inr (k7 k q)⟩
    rw [e1]
    exact kp_grown k3
  · have hAt : L.length = 0 ∨ WAtG w b off L := by
      rcases f3 with f3 | ⟨b', off', f4, f5⟩
      · exact .inl f3
      · cases f4
        exact .inr (fun k hk => ⟨hv.lt b (by rw [e1]; rfl), f5 k hk⟩)
    have hblt : b < w.heap.size := hv.lt b (by rw [e1]; rfl)
    by_cases hr : L.length + A.length ≤ cap
    · have hrun := run_append_room_cells (P := Tryz.prog) w 26 ty 31 i0 Tryz.underlying26 hi0 b off L.length cap ⟨b2, o2, none⟩ A.length c (A.map u64I) (by rw [hz1]; exact hlA) (u64_at hA) (u64_one A) hr
        (fun j hj => by rw [hz1, Nat.mul_one, Nat.add_assoc]; exact (rm _ (by rw [List.length_map] at hj; omega)).1) (fun j hj => by rw [hz1, Nat.mul_one, Nat.add_assoc]; exact (rm _ (by rw [List.length_map] at hj; omega)).2)
      rw [hz1, Nat.mul_one] at hrun
      have hsz : (w.setCells b (off + L.length) (A.map u64I)).heap.size = w.heap.size := setCells_size b (A.map u64I) (off + L.length) w
      refine ⟨_, _, by rw [e1]; exact hrun, ⟨⟨_, cap, by rw [List.length_append], by rw [List.length_append]; exact hr, .inr ⟨b, off, rfl, fun i hi => ?_⟩⟩, fun k q => ?_, ⟨_, cap, by rw [List.length_append], .inr ⟨b, off, rfl, fun j hj => ?_⟩⟩⟩, ?_, fun k q => .inl (by rw [e1]; exact q)⟩
      · by_cases hiL : i < L.length
        · rw [World.cell?_setCells_out b _ _ w _ (fun _ _ => .inl (show off + i < off + L.length by omega)), List.getElem_append_left hiL]
          rcases hAt with h0 | h0
          · omega
          · exact (h0 i hiL).2
        · have hj : i - L.length < A.length := by rw [List.length_append] at hi; omega
          have hq := World.cell?_setCells_in b (A.map u64I) (off + L.length) w (fun j hj => by rw [Nat.add_assoc]; exact (rm _ (by rw [List.length_map] at hj; omega)).1) (i - L.length) (by rw [List.length_map]; exact hj)
          rw [show off + L.length + (i - L.length) = off + i by omega] at hq
          rw [hq, List.getElem_map, List.getElem_append_right (by omega)]
          rfl
      · cases q
        rw [hsz]
        exact hblt
      · refine ⟨World.isSome_setCells b _ _ w _ (rm j hj).1, ?_⟩
        rw [World.frozen?_setCells]
        exact (rm j hj).2
      · rw [e1]
        exact kp_setsG b (A.map u64I) (off + L.length) w
    · obtain ⟨v', w', k1, k2, k3⟩ := run_append_arg_grows (P := Tryz.prog) w 26 ty 31 i0 (.int .u64 0) 1 8 Tryz.underlying26 hi0 hz0 hz1 hz2 rfl (by decide) ⟨b, off, none⟩ L.length cap (L.map u64I) (by simp) (fun j u q => by
          rcases hAt with h0 | h0
          · have := (List.getElem?_eq_some_iff.1 q).1
            rw [List.length_map] at this
            omega
          · exact u64_at h0 j u q) ⟨b2, o2, none⟩ A.length c (A.map u64I) hlA (u64_at hA) (by omega) (by unfold maxLen; omega) (by omega)
      rw [← List.map_append, ← List.length_append] at k2
      obtain ⟨k6, k7⟩ := own_iv k2
      refine ⟨v', w', by rw [e1]; exact k1, k6, ?_, fun k q => .inr (k7 k q)⟩
      have hk := kp_grown k3
      exact ⟨hk.os, hk.tape, hk.output, hk.size, fun k h1 _ => hk.block k h1 (fun e => by cases e)⟩
set_option maxRecDepth 100000 in
theorem append_nil0 (w : World) (ty : TypeId) : (Builtin.append_ #[26, 26] ty #[.slice none 0 0, .slice none 0 0]).run Tryz.prog w = .ok (.slice none 0 0) w := by
  obtain ⟨i0, hi0, hz0, hz1, hz2⟩ := T.info_parts' (show (Tryz.prog.info? 31).map (fun i => (i.zero, i.size, i.bytes)) = some (some (.int .u64 0), 1, 8) by kernel_rfl)
  simp [Builtin.append_, run_underlying Tryz.underlying26, sizeOf, typeInfo, hi0, Builtin.lenOf, Builtin.firstCells]
set_option maxRecDepth 100000 in
theorem run_append_iv0 (w : World) (v : Value) (L : List Int) (hv : IvIn w v L) (ty : TypeId) : (Builtin.append_ #[26, 26] ty #[v, .slice none 0 0]).run Tryz.prog w = .ok v w := by
  obtain ⟨i0, hi0, hz0, hz1, hz2⟩ := T.info_parts' (show (Tryz.prog.info? 31).map (fun i => (i.zero, i.size, i.bytes)) = some (some (.int .u64 0), 1, 8) by kernel_rfl)
  obtain ⟨a, cap, e1, e2⟩ := hv.rm
  obtain ⟨a', cap', f1, f2, _⟩ := hv.go
  rw [e1] at f1
  injection f1 with g1 _ g3
  subst g1 g3
  rcases e2 with ⟨rfl, rfl⟩ | ⟨b, off, rfl, rm⟩
  · have hL : L.length = 0 := by omega
    rw [e1, hL]
    exact append_nil0 w ty
  · have hrun := run_append_room_src (P := Tryz.prog) w 26 26 ty 31 i0 Tryz.underlying26 hi0 b off L.length cap (.slice none 0 0) 0 [] (Src.ofNil (P := Tryz.prog) w Tryz.underlying26 0) f2 (fun j hj => absurd hj (Nat.not_lt_zero j)) (fun j hj => absurd hj (Nat.not_lt_zero j))
    rw [e1]
    exact hrun
set_option maxRecDepth 100000 in
theorem wp_append_iv {o : Oper} {a : Act} {K : Act → World → Prop} {Q : Exit → Act → World → Prop} {w : World} (s x : Operand)
    (ho : o.op = .call { callee := .builtin .append, args := #[s, x], argTypes := #[26, 26] }) (v : Value) (L A : List Int) (hs : a.eval s = v) (xv : Value) (hx : a.eval x = xv)
    (hrun : ∀ ty, ∃ v' w', (Builtin.append_ #[26, 26] ty #[v, xv]).run Tryz.prog w = .ok v' w' ∧ IvIn w' v' (L ++ A) ∧ Kp (fun k => v.ownBlock = some k) w w' ∧ (∀ k, v'.ownBlock = some k → v.ownBlock = some k ∨ w.heap.size ≤ k))
    (h : ∀ v' w', IvIn w' v' (L ++ A) → Kp (fun k => v.ownBlock = some k) w w' → (∀ k, v'.ownBlock = some k → v.ownBlock = some k ∨ w.heap.size ≤ k) → K (a.put o.dst v') w') : o.wp Tryz.prog a w K Q := by
  obtain ⟨v', w', hr, h2, h3, h4⟩ := hrun o.type
  unfold Oper.wp execOp
  simp only [ho, resolve, invoke, builtin, Sem.run_bind, Sem.run_pure, Result.andThen_ok, List.map_toArray, List.map_cons, List.map_nil, hs, hx, hr]
  exact h v' w' h2 h3 h4
theorem MIn.app_in {B : Nat} {W W2 : World} {a : Nat} {P : Pr} {s : Fm} {l : List Ob} {q : Pt} (L : List Int) (v : Value) (h : Sep B W (obs B a P s q ++ l)) (le : B ≤ W.heap.size) (hv : IvIn W2 v L) (hk : Kp (fun k => q.iv.ownBlock = some k) W W2) (hn : ∀ k, v.ownBlock = some k → q.iv.ownBlock = some k ∨ W.heap.size ≤ k) :
    Bx W2 a (bxOf P s q) ∧ MIn B (W2.setCell ⟨a, 23, none⟩ v) a P { s with inp := L } l ∧ Below B W (W2.setCell ⟨a, 23, none⟩ v) := by
  have h1 := sep_change (l1 := [bxOb a (bxOf P s q), flOb q.F q.mp s.m, stOb B q.sv s.st]) (o := inOb q.iv s.inp) (o' := inOb v L) (l2 := ouOb B q.ov_ s.out :: tcOb B q.tv s.tc :: pgOb q.SP q.cv q.gv P :: l) h hv hk hn le
  have b1 := sep_below (l1 := [bxOb a (bxOf P s q), flOb q.F q.mp s.m, stOb B q.sv s.st]) (o := inOb q.iv s.inp) (l2 := ouOb B q.ov_ s.out :: tcOb B q.tv s.tc :: pgOb q.SP q.cv q.gv P :: l) h hk le
  obtain ⟨h2, b2⟩ := sep_box (bxOf P s q) (bxOf P { s with inp := L } { q with iv := v }) h1 v 23 (fun hb => hb.iv _) (Nat.le_trans le b1.size)
  exact ⟨h1.ins (bxOb a (bxOf P s q)) (by simp), ⟨⟨{ q with iv := v }, h2⟩, Nat.le_trans le (b1.trans b2).size⟩, b1.trans b2⟩
theorem MIn.calmed {B : Nat} {W : World} {a : Nat} {P : Pr} {s : Fm} {l : List Ob} (h : MIn B W a P s l) :
    MIn B (((W.setCell ⟨a, 26, none⟩ (.int .i64 0)).setCell ⟨a, 27, none⟩ (.int .u64 0)).setCell ⟨a, 28, none⟩ (.int .i64 0)) a P { s with e := 0, v := 0, f := 0 } l ∧ Below B W (((W.setCell ⟨a, 26, none⟩ (.int .i64 0)).setCell ⟨a, 27, none⟩ (.int .u64 0)).setCell ⟨a, 28, none⟩ (.int .i64 0)) := by
  obtain ⟨⟨q, h1⟩, le⟩ := h
  have hB := ((h1.ins (bxOb a (bxOf P s q)) (by simp [obs]) : Bx W a (bxOf P s q)).e 0).v 0 |>.f 0
  have hk : Kp (fun k => k = a) W (((W.setCell ⟨a, 26, none⟩ (.int .i64 0)).setCell ⟨a, 27, none⟩ (.int .u64 0)).setCell ⟨a, 28, none⟩ (.int .i64 0)) := kp_set1 (kp_set1 (kp_set1 (Kp.refl _ W) 26 _) 27 _) 28 _
  have h2 := sep_change (l1 := []) (o := bxOb a (bxOf P s q)) (o' := bxOb a (bxOf P { s with e := 0, v := 0, f := 0 } q)) h1 hB hk (fun _ r => .inl r) le
  exact ⟨⟨⟨q, h2⟩, Nat.le_trans le hk.size⟩, sep_below (l1 := []) (o := bxOb a (bxOf P s q)) h1 hk le⟩
theorem giveM_not (s : Fm) (A : List Int) (h : ¬ (s.e = 6 ∧ s.inp ++ A ≠ [])) : giveM s A = { s with inp := s.inp ++ A } := if_neg h
theorem giveM_yes (s : Fm) (A : List Int) (h : s.e = 6 ∧ s.inp ++ A ≠ []) : giveM s A = { s with inp := s.inp ++ A, e := 0, v := 0, f := 0 } := if_pos h
set_option maxRecDepth 100000 in
set_option maxHeartbeats 8000000 in
theorem give_core (B : Nat) (W : World) (b : Nat) (P : Pr) (s : Fm) (l : List Ob) (A : List Int) (va : Option Addr) (n vc : Nat) (h : MIn B W b P s l)
    (hrun : ∀ v, IvIn W v s.inp → ∀ ty, ∃ v' w', (Builtin.append_ #[26, 26] ty #[v, .slice va n vc]).run Tryz.prog W = .ok v' w' ∧ IvIn w' v' (s.inp ++ A) ∧ Kp (fun k => v.ownBlock = some k) W w' ∧ (∀ k, v'.ownBlock = some k → v.ownBlock = some k ∨ W.heap.size ≤ k)) :
    Calls Tryz.prog 9 #[.pointer (some ⟨b, 0, none⟩), .slice va n vc] W fun x w' => x = .returned (.tuple #[]) ∧ MIn B w' b P (giveM s A) l ∧ Below B W w' := by
  obtain ⟨⟨q, h1⟩, le⟩ := h
  have hb := h1.ins (bxOb b (bxOf P s q)) (by simp [obs])
  have hI : IvIn W q.iv s.inp := h1.ins (inOb q.iv s.inp) (by simp [obs])
  obtain ⟨ia, ic, e1, -, -⟩ := hI.go
  have c23 : W.cell? ⟨b, 23, none⟩ = some (.slice ia s.inp.length ic) := by rw [← e1]; exact hb.at_ 23 (by omega)
  have hr := Hz.mk (hrun q.iv hI)
  rw [e1] at hr
  have hap : Hz (∀ v' w', IvIn w' v' (s.inp ++ A) → Kp (fun k => (Value.slice ia s.inp.length ic).ownBlock = some k) W w' → (∀ k, v'.ownBlock = some k → (Value.slice ia s.inp.length ic).ownBlock = some k ∨ W.heap.size ≤ k) → Bx w' b (bxOf P s q) ∧ MIn B (w'.setCell ⟨b, 23, none⟩ v') b P { s with inp := s.inp ++ A } l ∧ Below B W (w'.setCell ⟨b, 23, none⟩ v')) := Hz.mk (fun v' w' k1 k2 k3 => MIn.app_in (s.inp ++ A) v' h1 le k1 (by rw [e1]; exact k2) (by rw [e1]; exact k3))
  clear hrun hI e1 h1 le hb
  go_enter Tryz.func9, Tryz.ntmps9
  go_upto_region 1 with fail
  refine wp_region_lit ?_
  refine wpList_plain rfl (fun K hK => ?_)
  go_simp
  with_reducible refine hK _ _ ?_
  clear hK K
  try simp only [Act.put, List.setIfInBounds_toArray, List.set_cons_zero, List.set_cons_succ]
  refine wpList_plain rfl (fun K hK => ?_)
  go_simp
  with_reducible refine hK _ _ ?_
  clear hK K
  try simp only [Act.put, List.setIfInBounds_toArray, List.set_cons_zero, List.set_cons_succ]
  refine wpList_plain rfl (fun K hK => ?_)
  go_simp
  with_reducible refine hK _ _ ?_
  clear hK K
  try simp only [Act.put, List.setIfInBounds_toArray, List.set_cons_zero, List.set_cons_succ]
  refine wpList_plain rfl (fun K hK => ?_)
  go_simp
  with_reducible refine hK _ _ ?_
  clear hK K
  try simp only [Act.put, List.setIfInBounds_toArray, List.set_cons_zero, List.set_cons_succ]
  refine wpList_plain rfl (fun K hK => ?_)
  go_simp
  with_reducible refine hK _ _ ?_
  clear hK K
  try simp only [Act.put, List.setIfInBounds_toArray, List.set_cons_zero, List.set_cons_succ]
  refine wpList_plain rfl (fun K hK => ?_)
  go_simp
  with_reducible refine hK _ _ ?_
  clear hK K
  try simp only [Act.put, List.setIfInBounds_toArray, List.set_cons_zero, List.set_cons_succ]
  refine wpList_plain rfl (fun K' hK => ?_)
  refine wp_append_iv _ _ rfl (.slice ia s.inp.length ic) s.inp A rfl (.slice va n vc) rfl hr.out (fun v' W2 k1 k2 k3 => ?_)
  obtain ⟨hb2, hM2, hBn⟩ := hap.out v' W2 k1 k2 k3
  obtain ⟨a', c', ev, -, -⟩ := k1.go
  obtain ⟨m, hm⟩ : ∃ m, (s.inp ++ A).length = m := ⟨_, rfl⟩
  rw [hm] at ev
  rw [ev] at hM2 hBn ⊢
  replace hm := Hz.mk hm
  with_reducible refine hK _ _ ?_
  clear hK K' hr hap k1 k2 k3 c23 ev
  try simp only [Act.put, List.setIfInBounds_toArray, List.set_cons_zero, List.set_cons_succ]
  have c23 : ∃ x, W2.cell? ⟨b, 23, none⟩ = some x := ⟨_, hb2.at_ 23 (by omega)⟩
  obtain ⟨x23, c23⟩ := c23
  have f23 := hb2.fr 23
  clear hb2
  replace hM2 := Hz.mk hM2
  replace hBn := Hz.mk hBn
  go_upto_region 2 with fail
  generalize hW3 : W2.setCell ⟨b, 23, none⟩ (.slice a' m c') = W3 at *
  clear hW3 c23 f23
  have hM := hM2
  clear hM2
  obtain ⟨q3, hb3⟩ := hM.out.bx
  have c6 : W3.cell? ⟨b, 26, none⟩ = some (.int .i64 s.e) := hb3.at_ 26 (by omega)
  have c3 : ∃ a c, W3.cell? ⟨b, 23, none⟩ = some (.slice a (s.inp ++ A).length c) := by
    obtain ⟨⟨q4, h4⟩, _⟩ := hM.out
    obtain ⟨a4, c4, e4, -, -⟩ := (h4.ins (inOb q4.iv (s.inp ++ A)) (by simp [obs]) : IvIn W3 q4.iv (s.inp ++ A)).go
    exact ⟨a4, c4, by rw [← e4]; exact (h4.ins (bxOb b (bxOf P { s with inp := s.inp ++ A } q4)) (by simp [obs]) : Bx W3 b _).at_ 23 (by omega)⟩
  obtain ⟨a3, cc3, c3⟩ := c3
  have hblt := hb3.lt
  have f6 := hb3.fr 26
  have f7 := hb3.fr 27
  have f8 := hb3.fr 28
  have c7 : W3.cell? ⟨b, 27, none⟩ = some (.int .u64 s.v) := hb3.at_ 27 (by omega)
  have c8 : W3.cell? ⟨b, 28, none⟩ = some (.int .i64 s.f) := hb3.at_ 28 (by omega)
  replace hb3 := Hz.mk hb3
  rw [hm.out] at c3
  by_cases h6 : s.e = 6
  · have h61 : (s.e == 6) = true := by simp [h6]
    by_cases h7 : m = 0
    · have hgm : Hz (giveM s A = { s with inp := s.inp ++ A }) := Hz.mk (giveM_not s A (fun q => q.2 (List.eq_nil_of_length_eq_zero (by rw [hm.out]; exact h7))))
      have hm0 : ¬ (0 : Int) < (m : Int) := by omega
      clear hm h6 h7
      go_wp2_with fail
      first | go_end0 | ((try simp only [Exit.inBlock, Exit.then]); refine bodyPost_ret (results_none rfl _ _ _) rfl ?_)
      rw [hgm.out]
      exact ⟨rfl, hM.out, hBn.out⟩
    · have hgm : Hz (giveM s A = { s with inp := s.inp ++ A, e := 0, v := 0, f := 0 }) := Hz.mk (giveM_yes s A ⟨h6, fun q => h7 (by rw [← hm.out, q]; rfl)⟩)
      have hm0 : (0 : Int) < (m : Int) := by omega
      have hcm := Hz.mk hM.out.calmed
      clear hm h6 h7
      go_wp2_with fail
      first | go_end0 | ((try simp only [Exit.inBlock, Exit.then]); refine bodyPost_ret (results_none rfl _ _ _) rfl ?_)
      rw [hgm.out]
      exact ⟨rfl, hcm.out.1, hBn.out.trans hcm.out.2⟩
  · have h61 : (s.e == 6) = false := beq_false_of_ne h6
    have hgm : Hz (giveM s A = { s with inp := s.inp ++ A }) := Hz.mk (giveM_not s A (fun q => h6 q.1))
    clear hm h6
    go_wp2_with fail
    first | go_end0 | ((try simp only [Exit.inBlock, Exit.then]); refine bodyPost_ret (results_none rfl _ _ _) rfl ?_)
    rw [hgm.out]
    exact ⟨rfl, hM.out, hBn.out⟩
theorem give_some (B : Nat) (W : World) (b : Nat) (P : Pr) (s : Fm) (l : List Ob) (A : List Int) (b2 o2 vc : Nat) (h : MIn B W b P s l) (hA : WAtG W b2 o2 A) (hl : s.inp.length + A.length ≤ 3000000) :
    Calls Tryz.prog 9 #[.pointer (some ⟨b, 0, none⟩), .slice (some ⟨b2, o2, none⟩) A.length vc] W fun x w' => x = .returned (.tuple #[]) ∧ MIn B w' b P (giveM s A) l ∧ Below B W w' :=
  give_core B W b P s l A _ _ vc h (fun v hv ty => run_append_iv W v s.inp A hv b2 o2 vc hA hl ty)
theorem give_nil (B : Nat) (W : World) (b : Nat) (P : Pr) (s : Fm) (l : List Ob) (h : MIn B W b P s l) :
    Calls Tryz.prog 9 #[.pointer (some ⟨b, 0, none⟩), .slice none 0 0] W fun x w' => x = .returned (.tuple #[]) ∧ MIn B w' b P (giveM s []) l ∧ Below B W w' :=
  give_core B W b P s l [] none 0 0 h (fun v hv ty => ⟨v, W, run_append_iv0 W v s.inp hv ty, by rw [List.append_nil]; exact hv, Kp.refl _ W, fun _ q => .inl q⟩)
end Z
end Go.Proofs.YtbichnngepjpnaaGreat
