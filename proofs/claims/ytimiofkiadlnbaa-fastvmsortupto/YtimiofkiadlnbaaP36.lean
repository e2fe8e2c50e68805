import Derived.Test.YtimiofkiadlnbaaP31
import Derived.Test.YtimiofkiadlnbaaZNew
/-
  Stage 13, fastvm: Run and Step.
-/
namespace Go.Proofs.Ytimiofkiadlnbaa
namespace Z
open Go.RowKit
open T (Sep Ob Kp Mf FlIn boxOb)

theorem kp_setsZ (w : World) (b : Nat) (vs : List Value) (o : Nat) : Kp (fun k => k = b) w (w.setCells b o vs) := by
  induction vs generalizing w o with
  | nil => exact Kp.refl _ w
  | cons v r ih => exact (Kp.set (S := fun k => k = b) w ⟨b, o, none⟩ v rfl).trans (ih (w.setCell ⟨b, o, none⟩ v) (o + 1)) (fun _ q => .inl q)
set_option maxRecDepth 100000 in
set_option maxHeartbeats 4000000 in
theorem run_end (B : Nat) (W : World) (a : Nat) (P : Pr) (l : List Ob) (n m : Nat) (f : Nat → Fm) (h : MIn B W a P (f 0) l) (hm : m ≤ n) (h0 : ∀ k, k < m → (f k).e = 0) (hG : ∀ k, k < m → Goes P (f k) (f (k + 1))) (hE : m = n ∨ (f m).e ≠ 0) (hn : n ≤ 100000) (he : (f m).e ≠ 0) :
    Calls Try.prog 7 #[.pointer (some ⟨a, 0, none⟩), .int .i64 n] W fun x w' => x = .returned (.agg #[.int .i64 (f m).e, .int .u64 (f m).v, .int .i64 (f m).f, .int .i64 (f m).g, .int .i64 (f m).p]) ∧ MIn B w' a P (f m) l ∧ Below B W w' := by
  have e2 : ((f m).e == 0) = false := by simpa using he
  replace he := Hz.mk he
  have hni : (n : Int) ≤ 100000 := by omega
  have h2 := Hz.mk (h.new #[.int .i64 0, .int .u64 0, .int .i64 0, .int .i64 0, .int .i64 0] 41)
  clear h
  go_enter Try.func7, Try.ntmps7
  go_upto_region 1 with fail
  refine wp_world (fun V => MIn B V a P (f 0) (boxOb W.heap.size #[.int .i64 0, .int .u64 0, .int .i64 0, .int .i64 0, .int .i64 0] :: l) ∧ Below B W V) h2.out ?_
  rintro V ⟨h, hB⟩
  replace h := Hz.mk h
  replace hB := Hz.mk hB
  clear h2
  generalize hkr : W.heap.size = kr at *
  clear hkr
  have hst := Hz.mk (steps_any B V a P _ n m f h.out hm h0 hG hE (by omega))
  replace h0 := Hz.mk h0
  replace hG := Hz.mk hG
  replace hE := Hz.mk hE
  go_wp2_with fail
  rw [show min (n : Int) 100000 = (n : Int) from Int.min_eq_left hni]
  refine hst.out.mono ?_
  rintro r V8 ⟨rfl, h8, hB8⟩
  replace hB := Hz.mk (hB.out.trans hB8)
  replace h8 := Hz.mk h8
  clear h hst hB8
  have c26 := h8.out.e26
  have hsd := Hz.mk (stands_any B V8 a P (f m) _ h8.out)
  go_upto_region 6 with fail
  have hle8 := h8.out.le
  refine wp_region_lit ?_
  refine wpList_plain rfl (fun K hK => ?_)
  go_simp
  with_reducible refine hK _ _ ?_
  clear hK K
  try simp only [Act.put, List.setIfInBounds_toArray, List.set_cons_zero, List.set_cons_succ]
  refine wpList_plain rfl (fun K hK => ?_)
  go_simp
  (refine hsd.out.mono ?_; rintro r V9 ⟨rfl, g9⟩)
  with_reducible refine hK _ _ ?_
  clear hK K
  try simp only [Act.put, List.setIfInBounds_toArray, List.set_cons_zero, List.set_cons_succ]
  replace h8 := Hz.mk (h8.out.gro g9)
  replace hB : Hz (Below B W V9) := Hz.mk (hB.out.trans (g9.below.mono hle8))
  have hA9 : At V9 kr #[.int .i64 0, .int .u64 0, .int .i64 0, .int .i64 0, .int .i64 0] := h8.out.there (boxOb kr #[.int .i64 0, .int .u64 0, .int .i64 0, .int .i64 0, .int .i64 0]) (.head _)
  have hth := Hz.mk (At.there (cs := [Value.int .i64 0, .int .u64 0, .int .i64 0, .int .i64 0, .int .i64 0]) hA9 0 5 (by decide))
  have hA10 := Hz.mk (At.setAll (cs := [Value.int .i64 0, .int .u64 0, .int .i64 0, .int .i64 0, .int .i64 0]) hA9 [Value.int .i64 (f m).e, .int .u64 (f m).v, .int .i64 (f m).f, .int .i64 (f m).g, .int .i64 (f m).p] rfl)
  have hk10 : Kp (fun k => k = kr) V9 (V9.setCells kr 0 [Value.int .i64 (f m).e, .int .u64 (f m).v, .int .i64 (f m).f, .int .i64 (f m).g, .int .i64 (f m).p]) := kp_setsZ V9 kr [Value.int .i64 (f m).e, .int .u64 (f m).v, .int .i64 (f m).f, .int .i64 (f m).g, .int .i64 (f m).p] 0
  have h10 := h8.out.side (o' := boxOb kr (List.toArray [Value.int .i64 (f m).e, .int .u64 (f m).v, .int .i64 (f m).f, .int .i64 (f m).g, .int .i64 (f m).p])) hA10.out hk10 (fun _ r => .inl r)
  replace hB := Hz.mk (hB.out.trans h10.2)
  replace h10 := Hz.mk h10.1
  clear h8 hA9 hk10 hsd g9
  refine wpList_plain rfl (fun K hK => ?_)
  refine wp_store_mid _ _ _ rfl _ _ (List.toArray [Value.int .i64 (f m).e, .int .u64 (f m).v, .int .i64 (f m).f, .int .i64 (f m).g, .int .i64 (f m).p]) rfl rfl hth.out (by kernel_rfl) (by simp [Value.oneCell']) (hK _ _ ?_)
  clear hK K
  try simp only [Act.put]
  generalize World.setCells _ _ _ _ = V11 at *
  have hrun := Hz.mk (run_loadVar_mid (P := Try.prog) V11 kr 0 41 [Value.int .i64 (f m).e, .int .u64 (f m).v, .int .i64 (f m).f, .int .i64 (f m).g, .int .i64 (f m).p] _ (fun j v q => by rw [Nat.zero_add]; exact (hA10.out.2.1 j).trans (by simpa using q)) Try.underlying41 rfl (by kernel_rfl))
  go_wp2_with fail
  refine bodyPost_ret (v := .agg #[.int .i64 (f m).e, .int .u64 (f m).v, .int .i64 (f m).f, .int .i64 (f m).g, .int .i64 (f m).p]) ?_ rfl ⟨rfl, h10.out.drop, hB.out⟩
  exact results_rowZ Try.results7 _ _ rfl hrun.out
def sp (s : Fm) : Fm := { s with e := 4, v := 0, f := 0 }
set_option maxRecDepth 100000 in
set_option maxHeartbeats 4000000 in
theorem run_spent (B : Nat) (W : World) (a : Nat) (P : Pr) (l : List Ob) (n m : Nat) (f : Nat → Fm) (h : MIn B W a P (f 0) l) (hm : m ≤ n) (h0 : ∀ k, k < m → (f k).e = 0) (hG : ∀ k, k < m → Goes P (f k) (f (k + 1))) (hE : m = n ∨ (f m).e ≠ 0) (hn : n ≤ 100000) (he : (f m).e = 0) :
    Calls Try.prog 7 #[.pointer (some ⟨a, 0, none⟩), .int .i64 n] W fun x w' => x = .returned (.agg #[.int .i64 (sp (f m)).e, .int .u64 (sp (f m)).v, .int .i64 (sp (f m)).f, .int .i64 (sp (f m)).g, .int .i64 (sp (f m)).p]) ∧ MIn B w' a P (sp (f m)) l ∧ Below B W w' := by
  have hni : (n : Int) ≤ 100000 := by omega
  have h2 := Hz.mk (h.new #[.int .i64 0, .int .u64 0, .int .i64 0, .int .i64 0, .int .i64 0] 41)
  clear h
  go_enter Try.func7, Try.ntmps7
  go_upto_region 1 with fail
  refine wp_world (fun V => MIn B V a P (f 0) (boxOb W.heap.size #[.int .i64 0, .int .u64 0, .int .i64 0, .int .i64 0, .int .i64 0] :: l) ∧ Below B W V) h2.out ?_
  rintro V ⟨h, hB⟩
  replace h := Hz.mk h
  replace hB := Hz.mk hB
  clear h2
  generalize hkr : W.heap.size = kr at *
  clear hkr
  have hst := Hz.mk (steps_any B V a P _ n m f h.out hm h0 hG hE (by omega))
  replace h0 := Hz.mk h0
  replace hG := Hz.mk hG
  replace hE := Hz.mk hE
  go_wp2_with fail
  rw [show min (n : Int) 100000 = (n : Int) from Int.min_eq_left hni]
  refine hst.out.mono ?_
  rintro r V7 ⟨rfl, h7, hB8⟩
  replace hB := Hz.mk (hB.out.trans hB8)
  replace h7 := Hz.mk h7
  clear h hst hB8
  have c26 := h7.out.e26
  rw [he] at c26
  have hfi := Hz.mk (h7.out.onBox (s' := sp (f m)) ⟨rfl, rfl, rfl, rfl, rfl⟩ (fun q hb => finish_any a _ 4 0 _ hb))
  go_wp2_with fail
  refine hfi.out.mono ?_
  rintro r V8 ⟨rfl, h8, hB8⟩
  replace hB := Hz.mk (hB.out.trans hB8)
  replace h8 := Hz.mk h8
  clear h7 hfi hB8 c26 he
  have hsd := Hz.mk (stands_any B V8 a P (sp (f m)) _ h8.out)
  go_upto_region 6 with fail
  have hle8 := h8.out.le
  refine wp_region_lit ?_
  refine wpList_plain rfl (fun K hK => ?_)
  go_simp
  with_reducible refine hK _ _ ?_
  clear hK K
  try simp only [Act.put, List.setIfInBounds_toArray, List.set_cons_zero, List.set_cons_succ]
  refine wpList_plain rfl (fun K hK => ?_)
  go_simp
  (refine hsd.out.mono ?_; rintro r V9 ⟨rfl, g9⟩)
  with_reducible refine hK _ _ ?_
  clear hK K
  try simp only [Act.put, List.setIfInBounds_toArray, List.set_cons_zero, List.set_cons_succ]
  replace h8 := Hz.mk (h8.out.gro g9)
  replace hB : Hz (Below B W V9) := Hz.mk (hB.out.trans (g9.below.mono hle8))
  have hA9 : At V9 kr #[.int .i64 0, .int .u64 0, .int .i64 0, .int .i64 0, .int .i64 0] := h8.out.there (boxOb kr #[.int .i64 0, .int .u64 0, .int .i64 0, .int .i64 0, .int .i64 0]) (.head _)
  have hth := Hz.mk (At.there (cs := [Value.int .i64 0, .int .u64 0, .int .i64 0, .int .i64 0, .int .i64 0]) hA9 0 5 (by decide))
  have hA10 := Hz.mk (At.setAll (cs := [Value.int .i64 0, .int .u64 0, .int .i64 0, .int .i64 0, .int .i64 0]) hA9 [Value.int .i64 (sp (f m)).e, .int .u64 (sp (f m)).v, .int .i64 (sp (f m)).f, .int .i64 (sp (f m)).g, .int .i64 (sp (f m)).p] rfl)
  have hk10 : Kp (fun k => k = kr) V9 (V9.setCells kr 0 [Value.int .i64 (sp (f m)).e, .int .u64 (sp (f m)).v, .int .i64 (sp (f m)).f, .int .i64 (sp (f m)).g, .int .i64 (sp (f m)).p]) := kp_setsZ V9 kr [Value.int .i64 (sp (f m)).e, .int .u64 (sp (f m)).v, .int .i64 (sp (f m)).f, .int .i64 (sp (f m)).g, .int .i64 (sp (f m)).p] 0
  have h10 := h8.out.side (o' := boxOb kr (List.toArray [Value.int .i64 (sp (f m)).e, .int .u64 (sp (f m)).v, .int .i64 (sp (f m)).f, .int .i64 (sp (f m)).g, .int .i64 (sp (f m)).p])) hA10.out hk10 (fun _ r => .inl r)
  replace hB := Hz.mk (hB.out.trans h10.2)
  replace h10 := Hz.mk h10.1
  clear h8 hA9 hk10 hsd g9
  refine wpList_plain rfl (fun K hK => ?_)
  refine wp_store_mid _ _ _ rfl _ _ (List.toArray [Value.int .i64 (sp (f m)).e, .int .u64 (sp (f m)).v, .int .i64 (sp (f m)).f, .int .i64 (sp (f m)).g, .int .i64 (sp (f m)).p]) rfl rfl hth.out (by kernel_rfl) (by simp [Value.oneCell']) (hK _ _ ?_)
  clear hK K
  try simp only [Act.put]
  generalize World.setCells _ _ _ _ = V11 at *
  have hrun := Hz.mk (run_loadVar_mid (P := Try.prog) V11 kr 0 41 [Value.int .i64 (sp (f m)).e, .int .u64 (sp (f m)).v, .int .i64 (sp (f m)).f, .int .i64 (sp (f m)).g, .int .i64 (sp (f m)).p] _ (fun j v q => by rw [Nat.zero_add]; exact (hA10.out.2.1 j).trans (by simpa using q)) Try.underlying41 rfl (by kernel_rfl))
  go_wp2_with fail
  refine bodyPost_ret (v := .agg #[.int .i64 (sp (f m)).e, .int .u64 (sp (f m)).v, .int .i64 (sp (f m)).f, .int .i64 (sp (f m)).g, .int .i64 (sp (f m)).p]) ?_ rfl ⟨rfl, h10.out.drop, hB.out⟩
  exact results_rowZ Try.results7 _ _ rfl hrun.out
end Z
end Go.Proofs.Ytimiofkiadlnbaa


/-
  Stage 13, fastvm: what one instruction does.
-/
namespace Go.Proofs.Ytimiofkiadlnbaa
namespace Z
open Go.RowKit
open T (Sep Ob Kp Mf FlIn boxOb)

set_option maxHeartbeats 4000000 in
theorem enter_all (op : Int) (h : Named op) (args : Array Value) (w : World) : (callFunc (methF op) args).run Try.prog w = .ok (.enter (methF op) args) w := by
  have hc : op = 0 ∨ op = 1 ∨ op = 2 ∨ op = 3 ∨ op = 4 ∨ op = 5 ∨ op = 6 ∨ op = 7 ∨ op = 8 ∨ op = 9 ∨ op = 10 ∨ op = 11 ∨ op = 12 ∨ op = 13 ∨ op = 20 ∨ op = 21 ∨ op = 22 ∨ op = 23 ∨ op = 24 ∨ op = 27 ∨ op = 28 ∨ op = 29 ∨ op = 30 ∨ op = 31 ∨ op = 32 ∨ op = 60 ∨ op = 61 ∨ op = 62 ∨ op = 63 ∨ op = 64 ∨ op = 65 ∨ op = 70 ∨ op = 71 ∨ op = 72 := by unfold Named at h; omega
  clear h
  rcases hc with rfl | rfl | rfl | rfl | rfl | rfl | rfl | rfl | rfl | rfl | rfl | rfl | rfl | rfl | rfl | rfl | rfl | rfl | rfl | rfl | rfl | rfl | rfl | rfl | rfl | rfl | rfl | rfl | rfl | rfl | rfl | rfl | rfl | rfl
  · rw [show methF 0 = 50 from rfl]; simp [go_sem]
  · rw [show methF 1 = 37 from rfl]; simp [go_sem]
  · rw [show methF 2 = 38 from rfl]; simp [go_sem]
  · rw [show methF 3 = 39 from rfl]; simp [go_sem]
  · rw [show methF 4 = 40 from rfl]; simp [go_sem]
  · rw [show methF 5 = 41 from rfl]; simp [go_sem]
  · rw [show methF 6 = 42 from rfl]; simp [go_sem]
  · rw [show methF 7 = 43 from rfl]; simp [go_sem]
  · rw [show methF 8 = 44 from rfl]; simp [go_sem]
  · rw [show methF 9 = 45 from rfl]; simp [go_sem]
  · rw [show methF 10 = 46 from rfl]; simp [go_sem]
  · rw [show methF 11 = 47 from rfl]; simp [go_sem]
  · rw [show methF 12 = 48 from rfl]; simp [go_sem]
  · rw [show methF 13 = 49 from rfl]; simp [go_sem]
  · rw [show methF 20 = 51 from rfl]; simp [go_sem]
  · rw [show methF 21 = 52 from rfl]; simp [go_sem]
  · rw [show methF 22 = 53 from rfl]; simp [go_sem]
  · rw [show methF 23 = 54 from rfl]; simp [go_sem]
  · rw [show methF 24 = 55 from rfl]; simp [go_sem]
  · rw [show methF 27 = 56 from rfl]; simp [go_sem]
  · rw [show methF 28 = 57 from rfl]; simp [go_sem]
  · rw [show methF 29 = 58 from rfl]; simp [go_sem]
  · rw [show methF 30 = 59 from rfl]; simp [go_sem]
  · rw [show methF 31 = 60 from rfl]; simp [go_sem]
  · rw [show methF 32 = 61 from rfl]; simp [go_sem]
  · rw [show methF 60 = 62 from rfl]; simp [go_sem]
  · rw [show methF 61 = 63 from rfl]; simp [go_sem]
  · rw [show methF 62 = 64 from rfl]; simp [go_sem]
  · rw [show methF 63 = 65 from rfl]; simp [go_sem]
  · rw [show methF 64 = 66 from rfl]; simp [go_sem]
  · rw [show methF 65 = 67 from rfl]; simp [go_sem]
  · rw [show methF 70 = 68 from rfl]; simp [go_sem]
  · rw [show methF 71 = 69 from rfl]; simp [go_sem]
  · rw [show methF 72 = 70 from rfl]; simp [go_sem]
theorem goes_of {P : Pr} {s s' : Fm} (i : Fi) (hg : s.g < P.code.length) (hp : s.p < P.code[s.g].length) (hi : P.code[s.g][s.p] = i) (hn : Named i.op) (hI : ∀ B V a l, MIn B V a P s l → Calls Try.prog (methF i.op) #[.agg #[.int .u8 i.op, .int .i64 i.a, .int .i64 i.b, .int .i64 i.c, .int .u64 i.i], .pointer (some ⟨a, 0, none⟩)] V fun x w' => x = .returned (.tuple #[]) ∧ MIn B w' a P s' l ∧ Below B V w') : Goes P s s' := by
  subst hi
  exact fun B W a l h => do_ok B W a P s l s' h hg hp (enter_all _ hn) (fun V hV => hI B V a l hV)
set_option maxRecDepth 100000 in
set_option maxHeartbeats 4000000 in
theorem touches_any (B : Nat) (W : World) (a : Nat) (P : Pr) (s : Fm) (l : List Ob) (h : MIn B W a P s l) (hl : s.tc.length ≤ 1000000) :
    Calls Try.prog 10 #[.pointer (some ⟨a, 0, none⟩)] W fun x w' => ∃ v, x = .returned v ∧ w'.ownsRow W.heap.size 49 3 v s.tc.length (s.tc.flatMap Tc.vals) ∧ Below W.heap.size W w' := by
  have hcl : ∃ v0, W.cell? ⟨a, 25, none⟩ = some v0 ∧ Calls Try.prog 20 #[v0] W fun x w' => ∃ v, x = .returned v ∧ w'.ownsRow W.heap.size 49 3 v s.tc.length (s.tc.flatMap Tc.vals) ∧ Below W.heap.size W w' := by
    obtain ⟨⟨q, h1⟩, le⟩ := h
    have hb := h1.ins (bxOb a (bxOf P s q)) (by simp [obs])
    have hO : W.ownsRow B 49 3 q.tv s.tc.length (s.tc.flatMap Tc.vals) := h1.ins (tcOb B q.tv s.tc) (by simp [obs])
    refine ⟨_, hb.at_ 25 (by omega), ?_⟩
    show Calls Try.prog _ #[q.tv] W _
    have hlt := hO.lt
    rcases hO.2 with ⟨e1, e2⟩ | ⟨g, cap, cur, e1, hbb, hg, hc1, hc2, hc3, hc4⟩
    · rw [e1]
      refine (clnil_tcs W).mono ?_
      rintro x w' ⟨rfl, rfl⟩
      have hx := hO.1
      rw [e2, Nat.zero_mul] at hx
      rw [e2, List.length_eq_zero_iff.1 hx]
      exact ⟨_, rfl, World.ownsRow_nil _ _ _ _, Below.refl _ _⟩
    · rw [e1]
      refine clone_tcs g 0 s.tc.length cap (s.tc.flatMap Tc.vals) W (hlt g (by rw [e1]; rfl)).2 hO.1 (fun j u hj => ?_) (fun u hu => by
      obtain ⟨y, _, hy⟩ := List.mem_flatMap.1 hu
      simp only [Tc.vals, List.mem_cons, List.not_mem_nil, or_false] at hy
      rcases hy with rfl | rfl | rfl <;> rfl) (Nat.le_trans hl (by decide))
      have hjl : j < s.tc.length * 3 := by have := (List.getElem?_eq_some_iff.1 hj).1; rwa [hO.1] at this
      rw [← hc4, List.getElem?_take_of_lt hjl] at hj
      have : W.cell? ⟨g, 0 + j, none⟩ = cur[j]? := by simp [World.cell?, hg]
      rw [this, ← hj]
      simp
  obtain ⟨v0, c0, hcl⟩ := hcl
  replace hcl := Hz.mk hcl
  replace h := Hz.mk h
  go_enter Try.func10, Try.ntmps10
  go_wp2_with fail
  refine hcl.out.mono ?_
  rintro x w' ⟨v, rfl, h1, h2⟩
  replace h1 := Hz.mk h1
  replace h2 := Hz.mk h2
  go_wp2_with fail
  go_ret
  exact ⟨_, rfl, h1.out, h2.out⟩
set_option maxRecDepth 100000 in
set_option maxHeartbeats 4000000 in
theorem out_any (B : Nat) (W : World) (a : Nat) (P : Pr) (s : Fm) (l : List Ob) (h : MIn B W a P s l) (hl : s.out.length ≤ 1000000) :
    Calls Try.prog 8 #[.pointer (some ⟨a, 0, none⟩)] W fun x w' => ∃ v, x = .returned v ∧ w'.ownsRow W.heap.size 24 1 v s.out.length (s.out.map u64I) ∧ Below W.heap.size W w' := by
  have hcl : ∃ v0, W.cell? ⟨a, 24, none⟩ = some v0 ∧ Calls Try.prog 16 #[v0] W fun x w' => ∃ v, x = .returned v ∧ w'.ownsRow W.heap.size 24 1 v s.out.length (s.out.map u64I) ∧ Below W.heap.size W w' := by
    obtain ⟨⟨q, h1⟩, le⟩ := h
    have hb := h1.ins (bxOb a (bxOf P s q)) (by simp [obs])
    have hO : W.ownsRow B 24 1 q.ov_ s.out.length (s.out.map u64I) := h1.ins (ouOb B q.ov_ s.out) (by simp [obs])
    refine ⟨_, hb.at_ 24 (by omega), ?_⟩
    show Calls Try.prog _ #[q.ov_] W _
    have hlt := hO.lt
    rcases hO.2 with ⟨e1, e2⟩ | ⟨g, cap, cur, e1, hbb, hg, hc1, hc2, hc3, hc4⟩
    · rw [e1]
      refine (clnil_u64 W).mono ?_
      rintro x w' ⟨rfl, rfl⟩
      have hx := hO.1
      rw [e2, Nat.zero_mul] at hx
      rw [e2, List.length_eq_zero_iff.1 hx]
      exact ⟨_, rfl, World.ownsRow_nil _ _ _ _, Below.refl _ _⟩
    · rw [e1]
      refine clone_u64 g 0 s.out.length cap (s.out.map u64I) W (hlt g (by rw [e1]; rfl)).2 hO.1 (fun j u hj => ?_) (fun u hu => by
      obtain ⟨y, _, rfl⟩ := List.mem_map.1 hu
      rfl) (Nat.le_trans hl (by decide))
      have hjl : j < s.out.length * 1 := by have := (List.getElem?_eq_some_iff.1 hj).1; rwa [hO.1] at this
      rw [← hc4, List.getElem?_take_of_lt hjl] at hj
      have : W.cell? ⟨g, 0 + j, none⟩ = cur[j]? := by simp [World.cell?, hg]
      rw [this, ← hj]
      simp
  obtain ⟨v0, c0, hcl⟩ := hcl
  replace hcl := Hz.mk hcl
  replace h := Hz.mk h
  go_enter Try.func8, Try.ntmps8
  go_wp2_with fail
  refine hcl.out.mono ?_
  rintro x w' ⟨v, rfl, h1, h2⟩
  replace h1 := Hz.mk h1
  replace h2 := Hz.mk h2
  go_wp2_with fail
  go_ret
  exact ⟨_, rfl, h1.out, h2.out⟩
end Z
end Go.Proofs.Ytimiofkiadlnbaa
