import Derived.Test.YthmlkcglglcljaaGreatDoorK43
namespace Go.Proofs.YthmlkcglglcljaaGreatDoor
set_option maxRecDepth 100000
set_option maxHeartbeats 40000000
namespace C
open Go.RowKit
open T (Sep Ob Kp Mf TgIn boxOb Fm Tc Ed Vl Cp Bx tgOb mRow updV flt)

theorem entry_neg (m : PImg) (ra ca ga : Option Addr) (rc cc gc : Nat) (gate : Int) (sa : Option Addr) (n sc : Nat) (w : World) (h0 : 0 < m.gates.length) (h : gate < 0) :
   Calls Tryz.prog 22 #[.agg #[.slice ra m.regs.length rc, .slice ca m.comps.length cc, .slice ga m.gates.length gc, .int .i64 m.depth], .int .i64 gate, .slice sa n sc] w fun x w' => x = .returned (.tuple #[.int .i64 gate, .slice sa n sc]) ∧ Bl w w' := by
 have hz : ((m.gates.length : Int) == 0) = false := beq_false_of_ne (by omega)
 go_enter Tryz.func22, Tryz.ntmps22
 go_upto_region 1 with fail
 refine wp_world (fun W => At W w.heap.size #[.slice ra m.regs.length rc, .slice ca m.comps.length cc, .slice ga m.gates.length gc, .int .i64 m.depth] ∧ Bl w W) ⟨At.new w _ _, (Bl.refl _).alloc _⟩ ?_
 rintro W ⟨hQ, G⟩
 have hks : Hz (w.heap.size < W.heap.size) := Hz.mk hQ.1
 have d1 : W.cell? ⟨w.heap.size, 2, none⟩ = some (.slice ga m.gates.length gc) := hQ.2.1 2
 generalize w.heap.size = kp at *
 clear h0
 replace G := Hz.mk G
 go_wp2_with fail
 simp [bodyPost, results, Tryz.results22, go_sem]
 exact G.out
def entN (A : List Nat) (n : Nat) : List Nat := (List.range n).map fun i => A.getD i i
theorem entN_len (A : List Nat) (n : Nat) : (entN A n).length = n := by simp [entN]
theorem entN_succ (A : List Nat) (n : Nat) : entN A (n + 1) = entN A n ++ [A.getD n n] := by simp [entN, List.range_succ]
def uN (x : Nat) : Value := .int .u64 (x : Int)
theorem own_low {w : World} {lo lo2 e s n : Nat} {v : Value} {xs : List Value} (h : w.ownsRow lo e s v n xs) (hl : lo2 ≤ lo) : w.ownsRow lo2 e s v n xs := by
 refine ⟨h.1, ?_⟩
 rcases h.2 with q | ⟨g, cap, cur, e1, e2, e3⟩
 · exact .inl q
 · exact .inr ⟨g, cap, cur, e1, Nat.le_trans hl e2, e3⟩
theorem own_numin {w : World} {lo : Nat} {v : Value} {L : List Nat} (h : w.ownsRow lo 32 1 v L.length (L.map uN)) : ∃ va c, v = .slice va L.length c ∧ NumIn w va L := by
 have hlt := h.lt
 rcases h.2 with ⟨rfl, h9⟩ | ⟨g, cap, cur, rfl, hb, hg, hc1, hc2, hc3, hc4⟩
 · exact ⟨none, 0, by rw [h9], fun i hi => by omega⟩
 · refine ⟨_, cap, rfl, fun i hi => ⟨g, 0, rfl, (hlt g rfl).2, ?_⟩⟩
   have : w.cell? ⟨g, 0 + i, none⟩ = cur[i]? := by simp [World.cell?, hg]
   rw [this]
   have h2 : (L.map uN)[i]? = some (.int .u64 L[i]) := by simp [hi, uN]
   rw [← hc4, List.getElem?_take_of_lt (by omega)] at h2
   rw [← h2]
   simp
theorem entry_any (m : PImg) (ra ca ga : Option Addr) (rc cc gc : Nat) (gate g n : Nat) (A : List Nat) (sa : Option Addr) (sc : Nat) (w : World) (hm : GateIn w.heap.size w ga m.gates) (hA : NumIn w sa A) (h0 : 0 < m.gates.length) (hg : g = gate % m.gates.length) (hgl : g < m.gates.length) (hn : m.gates[g].args.length = n) (hn2 : n ≤ 1000) :
   Calls Tryz.prog 22 #[.agg #[.slice ra m.regs.length rc, .slice ca m.comps.length cc, .slice ga m.gates.length gc, .int .i64 m.depth], .int .i64 gate, .slice sa A.length sc] w fun x w' => ∃ v, x = .returned (.tuple #[.int .i64 g, v]) ∧ w'.ownsRow w.heap.size 32 1 v n ((entN A n).map uN) ∧ Below w.heap.size w w' := by
 have hz : ((m.gates.length : Int) == 0) = false := beq_false_of_ne (by omega)
 have hz2 : ¬ (gate : Int) < 0 := by omega
 have hrm : Int.tmod (gate : Int) (m.gates.length : Int) = (g : Int) := by rw [hg]; rfl
 have hgi : (g : Int) < (m.gates.length : Int) := Int.ofNat_lt.2 hgl
 obtain ⟨gb, goff, xa, xc, ya, yc, rfl, _, hgb0, _, _, e2, _, _, _⟩ := hm g hgl
 rw [hn] at e2
 replace e2 : w.cell? ⟨gb, goff + g * 4 + 2, none⟩ = some (.slice xa n xc) := e2
 go_enter Tryz.func22, Tryz.ntmps22
 go_upto_region 1 with fail
 refine wp_world (fun W => At W w.heap.size #[.slice ra m.regs.length rc, .slice ca m.comps.length cc, .slice (some ⟨gb, goff, none⟩) m.gates.length gc, .int .i64 m.depth] ∧ Bl w W) ⟨At.new w _ _, (Bl.refl _).alloc _⟩ ?_
 rintro W ⟨hQ, G⟩
 have hks : Hz (w.heap.size < W.heap.size) := Hz.mk hQ.1
 have d1 : W.cell? ⟨w.heap.size, 2, none⟩ = some (.slice (some ⟨gb, goff, none⟩) m.gates.length gc) := hQ.2.1 2
 have d5 : W.cell? ⟨gb, goff + g * 4 + 2, none⟩ = some (.slice xa n xc) := (G.cell (p := ⟨gb, _, none⟩) hgb0).trans e2
 have hgb : gb < W.heap.size := Nat.lt_of_lt_of_le hgb0 G.size
 replace hA := Hz.mk (hA.bl G)
 replace hg := Hz.mk hg
 replace G := Hz.mk G
 have hG0 : Hz (w.heap.size ≤ W.heap.size) := Hz.mk G.out.size
 clear hm e2 hn hgb0
 go_upto_region 6 with fail
 replace d1 := Hz.mk d1
 replace d5 := Hz.mk d5
 go_loopw [9, 10] (fun v x wr => ∃ (la : Option Addr) (lc j : Nat), v = .slice la j lc ∧ x = .int .i64 j ∧ j ≤ n ∧ Hz (wr.ownsRow W.heap.size 32 1 (.slice la j lc) j ((entN A j).map uN)) ∧ Hz (Below W.heap.size W wr)) (fun _ x _ => n - (intOf x).toNat)
 case atStart => exact ⟨none, 0, 0, rfl, rfl, Nat.zero_le _, Hz.mk (World.ownsRow_nil _ _ _ _), Hz.mk (Below.refl _ _)⟩
 case round =>
   obtain ⟨la, lc, j, rfl, rfl, hj, hown, hB⟩ := hrel
   have e1 := (T.cell_of_block (hB.out.block w.heap.size hks.out) 2).trans d1.out
   have e5 := (T.cell_of_block (hB.out.block gb hgb) _).trans d5.out
   by_cases hlt : j < n
   · have q1 : (j : Int) < (n : Int) := by omega
     by_cases hja : j < A.length
     · have hji : (j : Int) < (A.length : Int) := Int.ofNat_lt.2 hja
       obtain ⟨ab, ao, rfl, hab, hac⟩ := hA.out j hja
       have e7 := (T.cell_of_block (hB.out.block ab hab) _).trans hac
       have hvl : Hz (A.getD j j = A[j]) := Hz.mk (by simp [hja])
       go_upto_region 11 with fail
       clear e7
       refine wp_region_lit ?_
       iterate 3 (refine wpList_plain rfl (fun K hK => ?_); go_simp; with_reducible refine hK _ _ ?_; clear hK K; (try simp only [xap]))
       have hX : At (wr.alloc (.cells #[.int .u64 ((A[j]'hja : Nat) : Int)] 32)) wr.heap.size #[.int .u64 ((A[j]'hja : Nat) : Int)] := At.new wr _ _
       have ho2 : (wr.alloc (.cells #[.int .u64 ((A[j]'hja : Nat) : Int)] 32)).ownsRow W.heap.size 32 1 (.slice la j lc) j ((entN A j).map uN) := hown.out.alloc _
       have hB2 : Hz (Below W.heap.size W (wr.alloc (.cells #[.int .u64 ((A[j]'hja : Nat) : Int)] 32))) := Hz.mk (hB.out.alloc hB.out.size _)
       generalize hVV : wr.alloc (.cells #[.int .u64 ((A[j]'hja : Nat) : Int)] 32) = V at *
       clear hVV
       generalize wr.heap.size = kX at *
       refine wpList_plain rfl (fun K hK => ?_)
       refine wp_append_z _ _ 27 32 (.int .u64 0) 1 8 rfl Tryz.underlying27 (by kernel_rfl) (by kernel_rfl) (by decide) (by decide) W.heap.size (.slice la j lc) j ((entN A j).map uN) [.int .u64 ((A[j]'hja : Nat) : Int)] (by rfl) ho2 kX (by rfl) hX rfl (by simp [Value.oneCell']) (by omega) hB2.out.size ?_
       intro g9 cap w9 k1 k2 k3
       have hB3 : Hz (Below W.heap.size W w9) := Hz.mk (hB2.out.trans ⟨k2.os, k2.tape, k2.output, k2.size, fun k hk => k2.block k (Nat.lt_of_lt_of_le hk hB2.out.size) (fun e => by have := (ho2.lt k e.symm).1; omega)⟩)
       have k4 : Hz (w9.ownsRow W.heap.size 32 1 (.slice (some ⟨g9, 0, none⟩) (j + 1) cap) (j + 1) ((entN A (j + 1)).map uN)) := Hz.mk (by rw [entN_succ, List.map_append, hvl.out]; exact k1)
       clear k1 k2 k3 ho2 hX hB2 hB hown e1 e5
       refine hK _ _ ?_
       clear hK K
       try simp only [xap]
       go_wp2_with fail
       refine ⟨⟨_, _, j + 1, rfl, ?_, hlt, k4, hB3⟩, ?_⟩
       · go_num
       · simp [intOf]; omega
     · have hji : ¬ (j : Int) < (A.length : Int) := fun q => hja (Int.ofNat_lt.1 q)
       have hwr : IntKind.u64.wrap (j : Int) = (j : Int) := by rw [IntKind.wrap_u64]; omega
       have hvl : Hz (A.getD j j = j) := Hz.mk (by simp [hja])
       go_upto_region 11 with fail
       refine wp_region_lit ?_
       iterate 3 (refine wpList_plain rfl (fun K hK => ?_); go_simp; with_reducible refine hK _ _ ?_; clear hK K; (try simp only [xap]))
       have hX : At (wr.alloc (.cells #[.int .u64 (j : Int)] 32)) wr.heap.size #[.int .u64 (j : Int)] := At.new wr _ _
       have ho2 : (wr.alloc (.cells #[.int .u64 (j : Int)] 32)).ownsRow W.heap.size 32 1 (.slice la j lc) j ((entN A j).map uN) := hown.out.alloc _
       have hB2 : Hz (Below W.heap.size W (wr.alloc (.cells #[.int .u64 (j : Int)] 32))) := Hz.mk (hB.out.alloc hB.out.size _)
       generalize hVV : wr.alloc (.cells #[.int .u64 (j : Int)] 32) = V at *
       clear hVV
       generalize wr.heap.size = kX at *
       refine wpList_plain rfl (fun K hK => ?_)
       refine wp_append_z _ _ 27 32 (.int .u64 0) 1 8 rfl Tryz.underlying27 (by kernel_rfl) (by kernel_rfl) (by decide) (by decide) W.heap.size (.slice la j lc) j ((entN A j).map uN) [.int .u64 (j : Int)] (by rfl) ho2 kX (by rfl) hX rfl (by simp [Value.oneCell']) (by omega) hB2.out.size ?_
       intro g9 cap w9 k1 k2 k3
       have hB3 : Hz (Below W.heap.size W w9) := Hz.mk (hB2.out.trans ⟨k2.os, k2.tape, k2.output, k2.size, fun k hk => k2.block k (Nat.lt_of_lt_of_le hk hB2.out.size) (fun e => by have := (ho2.lt k e.symm).1; omega)⟩)
       have k4 : Hz (w9.ownsRow W.heap.size 32 1 (.slice (some ⟨g9, 0, none⟩) (j + 1) cap) (j + 1) ((entN A (j + 1)).map uN)) := Hz.mk (by rw [entN_succ, List.map_append, hvl.out]; exact k1)
       clear k1 k2 k3 ho2 hX hB2 hB hown e1 e5
       refine hK _ _ ?_
       clear hK K
       try simp only [xap]
       go_wp2_with fail
       refine ⟨⟨_, _, j + 1, rfl, ?_, hlt, k4, hB3⟩, ?_⟩
       · go_num
       · simp [intOf]; omega
   · obtain rfl : j = n := by omega
     have hres := Hz.mk (And.intro (own_low hown.out hG0.out) (Below.trans G.out (Below.mono hB.out hG0.out)))
     have q1 : ¬ (j : Int) < (j : Int) := by omega
     go_wp2_with fail
     refine bodyPost_ret (v := .tuple #[.int .i64 g, .slice la j lc]) (by simp [results, Tryz.results22, go_sem]) rfl ⟨_, rfl, hres.out⟩
end C
end Go.Proofs.YthmlkcglglcljaaGreatDoor


namespace Go.Proofs.YthmlkcglglcljaaGreatDoor
set_option maxRecDepth 100000
set_option maxHeartbeats 40000000
namespace C
open Go.RowKit
open T (Sep Ob Kp Mf TgIn boxOb Fm Tc Ed Vl Cp Bx tgOb mRow updV flt)

theorem TabIn.bl {w W : World} (h : TabIn w) (g : Bl w W) : TabIn W := h.below g h.size
theorem begun_wrong (m : PImg) (gate : Int) (A I : List Nat) (ra ca ga aa ia : Option Addr) (rc cc gc ac ic : Nat) (w : World) (ht : TabIn w) (hm : ImgIn w.heap.size w ra ca ga m) (hr : m.Rng) (hno : m.right ≠ 0) : Calls Tryz.prog 7 #[.agg #[.slice ra m.regs.length rc, .slice ca m.comps.length cc, .slice ga m.gates.length gc, .int .i64 m.depth], .int .i64 gate, .slice aa A.length ac, .slice ia I.length ic] w fun x w' => x = .returned (.pointer none) ∧ Bl w w' := by
 have hRt := Hz.mk (fun X (q : Gr w X) => imgRight_any m ra ca ga rc cc gc X (ht.gr q) ((hm.below q.below).mono q.below.size) hr)
 have hTh := Hz.mk (fun X (q : Bl w X) => there_any m ra ca ga rc cc gc X ((hm.below q).mono q.size) hr.gates.1 hr.comps.1 (fun c hc => ⟨(hr.comps.2 c hc).1, Nat.le_trans (hr.comps.2 c hc).2.1 (by decide)⟩) (fun g hg => ⟨(hr.gates.2 g hg).2.2.1, (hr.gates.2 g hg).2.2.2.1⟩))
 have h0 : (m.right != 0) = true := by simpa using hno
 generalize m.right = e at *
 clear hm hr ht hno
 go_enter Tryz.func7, Tryz.ntmps7
 go_wp2_with fail
 refine (hRt.out _ ((Gr.refl w).alloc _)).mono ?_
 rintro x W1 ⟨rfl, e1⟩
 have g1 := Hz.mk ((Gr.refl w).alloc (.cells #[.slice ra m.regs.length rc, .slice ca m.comps.length cc, .slice ga m.gates.length gc, .int .i64 m.depth] 26) |>.trans e1).below
 have a1 := Bl.at_ (Bl.gr e1) (At.new w #[.slice ra m.regs.length rc, .slice ca m.comps.length cc, .slice ga m.gates.length gc, .int .i64 m.depth] 26)
 have ⟨l1, p1, _⟩ := a1
 replace a1 := Hz.mk a1
 clear e1 hRt
 go_wp2_with fail
 refine (hTh.out _ g1.out).mono ?_
 rintro x W2 ⟨q, rfl, hq, e2⟩
 replace g1 := Hz.mk (Bl.trans g1.out e2)
 replace a1 := Hz.mk (Bl.at_ e2 a1.out)
 clear e2 hTh p1 l1
 have ⟨l1, p1, _⟩ := a1.out
 replace hq := Hz.mk hq
 go_wp2_with fail
 go_ret
 exact ⟨rfl, g1.out⟩
theorem begun_neg (m : PImg) (gate : Int) (A I : List Nat) (ra ca ga aa ia : Option Addr) (rc cc gc ac ic : Nat) (w : World) (ht : TabIn w) (hm : ImgIn w.heap.size w ra ca ga m) (hr : m.Rng) (hf : Q.TwFit m) (hrt : m.right = 0) (hg : gate < 0) : Calls Tryz.prog 7 #[.agg #[.slice ra m.regs.length rc, .slice ca m.comps.length cc, .slice ga m.gates.length gc, .int .i64 m.depth], .int .i64 gate, .slice aa A.length ac, .slice ia I.length ic] w fun x w' => x = .returned (.pointer none) ∧ Bl w w' := by
 have hRt := Hz.mk (fun X (q : Gr w X) => imgRight_any m ra ca ga rc cc gc X (ht.gr q) ((hm.below q.below).mono q.below.size) hr)
 have hTh := Hz.mk (fun X (q : Bl w X) => there_any m ra ca ga rc cc gc X ((hm.below q).mono q.size) hr.gates.1 hr.comps.1 (fun c hc => ⟨(hr.comps.2 c hc).1, Nat.le_trans (hr.comps.2 c hc).2.1 (by decide)⟩) (fun g hg => ⟨(hr.gates.2 g hg).2.2.1, (hr.gates.2 g hg).2.2.2.1⟩))
 have hth := Hz.mk (th_of m hrt hr)
 have hEn := Hz.mk (fun X => entry_neg m ra ca ga rc cc gc gate aa A.length ac X hth.out.ne hg)
 have hTw := Hz.mk (fun X (q : Bl w X) => Q.Twin_any m ra ca ga rc cc gc X ((hm.below q).mono q.size) hf)
 have hNw := Hz.mk (fun X (q : Bl w X) ra ca ga rc cc gc (h : ImgIn X.heap.size X ra ca ga m) => new_no70 m gate A I ra ca ga aa ia rc cc gc ac ic X (TabIn.bl ht q) h hr hrt (by unfold isEnt; rw [if_neg (by omega)]))
 rw [hrt] at hRt
 clear hm hr hf ht hrt
 go_enter Tryz.func7, Tryz.ntmps7
 go_wp2_with fail
 refine (hRt.out _ ((Gr.refl w).alloc _)).mono ?_
 rintro x W1 ⟨rfl, e1⟩
 have g1 := Hz.mk ((Gr.refl w).alloc (.cells #[.slice ra m.regs.length rc, .slice ca m.comps.length cc, .slice ga m.gates.length gc, .int .i64 m.depth] 26) |>.trans e1).below
 have a1 := Bl.at_ (Bl.gr e1) (At.new w #[.slice ra m.regs.length rc, .slice ca m.comps.length cc, .slice ga m.gates.length gc, .int .i64 m.depth] 26)
 have ⟨l1, p1, _⟩ := a1
 replace a1 := Hz.mk a1
 clear e1 hRt
 go_wp2_with fail
 refine (hTh.out _ g1.out).mono ?_
 rintro x W2 ⟨q, rfl, hq, e2⟩
 replace g1 := Hz.mk (Bl.trans g1.out e2)
 replace a1 := Hz.mk (Bl.at_ e2 a1.out)
 clear e2 hTh p1 l1
 have ⟨l1, p1, _⟩ := a1.out
 obtain rfl : q = true := hq hth.out
 clear hq
 go_wp2_with fail
 refine (hEn.out _).mono ?_
 rintro x W3 ⟨rfl, e3⟩
 replace g1 := Hz.mk (Bl.trans g1.out e3)
 replace a1 := Hz.mk (Bl.at_ e3 a1.out)
 clear p1 l1
 have ⟨l1, p1, _⟩ := a1.out
 go_wp2_with fail
 refine (hTw.out _ g1.out).mono ?_
 rintro x W4 ⟨rfl, e4, lr, lc, lg, htw⟩
 have hImg := Hz.mk (twin_img htw)
 replace g1 := Hz.mk (Bl.trans g1.out (Bl.gr e4))
 clear p1 l1 a1 e4 htw
 go_wp2_with fail
 refine (hNw.out _ g1.out _ _ _ (m.regs.length + 8) (m.comps.length + 8) (m.gates.length + 8) hImg.out).mono ?_
 rintro x W5 ⟨rfl, e5⟩
 replace g1 := Hz.mk (Bl.trans g1.out e5)
 go_wp2_with fail
 go_ret
 exact ⟨rfl, g1.out⟩
theorem ents_lt (A : List Nat) (n : Nat) (hA : ∀ x ∈ A, x < 18446744073709551616) (hn : n ≤ 1000) : ∀ x ∈ entN A n, x < 18446744073709551616 := fun x hx => by
 obtain ⟨i, hi, rfl⟩ := List.mem_map.1 hx
 have hi' : i < n := List.mem_range.1 hi
 by_cases h : i < A.length
 · have e : A.getD i i = A[i] := by simp [h]
   rw [e]
   exact hA _ (List.getElem_mem h)
 · have e : A.getD i i = i := by simp [h]
   omega
theorem own_numn {w : World} {lo n : Nat} {v : Value} {L : List Nat} (hl : L.length = n) (h : w.ownsRow lo 32 1 v n (L.map uN)) : ∃ va c, v = .slice va n c ∧ NumIn w va L := by
 subst hl
 exact own_numin h
theorem eq_len {m : PImg} {g : Nat} (hg : g < m.gates.length) (A : List Nat) : (entN A m.gates[g].args.length).length = (argsOf m g).length := by rw [entN_len, argsOf_at m g hg]
theorem begun_shut (m : PImg) (gate g : Nat) (A I : List Nat) (ra ca ga aa ia : Option Addr) (rc cc gc ac ic : Nat) (w : World) (ht : TabIn w) (hm : ImgIn w.heap.size w ra ca ga m) (hr : m.Rng) (hf : Q.TwFit m) (hA : NumIn w aa A) (hrt : m.right = 0) (hgq : g = gate % m.gates.length) (hgl : g < m.gates.length) (hent : isEnt m g = false) : Calls Tryz.prog 7 #[.agg #[.slice ra m.regs.length rc, .slice ca m.comps.length cc, .slice ga m.gates.length gc, .int .i64 m.depth], .int .i64 gate, .slice aa A.length ac, .slice ia I.length ic] w fun x w' => x = .returned (.pointer none) ∧ Bl w w' := by
 have hRt := Hz.mk (fun X (q : Gr w X) => imgRight_any m ra ca ga rc cc gc X (ht.gr q) ((hm.below q.below).mono q.below.size) hr)
 have hTh := Hz.mk (fun X (q : Bl w X) => there_any m ra ca ga rc cc gc X ((hm.below q).mono q.size) hr.gates.1 hr.comps.1 (fun c hc => ⟨(hr.comps.2 c hc).1, Nat.le_trans (hr.comps.2 c hc).2.1 (by decide)⟩) (fun g hg => ⟨(hr.gates.2 g hg).2.2.1, (hr.gates.2 g hg).2.2.2.1⟩))
 have hth := Hz.mk (th_of m hrt hr)
 have h7 : m.gates[g].args.length ≤ 7 := (hth.out.gates _ (List.getElem_mem hgl)).2.2.1
 have hln := entN_len A m.gates[g].args.length
 have hEn := Hz.mk (fun X (q : Bl w X) => entry_any m ra ca ga rc cc gc gate g m.gates[g].args.length A aa ac X ((hm.gates.below q).mono q.size) (hA.bl q) hth.out.ne hgq hgl rfl (by omega))
 have hTw := Hz.mk (fun X (q : Bl w X) => Q.Twin_any m ra ca ga rc cc gc X ((hm.below q).mono q.size) hf)
 have hNw := Hz.mk (fun X (q : Bl w X) ra ca ga rc cc gc aa ac (h : ImgIn X.heap.size X ra ca ga m) (hn : NumIn X aa (entN A m.gates[g].args.length)) => new_no70 m g (entN A m.gates[g].args.length) I ra ca ga aa ia rc cc gc ac ic X (TabIn.bl ht q) h hr hrt hent)
 rw [hln] at hNw
 rw [hrt] at hRt
 generalize entN A m.gates[g].args.length = L at *
 generalize m.gates[g].args.length = n at *
 replace hln := Hz.mk hln
 replace hgq := Hz.mk hgq
 clear hm hr hf ht hA hrt
 go_enter Tryz.func7, Tryz.ntmps7
 go_wp2_with fail
 refine (hRt.out _ ((Gr.refl w).alloc _)).mono ?_
 rintro x W1 ⟨rfl, e1⟩
 have g1 := Hz.mk ((Gr.refl w).alloc (.cells #[.slice ra m.regs.length rc, .slice ca m.comps.length cc, .slice ga m.gates.length gc, .int .i64 m.depth] 26) |>.trans e1).below
 have a1 := Bl.at_ (Bl.gr e1) (At.new w #[.slice ra m.regs.length rc, .slice ca m.comps.length cc, .slice ga m.gates.length gc, .int .i64 m.depth] 26)
 have ⟨l1, p1, _⟩ := a1
 replace a1 := Hz.mk a1
 clear e1 hRt
 go_wp2_with fail
 refine (hTh.out _ g1.out).mono ?_
 rintro x W2 ⟨q, rfl, hq, e2⟩
 replace g1 := Hz.mk (Bl.trans g1.out e2)
 replace a1 := Hz.mk (Bl.at_ e2 a1.out)
 clear e2 hTh p1 l1
 have ⟨l1, p1, _⟩ := a1.out
 obtain rfl : q = true := hq hth.out
 clear hq
 go_wp2_with fail
 refine (hEn.out _ g1.out).mono ?_
 rintro x W3 ⟨v, rfl, hown, e3⟩
 obtain ⟨va, c, rfl, hnum⟩ := own_numn hln.out hown
 clear hown
 replace g1 := Hz.mk (Bl.trans g1.out e3)
 replace a1 := Hz.mk (Bl.at_ e3 a1.out)
 clear p1 l1
 have ⟨l1, p1, _⟩ := a1.out
 go_wp2_with fail
 refine (hTw.out _ g1.out).mono ?_
 rintro x W4 ⟨rfl, e4, lr, lc, lg, htw⟩
 have hImg := Hz.mk (twin_img htw)
 replace g1 := Hz.mk (Bl.trans g1.out (Bl.gr e4))
 replace hnum := Hz.mk (hnum.bl (Bl.gr e4))
 clear p1 l1 a1 e4 htw e3
 go_wp2_with fail
 refine (hNw.out _ g1.out _ _ _ (m.regs.length + 8) (m.comps.length + 8) (m.gates.length + 8) va c hImg.out hnum.out).mono ?_
 rintro x W5 ⟨rfl, e5⟩
 replace g1 := Hz.mk (Bl.trans g1.out e5)
 go_wp2_with fail
 go_ret
 exact ⟨rfl, g1.out⟩
theorem begun_ok (m : PImg) (gate g : Nat) (A I : List Nat) (ra ca ga aa ia : Option Addr) (rc cc gc ac ic : Nat) (w : World) (ht : TabIn w) (hm : ImgIn w.heap.size w ra ca ga m) (hr : m.Rng) (hf : Q.TwFit m) (hA : NumIn w aa A) (hI : InS w ia I ic) (hil : I.length ≤ 2000000) (hrt : m.right = 0) (hgq : g = gate % m.gates.length) (hgl : g < m.gates.length) (hent : isEnt m g = true) : Calls Tryz.prog 7 #[.agg #[.slice ra m.regs.length rc, .slice ca m.comps.length cc, .slice ga m.gates.length gc, .int .i64 m.depth], .int .i64 gate, .slice aa A.length ac, .slice ia I.length ic] w fun x w' => ∃ a B, x = .returned (.pointer (some ⟨a, 0, none⟩)) ∧ MIn B w' a (bare m) (start m g (entN A m.gates[g].args.length) I) [] ∧ w.heap.size ≤ B ∧ Bl w w' := by
 have hRt := Hz.mk (fun X (q : Gr w X) => imgRight_any m ra ca ga rc cc gc X (ht.gr q) ((hm.below q.below).mono q.below.size) hr)
 have hTh := Hz.mk (fun X (q : Bl w X) => there_any m ra ca ga rc cc gc X ((hm.below q).mono q.size) hr.gates.1 hr.comps.1 (fun c hc => ⟨(hr.comps.2 c hc).1, Nat.le_trans (hr.comps.2 c hc).2.1 (by decide)⟩) (fun g hg => ⟨(hr.gates.2 g hg).2.2.1, (hr.gates.2 g hg).2.2.2.1⟩))
 have hth := Hz.mk (th_of m hrt hr)
 have h7 : m.gates[g].args.length ≤ 7 := (hth.out.gates _ (List.getElem_mem hgl)).2.2.1
 have hln := entN_len A m.gates[g].args.length
 have hEn := Hz.mk (fun X (q : Bl w X) => entry_any m ra ca ga rc cc gc gate g m.gates[g].args.length A aa ac X ((hm.gates.below q).mono q.size) (hA.bl q) hth.out.ne hgq hgl rfl (by omega))
 have hTw := Hz.mk (fun X (q : Bl w X) => Q.Twin_any m ra ca ga rc cc gc X ((hm.below q).mono q.size) hf)
 have hNw := Hz.mk (fun X (q : Bl w X) ra ca ga rc cc gc aa ac (h : ImgIn X.heap.size X ra ca ga m) (hn : NumIn X aa (entN A m.gates[g].args.length)) => new_ok m g (entN A m.gates[g].args.length) I ra ca ga aa ia rc cc gc ac ic X (TabIn.bl ht q) h hr hrt hent (eq_len hgl A) hn (hI.bl q) hil)
 rw [hln] at hNw
 rw [hrt] at hRt
 generalize entN A m.gates[g].args.length = L at *
 generalize m.gates[g].args.length = n at *
 replace hln := Hz.mk hln
 replace hgq := Hz.mk hgq
 clear hm hr hf ht hA hrt hI
 go_enter Tryz.func7, Tryz.ntmps7
 go_wp2_with fail
 refine (hRt.out _ ((Gr.refl w).alloc _)).mono ?_
 rintro x W1 ⟨rfl, e1⟩
 have g1 := Hz.mk ((Gr.refl w).alloc (.cells #[.slice ra m.regs.length rc, .slice ca m.comps.length cc, .slice ga m.gates.length gc, .int .i64 m.depth] 26) |>.trans e1).below
 have a1 := Bl.at_ (Bl.gr e1) (At.new w #[.slice ra m.regs.length rc, .slice ca m.comps.length cc, .slice ga m.gates.length gc, .int .i64 m.depth] 26)
 have ⟨l1, p1, _⟩ := a1
 replace a1 := Hz.mk a1
 clear e1 hRt
 go_wp2_with fail
 refine (hTh.out _ g1.out).mono ?_
 rintro x W2 ⟨q, rfl, hq, e2⟩
 replace g1 := Hz.mk (Bl.trans g1.out e2)
 replace a1 := Hz.mk (Bl.at_ e2 a1.out)
 clear e2 hTh p1 l1
 have ⟨l1, p1, _⟩ := a1.out
 obtain rfl : q = true := hq hth.out
 clear hq
 go_wp2_with fail
 refine (hEn.out _ g1.out).mono ?_
 rintro x W3 ⟨v, rfl, hown, e3⟩
 obtain ⟨va, c, rfl, hnum⟩ := own_numn hln.out hown
 clear hown
 replace g1 := Hz.mk (Bl.trans g1.out e3)
 replace a1 := Hz.mk (Bl.at_ e3 a1.out)
 clear p1 l1
 have ⟨l1, p1, _⟩ := a1.out
 go_wp2_with fail
 refine (hTw.out _ g1.out).mono ?_
 rintro x W4 ⟨rfl, e4, lr, lc, lg, htw⟩
 have hImg := Hz.mk (twin_img htw)
 replace g1 := Hz.mk (Bl.trans g1.out (Bl.gr e4))
 replace hnum := Hz.mk (hnum.bl (Bl.gr e4))
 clear p1 l1 a1 e4 htw e3
 go_wp2_with fail
 refine (hNw.out _ g1.out _ _ _ (m.regs.length + 8) (m.comps.length + 8) (m.gates.length + 8) va c hImg.out hnum.out).mono ?_
 rintro x W5 ⟨a, rfl, hM, e5⟩
 have hsz := Hz.mk g1.out.size
 replace g1 := Hz.mk (Bl.trans g1.out e5)
 replace hM := Hz.mk hM
 go_wp2_with fail
 go_ret
 exact ⟨a, _, rfl, hM.out, hsz.out, g1.out⟩
end C
end Go.Proofs.YthmlkcglglcljaaGreatDoor


namespace Go.Proofs.YthmlkcglglcljaaGreatDoor
namespace C
open Go.RowKit
open T (Sep Ob Kp Mf TgIn boxOb Fm Tc Ed Vl Cp Bx tgOb mRow updV flt ofI)

def EdOk (e : Ed) : Prop := e.e ≠ 0 ∧ e.e ≠ 4 ∧ (e.f ≠ 0 ↔ e.e = 7)
theorem ed_flt (f : Int) (hf : f ≠ 0) : EdOk (flt f) := ⟨by show (7 : Int) ≠ 0; decide, by show (7 : Int) ≠ 4; decide, fun _ => rfl, fun _ => hf⟩
theorem upd_ne {r : Nat → Vl} {i k : Nat} {v : Vl} (h : k ≠ i) : updV r i v k = r k := by unfold updV; rw [if_neg h]
section
variable {P : PImg} {s s' : Ms} {e : Ed}
theorem ed_two {op : Int} {v u : Vl} (h : twoR op v u = .error e) : EdOk e := by
 unfold twoR at h
 split at h
 · injection h with h; subst h; exact ed_flt _ (by first | decide | assumption)
 · split at h
   · injection h with h; subst h; exact ed_flt _ (by first | decide | assumption)
   · cases h
theorem ed_rec {op m : Int} {B C : Nat} (h : recM s op B C m = .error e) : EdOk e := by
 unfold recM at h
 split at h
 · cases h
 split at h
 · cases h
 split at h
 · split at h
   · injection h with h; subst h; exact ed_flt _ (by first | decide | assumption)
   · cases h
 · exact ed_two h
theorem lay_err {q : Except Ed Vl} {A : Nat} (h : layM s A q = .error e) : q = .error e := by
 cases q with
 | error x => injection h with h; subst h; rfl
 | ok v => cases h
theorem ed_made {op m : Int} {v u : Vl} (h : madeR op m v u = .error e) : EdOk e := by
 unfold madeR at h
 repeat' split at h
 all_goals first
   | (injection h with h; subst h; exact ed_flt _ (by first | decide | assumption))
   | cases h
theorem ed_der {op m : Int} {v u : Vl} (h : derR op m v u = .error e) : EdOk e := by
 unfold derR at h
 cases hq : madeR op m v u with
 | error x => rw [hq] at h; injection h with h; subst h; exact ed_made hq
 | ok r =>
   rw [hq] at h
   simp only at h
   split at h
   · cases h
   · injection h with h; subst h; exact ed_flt _ (by first | decide | assumption)
theorem ed_ask {op : Int} {v u : Vl} (h : askR op v u = .error e) : EdOk e := by
 unfold askR at h
 split at h
 · cases h
 split at h
 · cases h
 split at h
 · cases h
 · injection h with h; subst h; exact ed_flt _ (by first | decide | assumption)
theorem ed_plc {m sz p : Int} {v : Vl} (h : plcR m sz p v = .error e) : EdOk e := by
 unfold plcR at h
 split at h
 · split at h
   · cases h
   · injection h with h; subst h; exact ed_flt _ (by first | decide | assumption)
 · injection h with h; subst h; exact ed_flt _ (by first | decide | assumption)
theorem ed_gran {m p : Int} {v : Vl} (h : granR m p v = .error e) : EdOk e := by
 unfold granR at h
 cases hq : plcR m 16 p v with
 | error x => rw [hq] at h; injection h with h; subst h; exact ed_plc hq
 | ok n =>
   rw [hq] at h
   simp only at h
   split at h
   · cases h
   · injection h with h; subst h; exact ed_flt _ (by first | decide | assumption)
theorem ed_load {A B sz : Nat} {m : Int} (h : loadM s A B m sz = .error e) : EdOk e := by
 unfold loadM at h
 split at h
 · rename_i x hq; injection h with h; subst h; exact ed_plc hq
 · split at h
   · cases h
   · injection h with h; subst h; exact ed_flt _ (by first | decide | assumption)
theorem ed_store {A B sz : Nat} {m : Int} (h : storeM s A B m sz = .error e) : EdOk e := by
 unfold storeM at h
 split at h
 · injection h with h; subst h; exact ed_flt _ (by first | decide | assumption)
 · split at h
   · rename_i x hq; injection h with h; subst h; exact ed_plc hq
   · split at h
     · cases h
     · injection h with h; subst h; exact ed_flt _ (by first | decide | assumption)
theorem ed_touch {op m : Int} {A B : Nat} (h : touM s op A B m = .error e) : EdOk e := by
 unfold touM at h
 split at h
 · exact ed_load h
 split at h
 · exact ed_load h
 split at h
 · exact ed_store h
 split at h
 · exact ed_store h
 split at h
 · unfold ldcM at h
   split at h
   · rename_i x hq; injection h with h; subst h; exact ed_gran hq
   · split at h
     · cases h
     · injection h with h; subst h; exact ed_flt _ (by first | decide | assumption)
 · unfold stcM at h
   split at h
   · rename_i x hq; injection h with h; subst h; exact ed_gran hq
   · split at h
     · cases h
     · injection h with h; subst h; exact ed_flt _ (by first | decide | assumption)
theorem ed_hol {op m : Int} {v : Vl} (h : holR op m v = .error e) : EdOk e := by
 unfold holR at h
 split at h
 · split at h
   · injection h with h; subst h; exact ed_flt _ (by first | decide | assumption)
   · cases h
 split at h
 · split at h
   · injection h with h; subst h; exact ed_flt _ (by first | decide | assumption)
   · cases h
 split at h
 · cases h
 split at h
 · split at h
   · cases h
   · split at h
     · cases h
     · cases h
 · injection h with h; subst h; exact ed_flt _ (by first | decide | assumption)
theorem ed_tgt {k : Nat} {v : Vl} (h : tgtR P k v = .error e) : EdOk e := by
 unfold tgtR at h
 split at h
 · split at h
   · split at h
     · cases h
     · injection h with h; subst h; exact ed_flt _ (by first | decide | assumption)
   · injection h with h; subst h; exact ed_flt _ (by first | decide | assumption)
 · injection h with h; subst h; exact ed_flt _ (by first | decide | assumption)
theorem ed_lit {a b : Int} (h : a ≠ 0 ∧ a ≠ 4 ∧ a ≠ 7) : EdOk ⟨a, b, 0⟩ := ⟨h.1, h.2.1, fun q => absurd rfl q, fun q => absurd q h.2.2⟩
theorem step_end (h : stepM P s = .error e) : EdOk e := by
 unfold stepM at h
 split at h
 · injection h with h; subst h; exact ed_flt _ (by first | decide | assumption)
 · rename_i i _
   unfold insM at h
   split at h
   · exact ed_rec (lay_err h)
   split at h
   · unfold strM at h
     split at h
     · cases h
     split at h
     · unfold braM at h
       split at h
       · injection h with h; subst h; exact ed_flt _ (by first | decide | assumption)
       · split at h
         · injection h with h; subst h; exact ed_flt _ (by first | decide | assumption)
         · cases h
     split at h
     · cases h
     split at h
     · unfold goR at h
       split at h
       · cases h
       · rename_i x hq; injection h with h; subst h; exact ed_tgt hq
     split at h
     · unfold haltM at h
       split at h
       · injection h with h; subst h; exact ed_flt _ (by first | decide | assumption)
       · injection h with h; subst h; exact ed_lit (by decide)
     split at h
     · injection h with h; subst h; exact ed_lit (by decide)
     split at h
     · unfold inM at h
       split at h
       · injection h with h; subst h; exact ed_lit (by decide)
       · cases h
     split at h
     · unfold outM at h
       split at h
       · injection h with h; subst h; exact ed_flt _ (by first | decide | assumption)
       · cases h
     split at h
     · unfold callM at h
       split at h
       · split at h
         · injection h with h; subst h; exact ed_lit (by decide)
         · cases h
       · injection h with h; subst h; exact ed_flt _ (by first | decide | assumption)
     · unfold retM at h
       split at h
       · split at h
         · injection h with h; subst h; exact ed_lit (by decide)
         · cases h
       · injection h with h; subst h; exact ed_flt _ (by first | decide | assumption)
   split at h
   · have h1 := lay_err h
     unfold capV at h1
     split at h1
     · cases h1
     · rename_i x hq; injection h1 with h1; subst h1; exact ed_der hq
   split at h
   · have h1 := lay_err h
     unfold nmbV at h1
     split at h1
     · cases h1
     · rename_i x hq; injection h1 with h1; subst h1; exact ed_ask hq
   split at h
   · exact ed_touch h
   · unfold grdR at h
     split at h
     · rename_i x hq; injection h with h; subst h; exact ed_hol hq
     · cases h
     · injection h with h; subst h; exact ed_lit (by decide)
structure Alone (s s' : Ms) (A : Nat) : Prop where
 gate : s'.at_.gate = s.at_.gate
 st : s'.st = s.st
 regs : ∀ k, k ≠ A → s'.at_.regs k = s.at_.regs k
theorem al_lay {A : Nat} {v : Vl} : Alone s (s.put A v).next A := ⟨rfl, rfl, fun _ h => upd_ne h⟩
theorem step_alone {i : Ins} (hi : (codeOf P (kOf P s.at_.gate))[s.at_.pc]? = some i) (hc : i.op ≠ 31) (hr : 20 ≤ i.op → i.op ≤ 32 → i.op ≠ 32) (h : stepM P s = .ok s') : Alone s s' i.a.toNat := by
 unfold stepM at h
 rw [hi] at h
 simp only at h
 unfold insM at h
 split at h
 · obtain ⟨v, _, rfl⟩ := lay_ok h; exact al_lay
 split at h
 · unfold strM at h
   split at h
   · injection h with h; subst h; exact ⟨rfl, rfl, fun _ _ => rfl⟩
   split at h
   · unfold braM at h
     split at h
     · cases h
     · split at h
       · cases h
       · injection h with h; subst h; split <;> exact ⟨rfl, rfl, fun _ _ => rfl⟩
   split at h
   · injection h with h; subst h; exact al_lay
   split at h
   · unfold goR at h
     split at h
     · injection h with h; subst h; exact ⟨rfl, rfl, fun _ _ => rfl⟩
     · cases h
   split at h
   · unfold haltM at h
     split at h <;> cases h
   split at h
   · cases h
   split at h
   · unfold inM at h
     split at h
     · cases h
     · injection h with h; subst h; exact ⟨rfl, rfl, fun _ h => upd_ne h⟩
   split at h
   · unfold outM at h
     split at h
     · cases h
     · injection h with h; subst h; exact ⟨rfl, rfl, fun _ _ => rfl⟩
   exfalso
   have := hr (by omega) (by omega)
   omega
 split at h
 · obtain ⟨v, _, rfl⟩ := lay_ok h; exact al_lay
 split at h
 · obtain ⟨v, _, rfl⟩ := lay_ok h; exact al_lay
 split at h
 · have l1 : ∀ sz, loadM s i.a.toNat i.b.toNat i.m sz = .ok s' → Alone s s' i.a.toNat := fun sz h => by
     unfold loadM at h
     split at h
     · cases h
     · split at h
       · injection h with h; subst h; exact ⟨rfl, rfl, fun _ h => upd_ne h⟩
       · cases h
   have l2 : ∀ sz, storeM s i.a.toNat i.b.toNat i.m sz = .ok s' → Alone s s' i.a.toNat := fun sz h => by
     unfold storeM at h
     split at h
     · cases h
     · split at h
       · cases h
       · split at h
         · injection h with h; subst h; exact ⟨rfl, rfl, fun _ _ => rfl⟩
         · cases h
   unfold touM at h
   split at h
   · exact l1 _ h
   split at h
   · exact l1 _ h
   split at h
   · exact l2 _ h
   split at h
   · exact l2 _ h
   split at h
   · unfold ldcM at h
     split at h
     · cases h
     · split at h
       · injection h with h; subst h; exact ⟨rfl, rfl, fun _ h => upd_ne h⟩
       · cases h
   · unfold stcM at h
     split at h
     · cases h
     · split at h
       · injection h with h; subst h; exact ⟨rfl, rfl, fun _ _ => rfl⟩
       · cases h
 · unfold grdR at h
   split at h
   · cases h
   · injection h with h; subst h; exact ⟨rfl, rfl, fun _ _ => rfl⟩
   · cases h
theorem step_err (h : stepM P s = .error e) : e.e ≠ 0 := (step_end h).1
end
end C
end Go.Proofs.YthmlkcglglcljaaGreatDoor


namespace Go.Proofs.YthmlkcglglcljaaGreatDoor
namespace C
open Go.RowKit
open T (Sep Ob Kp Mf TgIn boxOb Fm Tc Ed Vl Cp Bx tgOb mRow updV flt ofI)

section
variable {P : PImg} {s s' : Ms}
theorem step_call {i : Ins} (hi : (codeOf P (kOf P s.at_.gate))[s.at_.pc]? = some i) (h31 : i.op = 31) (h : stepM P s = .ok s') :
   fitN s.at_.regs (argsOf P i.m.toNat) (argsOf P i.m.toNat).length = true ∧ s'.at_ = entF P i.m.toNat s.at_.regs (argsOf P i.m.toNat).length ∧ s'.st = s.st ++ [s.next.at_] := by
 unfold stepM at h
 rw [hi] at h
 simp only at h
 unfold insM at h
 rw [if_neg (by omega), if_pos (by omega)] at h
 unfold strM at h
 rw [if_neg (by omega), if_neg (by omega), if_neg (by omega), if_neg (by omega), if_neg (by omega), if_neg (by omega), if_neg (by omega), if_neg (by omega), if_pos h31] at h
 unfold callM at h
 split at h
 · rename_i hf
   split at h
   · cases h
   · injection h with h
     subst h
     exact ⟨hf, rfl, rfl⟩
 · cases h
theorem step_ret {i : Ins} (hi : (codeOf P (kOf P s.at_.gate))[s.at_.pc]? = some i) (h32 : i.op = 32) (h : stepM P s = .ok s') :
   fitN s.at_.regs (resOf P s.at_.gate) (resOf P s.at_.gate).length = true ∧ ∃ L f, s.st = L ++ [f] ∧ s'.at_ = backF f s.at_.regs (resOf P s.at_.gate).length ∧ s'.st = L := by
 unfold stepM at h
 rw [hi] at h
 simp only at h
 unfold insM at h
 rw [if_neg (by omega), if_pos (by omega)] at h
 unfold strM at h
 rw [if_neg (by omega), if_neg (by omega), if_neg (by omega), if_neg (by omega), if_neg (by omega), if_neg (by omega), if_neg (by omega), if_neg (by omega), if_neg (by omega)] at h
 unfold retM at h
 split at h
 · rename_i hf
   rcases List.eq_nil_or_concat s.st with hz | ⟨L, f, hz⟩
   · rw [hz] at h; cases h
   · rw [List.concat_eq_append] at hz
     rw [hz] at h
     simp only [List.getLast?_append, List.getLast?_singleton, Option.some_or, List.dropLast_concat] at h
     injection h with h
     subst h
     exact ⟨hf, L, f, hz, rfl, rfl⟩
 · cases h
end
theorem fitN_at {r : Nat → Vl} {T : List PTyp} {n : Nat} (h : fitN r T n = true) (k : Nat) (hk : k < n) (hl : k < T.length) : vfit (r (1 + k)) T[k] = true := by
 induction n with
 | zero => omega
 | succ n ih =>
   rw [fitN, Bool.and_eq_true] at h
   by_cases e : k = n
   · subst e
     have := h.2
     rw [List.getElem?_eq_getElem hl] at this
     exact this
   · exact ih h.1 (by omega)
theorem ovF_next (r u : Nat → Vl) (k : Nat) : ovF r u (k + 1) = updV (ovF r u k) (1 + k) (r (1 + k)) := by
 funext j
 unfold ovF updV
 by_cases e : j = 1 + k
 · subst e; rw [if_pos (by omega), if_pos rfl]
 · rw [if_neg e]
   show _ = (if 1 ≤ j ∧ j ≤ k then r j else u j)
   by_cases q : 1 ≤ j ∧ j ≤ k
   · rw [if_pos q, if_pos (by omega)]
   · rw [if_neg q, if_neg (by omega)]
theorem ovF_zero (r u : Nat → Vl) : ovF r u 0 = u := by
 funext j
 unfold ovF
 rw [if_neg (by omega)]
def snF (s : Ms) : Fm := ⟨s.at_.gate, s.at_.pc + 1, s.at_.regs⟩
theorem snf_last {L : List Fm} {f : Fm} {K : List Ms} (h : K.map snF = L ++ [f]) : ∃ K' k, K = K' ++ [k] ∧ K'.map snF = L ∧ snF k = f := by
 rcases List.eq_nil_or_concat K with hz | ⟨K', k, hz⟩
 · subst hz
   have := congrArg List.length h
   simp at this
 · rw [List.concat_eq_append] at hz
   subst hz
   rw [List.map_append] at h
   have h2 := List.append_inj' h rfl
   refine ⟨K', k, rfl, h2.1, ?_⟩
   have := h2.2
   simpa using this
end C
end Go.Proofs.YthmlkcglglcljaaGreatDoor
