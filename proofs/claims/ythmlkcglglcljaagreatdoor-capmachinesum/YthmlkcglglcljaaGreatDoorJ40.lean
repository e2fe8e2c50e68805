import Derived.Test.YthmlkcglglcljaaGreatDoorJ39
namespace Go.Proofs.YthmlkcglglcljaaGreatDoor
set_option maxRecDepth 100000
set_option maxHeartbeats 40000000
namespace C
open Go.RowKit
open T (Sep Ob Kp Mf TgIn boxOb Fm Tc Ed Vl Cp Bx tgOb mRow mRow_idx mRow_tail mRow_at updV flt Vl.row_len Sl Rg rgB rgT RgIn newTagged_any)

theorem ent_lt {m : PImg} {g : Int} (h : isEnt m g = true) : 0 ≤ g ∧ g < m.gates.length := by
 unfold isEnt at h
 split at h
 · assumption
 · cases h
theorem run_box (row : Array Value) (W : World) : (Instr.box 91 (.agg row)).run Tryz.prog W = .ok (.pointer (some ⟨W.heap.size, 0, none⟩)) (W.alloc (.cells row 91)) := rfl
theorem wp_box_mc {o : Oper} {a : Act} {K : Act → World → Prop} {Q : Exit → Act → World → Prop} {w : World} {x : Operand} (ho : o.op = .box 91 x) (row : Array Value) (hx : a.eval x = .agg row) (h : K (a.put o.dst (.pointer (some ⟨w.heap.size, 0, none⟩))) (w.alloc (.cells row 91))) : o.wp Tryz.prog a w K Q := by
 unfold Oper.wp execOp
 simp only [ho, hx, run_box, Sem.run_bind, Sem.run_pure, Result.andThen_ok]
 exact h
theorem new_ok (m : PImg) (g : Nat) (A I : List Nat) (ra ca ga aa ia : Option Addr) (rc cc gc ac ic : Nat) (w : World) (ht : TabIn w) (hm : ImgIn w.heap.size w ra ca ga m) (hr : m.Rng) (hq : m.right = 0) (hent : isEnt m g = true) (hal : A.length = (argsOf m g).length) (hA : NumIn w aa A) (hI : InS w ia I ic) (hil : I.length ≤ 2000000) :
   Calls Tryz.prog 13 #[.agg #[.slice ra m.regs.length rc, .slice ca m.comps.length cc, .slice ga m.gates.length gc, .int .i64 m.depth], .int .i64 g, .slice aa A.length ac, .slice ia I.length ic] w fun x w' => ∃ a, x = .returned (.tuple #[.pointer (some ⟨a, 0, none⟩), .int .i64 0]) ∧ MIn w.heap.size w' a (bare m) (start m g A I) [] ∧ Below w.heap.size w w' := by
 have hRt := Hz.mk (fun X (q : Gr w X) => imgRight_any m ra ca ga rc cc gc X (ht.gr q) ((hm.below q.below).mono q.below.size) hr)
 have hP : POk (bare m) := pok_of m hq hr
 have hEn := Hz.mk (fun X (q : Bl w X) => isEntry_any m g ra ca ga m.regs.length rc m.comps.length cc gc m.depth X ((hm.gates.below q).mono q.size) (fun x hx => by
   obtain ⟨k, hk, rfl⟩ := List.getElem_of_mem hx
   have : m.gates[k].args.length ≤ 7 := (hP.gates k hk).2.2.2.2.1
   omega))
 rw [hent] at hEn
 rw [hq] at hRt
 obtain ⟨_, e2⟩ := ent_lt hent
 have hk : g < m.gates.length := by omega
 rw [argsOf_at m g hk] at hal
 have hA7 : A.length ≤ 7 := by rw [hal]; exact (hP.gates g hk).2.2.2.2.1
 have hCp := Hz.mk (fun X (q : Bl w X) => Copy_any (bare m) none ca ga 0 cc gc X ⟨fun i hi => absurd hi (Nat.not_lt_zero i), (hm.comps.below q).mono q.size, (hm.gates.below q).mono q.size⟩ (fits_of hP))
 have hNT := Hz.mk (fun X (q : Bl w X) => newTagged_any (m.regs.map rgOf) ra rc (.slice ca m.comps.length cc) (.slice ga m.gates.length gc) (.int .i64 m.depth) X (rg_in ((hm.regs.below q).mono q.size) hr.regs.2) (rg_ok hr.regs.2) (by rw [List.length_map]; exact hr.regs.1))
 rw [List.length_map] at hNT
 have hIt := Hz.mk (fun X (q : Bl w X) => integers_any A aa ac X (hA.bl q) (by omega))
 have hCl := Hz.mk (fun X (q : Bl w X) => clone_in I ia ic X (hI.bl q) hil)
 obtain ⟨b, off, xa, xc, ya, yc, rfl, _, hb, c0, c1, c2, c3, hx, _⟩ := hm.gates g hk
 replace c2 : w.cell? ⟨b, off + g * 4 + 2, none⟩ = some (.slice xa m.gates[g].args.length xc) := c2
 have hc2 := Hz.mk (fun X (q : Bl w X) => (q.cell (p := ⟨b, off + g * 4 + 2, none⟩) hb).trans c2)
 have gi : (g : Int) < m.gates.length := by omega
 rw [← hal] at hc2
 have hal2 := Hz.mk hal
 clear hm hr ht hq hent hx c0 c1 c3 c2 hal hA hI
 go_enter Tryz.func13, Tryz.ntmps13
 go_wp2_with fail
 refine (hRt.out _ ((Gr.refl w).alloc _)).mono ?_
 rintro x W1 ⟨rfl, e1⟩
 have g1 := Hz.mk ((Gr.refl w).alloc (.cells #[.slice ra m.regs.length rc, .slice ca m.comps.length cc, .slice (some ⟨b, off, none⟩) m.gates.length gc, .int .i64 m.depth] 26) |>.trans e1).below
 have a1 := Bl.at_ (Bl.gr e1) (At.new w #[.slice ra m.regs.length rc, .slice ca m.comps.length cc, .slice (some ⟨b, off, none⟩) m.gates.length gc, .int .i64 m.depth] 26)
 have ⟨l1, p1, _⟩ := a1
 replace a1 := Hz.mk a1
 clear e1 hRt
 go_wp2_with fail
 refine (hEn.out _ g1.out).mono ?_
 rintro x W2 ⟨rfl, e1⟩
 replace g1 := Hz.mk (Bl.trans g1.out e1)
 replace a1 := Hz.mk (Bl.at_ e1 a1.out)
 clear p1 l1 e1 hEn
 have ⟨l1, p1, _⟩ := a1.out
 have c2 := hc2.out W2 g1.out
 have hb2 : b < W2.heap.size := Nat.lt_of_lt_of_le hb g1.out.size
 go_wp2_with fail
 refine (hCp.out _ g1.out).mono ?_
 rintro x X5 ⟨ra2, rc2, ca2, cc2, ga2, gc2, rfl, hOwn, e1⟩
 have gX5 : Bl w X5 := Bl.trans g1.out e1
 have a5 := Hz.mk (Bl.at_ e1 a1.out)
 have hlo : w.heap.size ≤ W2.heap.size := g1.out.size
 have hOwn := Hz.mk hOwn
 clear p1 l1 c2 a1
 go_upto_region 9 with fail
 refine wp_world (fun X => Bl X5 X ∧ At X X5.heap.size #[.slice ra2 0 rc2, .slice ca2 m.comps.length cc2, .slice ga2 m.gates.length gc2, .int .i64 m.depth]) ?_ ?_
 · exact ⟨(Bl.refl X5).alloc _, At.new X5 _ _⟩
 rintro X ⟨gX, aX⟩
 have a0 := Bl.at_ gX a5.out
 have gwX : Bl w X := gX5.trans gX
 have hBX : w.heap.size ≤ X.heap.size := gwX.size
 have hg9 := Hz.mk gwX
 have KT : Hz (∀ Y, Bl X Y → (Y.cell? ⟨X5.heap.size, 0, none⟩ = some (.slice ra2 0 rc2) ∧ Y.cell? ⟨X5.heap.size, 1, none⟩ = some (.slice ca2 m.comps.length cc2) ∧ Y.cell? ⟨X5.heap.size, 2, none⟩ = some (.slice ga2 m.gates.length gc2) ∧ Y.cell? ⟨X5.heap.size, 3, none⟩ = some (.int .i64 m.depth)) ∧ Y.cell? ⟨w.heap.size, 0, none⟩ = some (.slice ra m.regs.length rc) ∧ Y.cell? ⟨w.heap.size, 1, none⟩ = some (.slice ca m.comps.length cc) ∧ Y.cell? ⟨w.heap.size, 2, none⟩ = some (.slice (some ⟨b, off, none⟩) m.gates.length gc) ∧ Y.cell? ⟨w.heap.size, 3, none⟩ = some (.int .i64 m.depth)) := Hz.mk (fun Y q => ⟨⟨(Bl.at_ q aX).2.1 0, (Bl.at_ q aX).2.1 1, (Bl.at_ q aX).2.1 2, (Bl.at_ q aX).2.1 3⟩, (Bl.at_ q a0).2.1 0, (Bl.at_ q a0).2.1 1, (Bl.at_ q a0).2.1 2, (Bl.at_ q a0).2.1 3⟩)
 have hSep : Hz (Sep w.heap.size X [ouOb w.heap.size (.slice none 0 0) [], tcOb w.heap.size (.slice none 0 0) [], snapOb W2.heap.size X5]) := Hz.mk (sep_void (sep_void (sep_low ((snap_sep W2.heap.size X5).gr gX) hlo) _ _ hBX) _ _ hBX)
 obtain ⟨hk1, hk2, hk3, hk4⟩ := hP.kl g hk
 have hImg : Hz (∀ Y, Bl X5 Y → ImgIn Y.heap.size Y ra2 ca2 ga2 (bare m)) := Hz.mk (fun Y q => (img_snap hOwn.out (fun k _ hk => q.block k hk)).into)
 have hEt := Hz.mk (fun Y (q : Bl X Y) va (hs : SrcV Y va (intsF A) A.length) => entered_any (bare m) (.slice ra2 0 rc2) (.int .i64 m.depth) g (eOf (bare m) g) (kOf (bare m) g) A.length (intsF A) ca2 ga2 cc2 gc2 va A.length Y hk (hImg.out Y (gX.trans q)).gates (hImg.out Y (gX.trans q)).comps hk3 hk2 hk1 (fun x hx => by
   have := (hP.roots (kOf (bare m) g)).2 x (by rw [rootsOf_at _ _ hk1]; exact hx)
   omega) (by
   have := (hP.roots (kOf (bare m) g)).1
   rw [rootsOf_at _ _ hk1] at this
   omega) hs (by omega))
 rw [← rootsOf_at (bare m) _ hk1] at hEt
 have hEe : rootsJ ⟨g, eOf (bare m) g, ovF (intsF A) (fun _ => zV) A.length⟩ (rootsOf (bare m) (kOf (bare m) g)) (rootsOf (bare m) (kOf (bare m) g)).length = entF (bare m) g (intsF A) A.length := rfl
 rw [hEe] at hEt
 clear hEe
 replace hNT := Hz.mk (fun Y (q : Bl X Y) => hNT.out Y (gwX.trans q))
 replace hIt := Hz.mk (fun Y (q : Bl X Y) => hIt.out Y (gwX.trans q))
 replace hCl := Hz.mk (fun Y (q : Bl X Y) => hCl.out Y (gwX.trans q))
 have hfin : Hz (∀ (U4 : World) SM km i0 i2, Bl X U4 → Sep w.heap.size U4 (inOb (.slice i0 I.length i2) (I.map fun x : Nat => (x : Int)) :: tgOb SM km (rgB (m.regs.map rgOf) m.regs.length) (rgT (m.regs.map rgOf) m.regs.length) :: [ouOb w.heap.size (.slice none 0 0) [], tcOb w.heap.size (.slice none 0 0) [], snapOb W2.heap.size X5]) → MIn w.heap.size (U4.alloc (.cells (zrow (.slice ra2 0 rc2) (.slice ca2 m.comps.length cc2) (.slice ga2 m.gates.length gc2) m.depth km (entF (bare m) g (intsF A) A.length) (.slice i0 I.length i2)).toArray 91)) U4.heap.size (bare m) (start m g A I) []) := Hz.mk (fun U4 SM km i0 i2 q hS => by
   have hB4 : w.heap.size ≤ U4.heap.size := Nat.le_trans hBX q.size
   have h1 := sep_void hS 86 114 hB4
   have hat := At.new U4 (zrow (.slice ra2 0 rc2) (.slice ca2 m.comps.length cc2) (.slice ga2 m.gates.length gc2) m.depth km (entF (bare m) g (intsF A) A.length) (.slice i0 I.length i2)).toArray 91
   have h2 := h1.add (bx_ U4.heap.size (zrow (.slice ra2 0 rc2) (.slice ca2 m.comps.length cc2) (.slice ga2 m.gates.length gc2) m.depth km (entF (bare m) g (intsF A) A.length) (.slice i0 I.length i2))) ⟨hat.1, fun o v e => (hat.2.1 o).trans (by simpa using e), hat.2.2⟩ (fun k e => by have : k = U4.heap.size := e; omega) ((Below.refl _ U4).alloc (Nat.le_refl _) _) hB4
   refine ⟨⟨⟨ra2, rc2, ca2, cc2, ga2, gc2, km, .slice none 0 0, .slice i0 I.length i2, .slice none 0 0, .slice none 0 0, SM, W2.heap.size, X5⟩, ?_, hOwn.out⟩, by rw [World.size_alloc]; omega⟩
   have h3 := sep_perm h2 (List.Perm.cons _ (List.perm_middle (a := tgOb SM km (rgB (m.regs.map rgOf) m.regs.length) (rgT (m.regs.map rgOf) m.regs.length)) (l₁ := [rowOb w.heap.size 86 114 (.slice none 0 0) 0 [], inOb (.slice i0 I.length i2) (I.map fun x : Nat => (x : Int))])))
   rw [List.append_nil]
   exact h3)
 generalize hfE : entF (bare m) g (intsF A) A.length = fE at hEt hfin
 replace hfE := Hz.mk hfE
 replace hP := Hz.mk hP
 clear hCp hImg aX a0 gX gX5 gwX a5 hk1 hk2 hk3 hk4 hOwn hlo g1
 generalize X5.heap.size = kp at *
 generalize hk0 : w.heap.size = k0 at *
 replace hk0 := Hz.mk hk0
 have f0 : Bl X X.drew := (Bl.refl X).drew
 refine wp_region_held_drew (S := (fun X => (X.cell? ⟨kp, 0, none⟩ = some (.slice ra2 0 rc2) ∧ X.cell? ⟨kp, 1, none⟩ = some (.slice ca2 m.comps.length cc2) ∧ X.cell? ⟨kp, 2, none⟩ = some (.slice ga2 m.gates.length gc2) ∧ X.cell? ⟨kp, 3, none⟩ = some (.int .i64 m.depth)) ∧ X.cell? ⟨k0, 0, none⟩ = some (.slice ra m.regs.length rc) ∧ X.cell? ⟨k0, 1, none⟩ = some (.slice ca m.comps.length cc) ∧ X.cell? ⟨k0, 2, none⟩ = some (.slice (some ⟨b, off, none⟩) m.gates.length gc) ∧ X.cell? ⟨k0, 3, none⟩ = some (.int .i64 m.depth))) (by kernel_rfl) (KT.out _ f0) (fun hHeld => ?_)
 refine xso 0 ?_ rfl ?_ (xso 1 ?_ rfl ?_ (xso 3 ?_ rfl ?_ (xso 4 ?_ rfl ?_ (xso 5 ?_ rfl ?_ (xso 8 ?_ rfl ?_ ?_)))))
 iterate 6 (rotate_left; focus ((try simp only [xap]); intro w hSw; (try dsimp only at hSw); go_simp; first | done | with_reducible rfl))
 try simp only [xap]
 refine xrd 2 rfl (fun K hK => ?_)
 go_simp
 refine (hNT.out _ f0).mono ?_
 rintro r U1 ⟨SM, rfl, hTg, hSM, e1⟩
 have f1 := Bl.trans f0 e1
 have hSep1 := Hz.mk ((hSep.out.gr f0).add (tgOb SM _ _ _) hTg (fun k q => Nat.le_of_lt (hSM k q)) e1 (Nat.le_trans hBX f0.size))
 replace hTg := Hz.mk hTg
 replace hSM := Hz.mk hSM
 clear hHeld e1
 refine hK.out _ _ (KT.out _ f1) (fun hHeld => ?_)
 clear hK K
 try simp only [xap]
 refine xrd 6 rfl (fun K hK => ?_)
 go_simp
 refine (hIt.out _ f1).mono ?_
 rintro r U2 ⟨va, rfl, hsrc, e1⟩
 have f2 := Bl.trans f1 e1
 replace hSep1 := Hz.mk (hSep1.out.gr e1)
 replace hsrc := Hz.mk hsrc
 clear hHeld e1
 refine hK.out _ _ (KT.out _ f2) (fun hHeld => ?_)
 clear hK K
 try simp only [xap]
 refine xrd 7 rfl (fun K hK => ?_)
 go_simp
 refine (hEt.out _ f2 va hsrc.out).mono ?_
 rintro r U3 ⟨rfl, e1⟩
 have f3 := Bl.trans f2 e1
 replace hSep1 := Hz.mk (hSep1.out.gr e1)
 clear hHeld e1
 refine hK.out _ _ (KT.out _ f3) (fun hHeld => ?_)
 clear hK K
 try simp only [xap]
 refine xrd 9 rfl (fun K hK => ?_)
 go_simp
 refine (hCl.out _ f3).mono ?_
 rintro r U4 ⟨i0, i2, rfl, hIv, hIn, e1⟩
 have f4 := Bl.trans f3 e1
 have hSep2 := Hz.mk (hSep1.out.add (inOb _ _) hIv hIn e1 (Nat.le_trans hBX f3.size))
 clear hHeld e1 hIv hIn
 refine hK.out _ _ (KT.out _ f4) (fun hHeld => ?_)
 clear hK K
 try simp only [xap]
 refine xtk 10 rfl (yields_mc (by rfl) _ _ _ _ rfl _ _ _ _ _ _ _ _ _ _ _ _ _ _ fE (by rfl) (by rfl) (by rfl) (by rfl)) ?_
 try simp only [xap]
 refine xrd 11 rfl (fun K hK => ?_)
 rw [if_pos (by rfl)]
 refine wp_box_mc rfl _ rfl ?_
 clear hHeld
 refine hK.out _ _ (KT.out _ (f4.alloc _)) (fun hHeld => ?_)
 clear hK K
 try simp only [xap]
 refine xso 12 ?_ rfl ?_ (xso 13 ?_ rfl ?_ ?_)
 iterate 2 (rotate_left; focus ((try simp only [xap]); intro w hSw; (try dsimp only at hSw); go_simp; first | done | with_reducible rfl))
 try simp only [xap]
 refine xdn ?_ _
 clear hHeld
 go_wp2_with fail
 refine bodyPost_ret (v := .tuple #[.pointer (some ⟨U4.heap.size, 0, none⟩), .int .i64 0]) (by simp [results, Tryz.results13, go_sem]) rfl ⟨U4.heap.size, rfl, ?_, ?_⟩
 · have hz := hfin.out U4 _ _ _ _ f4 hSep2.out
   rw [← hk0.out] at hz
   exact hz
 · exact Below.mono ((hg9.out.trans f4).alloc _) (Nat.le_refl _)
end C
end Go.Proofs.YthmlkcglglcljaaGreatDoor


namespace Go.Proofs.YthmlkcglglcljaaGreatDoor
set_option maxRecDepth 100000
set_option maxHeartbeats 40000000
namespace C
open Go.RowKit
open T (Sep Ob Kp Mf TgIn boxOb Fm Tc Ed Vl Cp Bx tgOb mRow mRow_idx mRow_tail mRow_at updV flt Vl.row_len regRow regRow_at regRow_len)

def tl (s : Ms) : List Value := [.int .i64 s.over.e, .int .u64 s.over.v, .int .i64 s.over.f, .int .i64 s.at_.gate, .int .i64 s.at_.pc]
theorem tl_one (s : Ms) : (tl s).toArray.all (fun x => x.oneCell') = true := by simp [tl, Value.oneCell']
theorem stands_any (B : Nat) (a : Nat) (P : PImg) (s : Ms) (l : List Ob) (w : World) (h : MIn B w a P s l) :
   Calls Tryz.prog 25 #[.pointer (some ⟨a, 0, none⟩)] w fun x w' => x = .returned (.agg (tl s).toArray) ∧ Bl w w' := by
 have hlt := h.alt
 have gV : Bl w (w.alloc (.cells #[.int .i64 0, .int .u64 0, .int .i64 0, .int .i64 0, .int .i64 0] 45)) := (Bl.refl w).alloc _
 have KS : Hz (∀ X, Bl w X → X.cell? ⟨a, 123, none⟩ = some (.int .i64 s.over.e) ∧ X.cell? ⟨a, 124, none⟩ = some (.int .u64 s.over.v) ∧ X.cell? ⟨a, 125, none⟩ = some (.int .i64 s.over.f) ∧ X.cell? ⟨a, 5, none⟩ = some (.int .i64 s.at_.gate) ∧ X.cell? ⟨a, 6, none⟩ = some (.int .i64 s.at_.pc)) := Hz.mk (fun X q => by
   obtain ⟨k1, k2, k3, k4, k5, _⟩ := (h.gr q).cell
   exact ⟨k3, k4, k5, k1, k2⟩)
 have hR0 : At (w.alloc (.cells #[.int .i64 0, .int .u64 0, .int .i64 0, .int .i64 0, .int .i64 0] 45)) w.heap.size (List.toArray [Value.int .i64 0, .int .u64 0, .int .i64 0, .int .i64 0, .int .i64 0]) := At.new w _ _
 replace h := Hz.mk h
 go_enter Tryz.func25, Tryz.ntmps25
 go_upto_region 1 with fail
 generalize w.alloc (.cells #[.int .i64 0, .int .u64 0, .int .i64 0, .int .i64 0, .int .i64 0] 45) = V at *
 have gD : Bl w V.drew := gV.drew
 have hR1 : At V.drew w.heap.size (List.toArray [Value.int .i64 0, .int .u64 0, .int .i64 0, .int .i64 0, .int .i64 0]) := hR0.drew
 have hth := Hz.mk (At.there hR1 0 5 (by decide))
 have hA8 := Hz.mk (At.setAll hR1 (tl s) rfl)
 have g9 := gD.sets w.heap.size (Nat.le_refl _) (tl s) 0
 have gD2 := g9
 replace hR1 := Hz.mk hR1
 replace hR0 := Hz.mk hR0
 refine wp_region_held_drew (S := (fun X => X.cell? ⟨a, 123, none⟩ = some (.int .i64 s.over.e) ∧ X.cell? ⟨a, 124, none⟩ = some (.int .u64 s.over.v) ∧ X.cell? ⟨a, 125, none⟩ = some (.int .i64 s.over.f) ∧ X.cell? ⟨a, 5, none⟩ = some (.int .i64 s.at_.gate) ∧ X.cell? ⟨a, 6, none⟩ = some (.int .i64 s.at_.pc))) (by kernel_rfl) (KS.out _ gD) (fun hHeld => ?_)
 refine xso 0 ?_ rfl ?_ (xso 1 ?_ rfl ?_ (xso 2 ?_ rfl ?_ (xso 3 ?_ rfl ?_ (xso 4 ?_ rfl ?_ (xso 5 ?_ rfl ?_ (xso 6 ?_ rfl ?_ (xso 7 ?_ rfl ?_ (xso 8 ?_ rfl ?_ (xso 9 ?_ rfl ?_ (xso 10 ?_ rfl ?_ (xso 11 ?_ rfl ?_ (xso 12 ?_ rfl ?_ (xso 13 ?_ rfl ?_ (xso 14 ?_ rfl ?_ (xso 15 ?_ rfl ?_ (xso 16 ?_ rfl ?_ (xso 17 ?_ rfl ?_ (xso 18 ?_ rfl ?_ (xso 19 ?_ rfl ?_ (xso 20 ?_ rfl ?_ (xso 21 ?_ rfl ?_ (xso 22 ?_ rfl ?_ (xso 23 ?_ rfl ?_ (xso 24 ?_ rfl ?_ (xso 25 ?_ rfl ?_ ?_)))))))))))))))))))))))))
 iterate 26 (rotate_left; focus ((try simp only [xap]); intro w hSw; (try dsimp only at hSw); go_simp; first | done | with_reducible rfl))
 try simp only [xap]
 refine xrd 26 rfl (fun K hK => ?_)
 rw [if_pos (by rfl)]
 refine wp_store_mid _ _ _ rfl _ _ (List.toArray (tl s)) rfl rfl (show World.there _ _ _ _ from hth.out) (by kernel_rfl) (tl_one s) ?_
 clear hHeld
 refine hK.out _ _ (KS.out _ gD2) (fun hHeld => ?_)
 clear hK K
 try simp only [Act.put]
 refine xdn ?_ _
 clear hHeld
 generalize World.setCells _ _ _ _ = Y9 at *
 have hrun := run_loadVar_mid (P := Tryz.prog) Y9 w.heap.size 0 45 (tl s) _ hA8.out.range Tryz.underlying45 rfl (by kernel_rfl)
 replace g9 := Hz.mk g9
 go_wp2_with fail
 refine bodyPost_ret (v := .agg (tl s).toArray) ?_ rfl ⟨rfl, g9.out⟩
 exact results_cellE Tryz.results25 _ _ rfl hrun
theorem steps_all (B : Nat) (W0 : World) (a : Nat) (P : PImg) (s : Ms) (l : List Ob) (n k : Nat) (most : Int) (hmk : most.toNat = k) (hP : POk P) (h : MIn B W0 a P s l) (ok : Okm P n s) (hn : n + k ≤ 1000000) :
   Calls Tryz.prog 24 #[.pointer (some ⟨a, 0, none⟩), .int .i64 most] W0 fun x w' => x = .returned (.tuple #[]) ∧ MIn B w' a P (stepsM P k s) l ∧ Below B W0 w' := by
 by_cases h0 : s.over.e = 0
 · exact steps_any B W0 a P s l n k most hmk hP h ok hn h0
 · rw [stepsM_end h0 k]
   exact steps_over B W0 a P s l most h h0
def spent (s : Ms) : Ms := if s.over.e = 0 then s.ended ⟨4, 0, 0⟩ else s
def runM (P : PImg) (fuel : Int) (s : Ms) : Ms := spent (stepsM P (min fuel 100000).toNat s)
theorem run_any (B : Nat) (W0 : World) (a : Nat) (P : PImg) (s : Ms) (l : List Ob) (n : Nat) (fuel : Int) (hP : POk P) (h : MIn B W0 a P s l) (ok : Okm P n s) (hn : n + (min fuel 100000).toNat ≤ 1000000) :
   Calls Tryz.prog 14 #[.pointer (some ⟨a, 0, none⟩), .int .i64 fuel] W0 fun x w' => x = .returned (.agg (tl (runM P fuel s)).toArray) ∧ MIn B w' a P (runM P fuel s) l ∧ Below B W0 w' := by
 have hS := Hz.mk (fun X l' (q : MIn B X a P s l') => steps_all B X a P s l' n (min fuel 100000).toNat (min fuel 100000) rfl hP q ok hn)
 unfold runM
 generalize stepsM P (min fuel 100000).toNat s = s1 at *
 generalize hmn : min fuel 100000 = mn at *
 unfold spent
 by_cases h0 : s1.over.e = 0
 · rw [if_pos h0]
   generalize hs2 : s1.ended ⟨4, 0, 0⟩ = s2
   have hSt := Hz.mk (fun X l' (q : MIn B X a P s2 l') => stands_any B a P s2 l' X q)
   replace h0 := Hz.mk h0
   replace hs2 := Hz.mk hs2
   have h2 := Hz.mk (h.new #[.int .i64 0, .int .u64 0, .int .i64 0, .int .i64 0, .int .i64 0] 45)
   clear h
   go_enter Tryz.func14, Tryz.ntmps14
   go_upto_region 1 with fail
   refine wp_world (fun W => MIn B W a P s (boxOb W0.heap.size #[.int .i64 0, .int .u64 0, .int .i64 0, .int .i64 0, .int .i64 0] :: l) ∧ Below B W0 W) h2.out ?_
   clear h2
   rintro W ⟨h, hB⟩
   generalize W0.heap.size = kr at *
   replace h := Hz.mk h
   replace hB := Hz.mk hB
   go_wp2_with fail
   refine (hS.out _ _ h.out).mono ?_
   rintro r X1 ⟨rfl, h1, hB1⟩
   replace hB := Hz.mk (hB.out.trans hB1)
   obtain ⟨_, _, c3, c4, c5, fr⟩ := h1.cell
   rw [h0.out] at c3
   have hlt := h1.alt
   have hov := h1.setOver ⟨4, 0, 0⟩
   rw [hs2.out] at hov
   replace hov := Hz.mk hov
   clear h1 hB1 hS h
   go_upto_region 6 with fail
   replace hB := Hz.mk (hB.out.trans hov.out.2)
   have h := Hz.mk hov.out.1
   clear hov c3 c4 c5 fr hlt
   generalize World.setCell (World.setCell (World.setCell _ _ _) _ _) _ _ = X3 at *
   refine wp_region_lit ?_
   refine wpList_plain rfl (fun K hK => ?_)
   go_simp
   with_reducible refine hK _ _ ?_
   clear hK K
   try simp only [xap]
   refine wpList_plain rfl (fun K hK => ?_)
   go_simp
   refine (hSt.out _ _ h.out).mono ?_
   rintro r X2 ⟨rfl, e1⟩
   replace hB := Hz.mk (hB.out.trans (h.out.bl e1).2)
   replace h := Hz.mk (h.out.bl e1).1
   clear e1
   with_reducible refine hK _ _ ?_
   clear hK K
   try simp only [xap]
   have hA := h.out.there (boxOb kr #[.int .i64 0, .int .u64 0, .int .i64 0, .int .i64 0, .int .i64 0]) (.head _)
   replace hA : At X2 kr (List.toArray [Value.int .i64 0, .int .u64 0, .int .i64 0, .int .i64 0, .int .i64 0]) := hA
   have hth := Hz.mk (At.there hA 0 5 (by decide))
   have hA8 := Hz.mk (At.setAll hA (tl s2) rfl)
   have hsd := h.out.side (o := boxOb kr #[.int .i64 0, .int .u64 0, .int .i64 0, .int .i64 0, .int .i64 0]) (o' := boxOb kr (tl s2).toArray) (W' := X2.setCells kr 0 (tl s2)) hA8.out (T.kp_setCells (fun k => k = kr) kr rfl _ _ X2) (fun k q => .inl q)
   replace hA := Hz.mk hA
   replace hsd := Hz.mk hsd
   refine wpList_store_mid rfl _ _ _ rfl _ _ (List.toArray (tl s2)) rfl rfl (show World.there _ _ _ _ from hth.out) (by kernel_rfl) (tl_one _) ?_
   try simp only [Act.put]
   generalize World.setCells _ _ _ _ = Y9 at *
   have hrun := run_loadVar_mid (P := Tryz.prog) Y9 kr 0 45 (tl s2) _ hA8.out.range Tryz.underlying45 rfl (by kernel_rfl)
   go_wp2_with fail
   refine bodyPost_ret (v := .agg (tl s2).toArray) ?_ rfl ⟨rfl, hsd.out.1.drop, hB.out.trans hsd.out.2⟩
   exact results_cellE Tryz.results14 _ _ rfl hrun
 · rw [if_neg h0]
   have hSt := Hz.mk (fun X l' (q : MIn B X a P s1 l') => stands_any B a P s1 l' X q)
   have h0' : (s1.over.e == 0) = false := by simpa using h0
   have h2 := Hz.mk (h.new #[.int .i64 0, .int .u64 0, .int .i64 0, .int .i64 0, .int .i64 0] 45)
   clear h
   go_enter Tryz.func14, Tryz.ntmps14
   go_upto_region 1 with fail
   refine wp_world (fun W => MIn B W a P s (boxOb W0.heap.size #[.int .i64 0, .int .u64 0, .int .i64 0, .int .i64 0, .int .i64 0] :: l) ∧ Below B W0 W) h2.out ?_
   clear h2
   rintro W ⟨h, hB⟩
   generalize W0.heap.size = kr at *
   replace h := Hz.mk h
   replace hB := Hz.mk hB
   go_wp2_with fail
   refine (hS.out _ _ h.out).mono ?_
   rintro r X1 ⟨rfl, h1, hB1⟩
   replace hB := Hz.mk (hB.out.trans hB1)
   have c3 := h1.cell.2.2.1
   have hlt := h1.alt
   replace h := Hz.mk h1
   clear h1 hB1 hS
   generalize s1.over.e = e9 at h0' c3 h0
   go_upto_region 6 with fail
   clear c3 h0' h0 hlt
   refine wp_region_lit ?_
   refine wpList_plain rfl (fun K hK => ?_)
   go_simp
   with_reducible refine hK _ _ ?_
   clear hK K
   try simp only [xap]
   refine wpList_plain rfl (fun K hK => ?_)
   go_simp
   refine (hSt.out _ _ h.out).mono ?_
   rintro r X2 ⟨rfl, e1⟩
   replace hB := Hz.mk (hB.out.trans (h.out.bl e1).2)
   replace h := Hz.mk (h.out.bl e1).1
   clear e1
   with_reducible refine hK _ _ ?_
   clear hK K
   try simp only [xap]
   have hA := h.out.there (boxOb kr #[.int .i64 0, .int .u64 0, .int .i64 0, .int .i64 0, .int .i64 0]) (.head _)
   replace hA : At X2 kr (List.toArray [Value.int .i64 0, .int .u64 0, .int .i64 0, .int .i64 0, .int .i64 0]) := hA
   have hth := Hz.mk (At.there hA 0 5 (by decide))
   have hA8 := Hz.mk (At.setAll hA (tl s1) rfl)
   have hsd := h.out.side (o := boxOb kr #[.int .i64 0, .int .u64 0, .int .i64 0, .int .i64 0, .int .i64 0]) (o' := boxOb kr (tl s1).toArray) (W' := X2.setCells kr 0 (tl s1)) hA8.out (T.kp_setCells (fun k => k = kr) kr rfl _ _ X2) (fun k q => .inl q)
   replace hA := Hz.mk hA
   replace hsd := Hz.mk hsd
   refine wpList_store_mid rfl _ _ _ rfl _ _ (List.toArray (tl s1)) rfl rfl (show World.there _ _ _ _ from hth.out) (by kernel_rfl) (tl_one _) ?_
   try simp only [Act.put]
   generalize World.setCells _ _ _ _ = Y9 at *
   have hrun := run_loadVar_mid (P := Tryz.prog) Y9 kr 0 45 (tl s1) _ hA8.out.range Tryz.underlying45 rfl (by kernel_rfl)
   go_wp2_with fail
   refine bodyPost_ret (v := .agg (tl s1).toArray) ?_ rfl ⟨rfl, hsd.out.1.drop, hB.out.trans hsd.out.2⟩
   exact results_cellE Tryz.results14 _ _ rfl hrun
end C
end Go.Proofs.YthmlkcglglcljaaGreatDoor


namespace Go.Proofs.YthmlkcglglcljaaGreatDoor
set_option maxRecDepth 100000
set_option maxHeartbeats 40000000
namespace C
open Go.RowKit
open T (Sep Ob Kp Mf TgIn boxOb Fm Tc Ed Vl Cp Bx tgOb mRow mRow_idx mRow_tail mRow_at updV flt Vl.row_len regRow regRow_at regRow_len)

theorem tou_any (B : Nat) (a : Nat) (P : PImg) (s : Ms) (l : List Ob) (w : World) (h : MIn B w a P s l) (hl : s.tou.length ≤ 1000000) :
   Calls Tryz.prog 15 #[.pointer (some ⟨a, 0, none⟩)] w fun x w' => ∃ v, x = .returned v ∧ w'.ownsRow w.heap.size 78 3 v s.tou.length (s.tou.flatMap Tc.row) ∧ Bl w w' := by
 obtain ⟨⟨q, h1, _⟩, le⟩ := h
 have hb : Bx w a (rowOf P s q) := h1.ins (bx_ a (rowOf P s q)) (by simp [obs])
 have hO : w.ownsRow B 78 3 q.tv s.tou.length (s.tou.flatMap Tc.row) := h1.ins (tcOb B q.tv s.tou) (by simp [obs])
 have hc := hb.at_ 122 _ (mRow_at 3)
 replace hc : w.cell? ⟨a, 122, none⟩ = some q.tv := hc
 have hlt := hb.lt
 have hol := hO.lt
 have hlen := hO.1
 rcases hO.2 with ⟨e1, e2⟩ | ⟨g, cap, cur, e1, hbb, hg, hc1, hc2, hc3, hc4⟩
 · rw [e1] at hc
   have e3 : s.tou.flatMap Tc.row = [] := List.length_eq_zero_iff.1 (by rw [hlen, e2])
   rw [e2, e3]
   have hC := Hz.mk clnil_tcs
   clear h1 hb hO hol hlen
   go_enter Tryz.func15, Tryz.ntmps15
   go_wp2_with fail
   refine (hC.out _).mono ?_
   rintro r X1 ⟨rfl, rfl⟩
   go_wp2_with fail
   go_ret
   exact ⟨_, rfl, World.ownsRow_nil _ _ _ _, Bl.refl _⟩
 · have hgl : g < w.heap.size := (hol g (by rw [e1]; rfl)).2
   rw [e1] at hc
   have hC := Hz.mk (clone_tcs g 0 s.tou.length cap (s.tou.flatMap Tc.row) w hgl hlen (fun j u e => by
     have hj := (List.getElem?_eq_some_iff.1 e).1
     rw [hlen] at hj
     have e9 : w.cell? ⟨g, 0 + j, none⟩ = cur[j]? := by simp [World.cell?, hg]
     rw [e9, ← e, ← hc4, List.getElem?_take_of_lt (by omega)]
     simp) (fun u hu => by
       obtain ⟨x, _, hx⟩ := List.mem_flatMap.1 hu
       simp [Tc.row] at hx
       rcases hx with rfl | rfl | rfl <;> rfl) (by omega))
   generalize s.tou.flatMap Tc.row = xs at *
   generalize s.tou.length = nn at *
   clear h1 hb hO hol hlen hc4
   go_enter Tryz.func15, Tryz.ntmps15
   go_wp2_with fail
   refine hC.out.mono ?_
   rintro r X1 ⟨v, rfl, k1, k2⟩
   replace k1 := Hz.mk k1
   replace k2 := Hz.mk k2
   go_wp2_with fail
   go_ret
   exact ⟨v, rfl, k1.out, k2.out⟩
end C
end Go.Proofs.YthmlkcglglcljaaGreatDoor


namespace Go.Proofs.YthmlkcglglcljaaGreatDoor
set_option maxRecDepth 100000
set_option maxHeartbeats 40000000
namespace C
open Go.RowKit
open T (Sep Ob Kp Mf TgIn boxOb Fm Tc Ed Vl Cp Bx tgOb mRow updV flt Sl Rg rgB rgT slT dataT offT scT updT)

def xCode : List Ins := [⟨1, 1, 0, 0, 5⟩, ⟨62, 1, 8, 0, 3⟩, ⟨60, 2, 8, 0, 3⟩, ⟨27, 2, 0, 0, 0⟩]
def oneP (code : List Ins) : PImg := ⟨[⟨0, 32, [], []⟩], [⟨[⟨8, 0, 32, 0, 3, 0⟩], code⟩], [⟨0, 0, [], []⟩], 1⟩
def xP : PImg := oneP xCode
theorem at5 (w : World) (A B C D E : Array Value) (ta tb tc td te : TypeId) :
   At (((((w.alloc (.cells A ta)).alloc (.cells B tb)).alloc (.cells C tc)).alloc (.cells D td)).alloc (.cells E te)) (w.heap.size + 1) B ∧ At (((((w.alloc (.cells A ta)).alloc (.cells B tb)).alloc (.cells C tc)).alloc (.cells D td)).alloc (.cells E te)) (w.heap.size + 1 + 1) C ∧ At (((((w.alloc (.cells A ta)).alloc (.cells B tb)).alloc (.cells C tc)).alloc (.cells D td)).alloc (.cells E te)) (w.heap.size + 1 + 1 + 1) D ∧ At (((((w.alloc (.cells A ta)).alloc (.cells B tb)).alloc (.cells C tc)).alloc (.cells D td)).alloc (.cells E te)) (w.heap.size + 1 + 1 + 1 + 1) E ∧ Bl w (((((w.alloc (.cells A ta)).alloc (.cells B tb)).alloc (.cells C tc)).alloc (.cells D td)).alloc (.cells E te)) := by
 have h2 := At.new (w.alloc (.cells A ta)) B tb
 have h3 := At.new ((w.alloc (.cells A ta)).alloc (.cells B tb)) C tc
 have h4 := At.new (((w.alloc (.cells A ta)).alloc (.cells B tb)).alloc (.cells C tc)) D td
 have h5 := At.new ((((w.alloc (.cells A ta)).alloc (.cells B tb)).alloc (.cells C tc)).alloc (.cells D td)) E te
 simp only [World.size_alloc] at h2 h3 h4 h5
 exact ⟨((h2.alloc _).alloc _).alloc _, (h3.alloc _).alloc _, h4.alloc _, h5, (((((Bl.refl w).alloc _).alloc _).alloc _).alloc _).alloc _⟩
theorem one_any (b n c : Nat) (w : World) : Calls Tryz.prog 12 #[.slice (some ⟨b, 0, none⟩) n c] w fun x w' => ∃ k1 k2 k3 k4, x = .returned (.agg #[.slice (some ⟨k1, 0, none⟩) 1 1, .slice (some ⟨k3, 0, none⟩) 1 1, .slice (some ⟨k4, 0, none⟩) 1 1, .int .i64 1]) ∧ At w' k1 #[.int .u64 0, .int .u64 32, .string (str []), .slice none 0 0] ∧ At w' k2 #[.int .i64 8, .int .u64 0, .int .u64 32, .int .u64 0, .int .u8 3, .int .i64 0] ∧ At w' k3 #[.slice (some ⟨k2, 0, none⟩) 1 1, .slice (some ⟨b, 0, none⟩) n c] ∧ At w' k4 #[.int .i64 0, .int .i64 0, .slice none 0 0, .slice none 0 0] ∧ Bl w w' := by
 go_enter Tryz.func12, Tryz.ntmps12
 go_wp2_with fail
 simp [bodyPost, results, Tryz.results12, go_sem]
 exact ⟨_, w.heap.size + 1 + 1, _, _, ⟨rfl, rfl, rfl⟩, at5 w _ _ _ _ _ _ _ _ _ _⟩
theorem img_one {W : World} {k1 k2 k3 k4 b c : Nat} {code : List Ins} (h1 : At W k1 #[.int .u64 0, .int .u64 32, .string (str []), .slice none 0 0]) (h2 : At W k2 #[.int .i64 8, .int .u64 0, .int .u64 32, .int .u64 0, .int .u8 3, .int .i64 0]) (h3 : At W k3 #[.slice (some ⟨k2, 0, none⟩) 1 1, .slice (some ⟨b, 0, none⟩) code.length c]) (h4 : At W k4 #[.int .i64 0, .int .i64 0, .slice none 0 0, .slice none 0 0]) (h5 : LIn W.heap.size W (some ⟨b, 0, none⟩) code) :
   ImgIn W.heap.size W (some ⟨k1, 0, none⟩) (some ⟨k3, 0, none⟩) (some ⟨k4, 0, none⟩) (oneP code) := by
 refine ⟨fun i hi => ?_, fun i hi => ?_, fun i hi => ?_⟩
 · have hi' : i < 1 := hi
   obtain rfl : i = 0 := by omega
   exact ⟨k1, 0, none, 0, rfl, h1.1, h1.1, h1.2.1 0, h1.2.1 1, h1.2.1 2, h1.2.1 3, FIn.nil _ _ _ _ _⟩
 · have hi' : i < 1 := hi
   obtain rfl : i = 0 := by omega
   refine ⟨k3, 0, some ⟨k2, 0, none⟩, 1, some ⟨b, 0, none⟩, c, rfl, h3.1, h3.1, h3.2.1 0, h3.2.1 1, fun j hj => ?_, h5⟩
   have hj' : j < 1 := hj
   obtain rfl : j = 0 := by omega
   refine ⟨k2, 0, rfl, h2.1, h2.1, fun o ho => ?_⟩
   rw [show 0 + 0 * 6 + o = o by omega, h2.2.1 o]
   match o, ho with
   | 0, _ => rfl
   | 1, _ => rfl
   | 2, _ => rfl
   | 3, _ => rfl
   | 4, _ => rfl
   | 5, _ => rfl
 · have hi' : i < 1 := hi
   obtain rfl : i = 0 := by omega
   exact ⟨k4, 0, none, 0, none, 0, rfl, h4.1, h4.1, h4.2.1 0, h4.2.1 1, h4.2.1 2, h4.2.1 3, FIn.nil _ _ _ _ _, FIn.nil _ _ _ _ _⟩
theorem x_right : xP.right = 0 := by kernel_rfl
theorem x_rng : xP.Rng := by
 refine ⟨⟨by decide, fun r hr => ?_⟩, ⟨by decide, fun c hc => ?_⟩, ⟨by decide, fun g hg => ?_⟩, by decide, by decide⟩
 · obtain rfl := List.mem_singleton.1 hr
   exact ⟨⟨by decide, by decide⟩, ⟨by decide, by decide⟩, by decide, by decide, fun k hk => by cases hk⟩
 · obtain rfl := List.mem_singleton.1 hc
   refine ⟨by decide, by decide, fun k hk => ?_, fun k hk => ?_⟩
   · simp [xCode] at hk
     rcases hk with rfl | rfl | rfl | rfl <;> decide
   · obtain rfl := List.mem_singleton.1 hk
     exact ⟨⟨by decide, by decide⟩, ⟨by decide, by decide⟩, ⟨by decide, by decide⟩, ⟨by decide, by decide⟩, ⟨by decide, by decide⟩, by decide, by decide⟩
 · obtain rfl := List.mem_singleton.1 hg
   exact ⟨⟨by decide, by decide⟩, ⟨by decide, by decide⟩, by decide, by decide, fun k hk => (by cases hk), fun k hk => by cases hk⟩
theorem x_ent : isEnt xP 0 = true := by kernel_rfl
theorem x_tl : tl (runM (bare xP) 10 (start xP 0 [] [])) = [.int .i64 1, .int .u64 5, .int .i64 0, .int .i64 0, .int .i64 3] := by kernel_rfl
theorem x_tou : (runM (bare xP) 10 (start xP 0 [] [])).tou = [⟨true, 3, 1⟩, ⟨false, 3, 1⟩] := by kernel_rfl
def SlOk (x : Sl) : Prop := x.cap = true → COk ⟨x.b, x.e, x.c, x.p, x.s⟩
theorem scT_in' {t : Nat → Option Cp} (ht : ∀ g c, t g = some c → COk c) (a : Nat) {v : Vl} (hv : v.g = true → COk v.c) : ∀ g c, scT t a v g = some c → COk c := fun g c h => by
 unfold scT at h; split at h
 · split at h
   · rename_i hg
     unfold updT at h; split at h
     · injection h with h; subst h; exact hv hg
     · exact off_in ht _ _ g c h
   · exact off_in ht _ _ g c h
 · exact ht g c h
theorem slT_in {t : Nat → Option Cp} (ht : ∀ g c, t g = some c → COk c) (base : Nat) {L : List Sl} (hL : ∀ x ∈ L, SlOk x) : ∀ n g c, slT t base L n g = some c → COk c
 | 0 => ht
 | n + 1 => by
   unfold slT
   refine scT_in' (slT_in ht base hL n) _ (fun hg => ?_)
   cases hx : L[n]? with
   | none => rw [hx] at hg; cases hg
   | some x =>
     rw [hx] at hg
     have h1 := hL x (List.mem_of_getElem? hx)
     simp only [Option.map_some, Option.getD_some] at hg ⊢
     unfold T.Sl.v at hg ⊢
     split at hg
     · rename_i hc
       rw [if_pos hc]
       exact h1 hc
     · cases hg
theorem rgT_in {L : List Rg} (hL : ∀ r ∈ L, ∀ x ∈ r.slots, SlOk x) : ∀ n g c, rgT L n g = some c → COk c
 | 0 => fun g c h => by cases h
 | n + 1 => by
   unfold rgT
   cases hx : L[n]? with
   | none => exact rgT_in hL n
   | some r => exact slT_in (off_in (rgT_in hL n) _ _) _ (hL r (List.mem_of_getElem? hx)) _
theorem slots_mem : ∀ (L : List PSlot), slotsR L = true → ∀ k ∈ L, k.right = true
 | [], _ => fun k hk => by cases hk
 | k :: l, h => by
   unfold slotsR at h
   rw [Bool.and_eq_true] at h
   intro x hx
   rcases List.mem_cons.1 hx with rfl | hx
   · exact h.1
   · exact slots_mem l h.2 x hx
theorem regs_mem : ∀ (L : List PReg) (f : Int), regsR L f = 0 → ∀ r ∈ L, slotsR r.slots = true
 | [], _, _ => fun r hr => by cases hr
 | k :: l, f, h => by
   unfold regsR at h
   split at h
   · split at h
     · rename_i q
       intro r hr
       rcases List.mem_cons.1 hr with rfl | hr
       · exact q
       · exact regs_mem l _ h r hr
     · omega
   · omega
theorem sl_ok {k : PSlot} (h : k.right = true) (hr : k.Rng) : SlOk (slOf k) := fun hc => by
 have hc' : k.t.cap = true := hc
 unfold PSlot.right at h
 rw [Bool.and_eq_true, Bool.and_eq_true] at h
 have h1 := h.1.2
 unfold PTyp.right at h1
 rw [if_pos hc', Bool.and_eq_true] at h1
 have h2 := dataB_s h1.1
 obtain ⟨⟨r1, r2, _, _, r5, _⟩, r7⟩ := hr
 refine ⟨r1, r2, ?_, r5, h2⟩
 show W64 ((k.c.toNat : Nat) : Int)
 rw [Int.toNat_of_nonneg r7.1]
 exact r7
theorem regs_right {m : PImg} (h : m.right = 0) : regsR m.regs 0 = 0 := by
 unfold PImg.right at h
 split at h
 · split at h
   · assumption
   · rename_i q; exact absurd h q
 · omega
theorem ints_vok {A : List Nat} (hA : ∀ x ∈ A, x < 18446744073709551616) (j : Nat) : VOk (intsF A j) := by
 refine vok_nat ?_
 cases hx : A[j - 1]? with
 | none => decide
 | some x => exact hA x (List.mem_of_getElem? hx)
theorem start_ok {m : PImg} (h : m.right = 0) (hr : m.Rng) {g : Nat} (hg : g < m.gates.length) {A I : List Nat} (hA : ∀ x ∈ A, x < 18446744073709551616) (hI : ∀ x ∈ I, x < 18446744073709551616) (hl : I.length ≤ 2000000) : Okm (bare m) 0 (start m g A I) := by
 have hP : POk (bare m) := pok_of m h hr
 refine ⟨ent_ok hP hg (ints_vok hA) _, fun f hf => (by cases hf), by have := hP.dp; show ((0 : Nat) : Int) ≤ (bare m).depth; omega, ⟨?_, fun x hx => ?_⟩, Nat.le_refl _, Nat.le_refl _, ?_⟩
 · show (I.map fun x : Nat => (x : Int)).length ≤ _
   rw [List.length_map]; omega
 · obtain ⟨y, hy, rfl⟩ := List.mem_map.1 hx
   have := hI y hy
   exact ⟨by omega, by omega⟩
 · refine rgT_in (fun r hr1 x hx => ?_) _
   obtain ⟨p, hp, rfl⟩ := List.mem_map.1 hr1
   obtain ⟨k, hk, rfl⟩ := List.mem_map.1 hx
   exact sl_ok (slots_mem _ (regs_mem _ _ (regs_right h) p hp) k hk) ((hr.regs.2 p hp).2.2.2.2 k hk)
end C
end Go.Proofs.YthmlkcglglcljaaGreatDoor
