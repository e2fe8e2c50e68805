import Derived.Test.YtkhbiaaangnkdaaGreatDoorJ41
namespace Go.Proofs.YtkhbiaaangnkdaaGreatDoor
set_option maxRecDepth 100000
set_option maxHeartbeats 40000000
namespace C
open Go.RowKit
open T (Sep Ob Kp Mf TgIn boxOb Fm Tc Ed Vl Cp Bx tgOb mRow mRow_idx mRow_tail mRow_at updV flt Vl.row_len kp_setCells setCells_size)
theorem first_any (a n:Nat)(r:Nat→Vl)(w:World)(h:RgAt w a (1+0) (r 1))(hn:n≤15):Calls Tryz.prog 141 #[.slice (some ⟨a,14,none⟩) n 15] w fun x w'=>x=.returned (.int .u64 (firstV r n))∧Bl w w':=by
 have hlt:=h.lt;obtain⟨r0,r1,r2,r3,r4,r5,r6⟩:=h.from1;simp only[Nat.zero_mul,Nat.add_zero]at r0 r1 r2 r3 r4 r5 r6;unfold firstV;generalize r 1=v at*
 cases n with
 |zero=>
  rw[if_pos rfl];go_enter Tryz.func141,Tryz.ntmps141;go_wp2_with fail;go_ret;exact⟨rfl,Bl.refl _⟩
 |succ n=>
  have hn0:((n:Int)+1==0)=false:=by simpa using(by omega:¬(n:Int)+1=0)
  have hn1:(0:Int)<(n:Int)+1:=by omega
  rw[if_neg (by omega)]
  cases hg:v.g
  ·rw[if_neg (by decide)];rw[hg]at r0;clear hg;go_enter Tryz.func141,Tryz.ntmps141;go_wp2_with fail;go_ret;exact⟨rfl,(Bl.refl _).alloc _⟩
  ·rw[if_pos rfl];rw[hg]at r0;clear hg;go_enter Tryz.func141,Tryz.ntmps141;go_wp2_with fail;go_ret;exact⟨rfl,(Bl.refl _).alloc _⟩
theorem ret_any (B:Nat)(W0:World)(a:Nat)(P:PImg)(s:Ms)(l:List Ob)(h:MIn B W0 a P s l)(hP:POk P)(hg:s.at_.gate<P.gates.length)(hsl:s.st.length≤1000000):
 Calls Tryz.prog 106 #[.pointer (some ⟨a,0,none⟩)] W0 fun x w'=>Dv B W0 a P s l (retM P s) x w':=by
 obtain⟨b,off,gc,xa,xc,ya,yc,c2,hblt,_,cy,hTy⟩:=h.gateTy s.at_.gate hg;have c5:=h.cell.1;have hlt:=h.alt;have gi:(s.at_.gate:Int)<P.gates.length:=by omega
 have hn7:P.gates[s.at_.gate].res.length≤7:=(hP.gates s.at_.gate hg).2.2.2.2.2;have hH:=ζ (fun X (q:Bl W0 X)=>handed_any B X a P s l P.gates[s.at_.gate].res ya yc (h.gr q) (hTy X q).2 hn7);have KT:Hz (∀X,Bl W0 X→X.cell? ⟨a,2,none⟩=some (.slice (some ⟨b,off,none⟩) P.gates.length gc)∧X.cell? ⟨a,5,none⟩=some (.int .i64 s.at_.gate)∧X.cell? ⟨b,off+s.at_.gate*4+3,none⟩=some (.slice ya P.gates[s.at_.gate].res.length yc)):=ζ (fun X q=>⟨(q.cell (p:=⟨a,2,none⟩) hlt).trans c2,(q.cell (p:=⟨a,5,none⟩) hlt).trans c5,(q.cell (p:=⟨b,_,none⟩) hblt).trans cy⟩);replace h:=ζ h;clear hTy c2 cy c5 hblt;unfold retM;rw[resOf_at P s.at_.gate hg]
 cases hq:fitN s.at_.regs P.gates[s.at_.gate].res P.gates[s.at_.gate].res.length with
 |false=>
  rw[hq]at hH;rw[if_neg (by decide)];simp only[HdV,pan]at hH;simp only[Dv,pan];go_enter Tryz.func106,Tryz.ntmps106;go_upto_region 0 with fail
  have gD:Bl W0 W0.drew:=(Bl.refl W0).drew;refine wp_region_held_drew (S:=(fun X=>X.cell? ⟨a,2,none⟩=some (.slice (some ⟨b,off,none⟩) P.gates.length gc)∧X.cell? ⟨a,5,none⟩=some (.int .i64 s.at_.gate)∧X.cell? ⟨b,off+s.at_.gate*4+3,none⟩=some (.slice ya P.gates[s.at_.gate].res.length yc))) (by kernel_rfl) (KT.out _ gD) (fun hHeld=>?_);refine xz 0 rfl (h:=xz 1 rfl (h:=xz 2 rfl (h:=xz 3 rfl (h:=xz 4 rfl (h:=xz 5 rfl (h:=xz 6 rfl (h:=xz 7 rfl (h:=xz 8 rfl (h:=xz 9 rfl (h:=xz 10 rfl (h:=xz 11 rfl (h:=xz 12 rfl (h:=xz 13 rfl (h:=?_))))))))))))));try simp only[xap]
  refine xrd 14 rfl (fun K hK=>?_);go_simp;go_wp2_with(refine(hH.out _ gD).mono ?_;rintro r X1 ⟨rfl,e1⟩);exact⟨rfl,rfl,h.out.gr (gD.trans e1),Below.mono (gD.trans e1) h.out.le⟩
 |true=>
  rw[hq]at hH;rw[if_pos rfl];simp only[HdV]at hH;clear hq;rcases List.eq_nil_or_concat s.st with hst|⟨L,t,hst⟩
  ·rw[hst];simp only[List.getLast?_nil,Dv,pan];go_enter Tryz.func106,Tryz.ntmps106;go_upto_region 0 with fail
   have gD:Bl W0 W0.drew:=(Bl.refl W0).drew;refine wp_region_held_drew (S:=(fun X=>X.cell? ⟨a,2,none⟩=some (.slice (some ⟨b,off,none⟩) P.gates.length gc)∧X.cell? ⟨a,5,none⟩=some (.int .i64 s.at_.gate)∧X.cell? ⟨b,off+s.at_.gate*4+3,none⟩=some (.slice ya P.gates[s.at_.gate].res.length yc))) (by kernel_rfl) (KT.out _ gD) (fun hHeld=>?_);refine xz 0 rfl (h:=xz 1 rfl (h:=xz 2 rfl (h:=xz 3 rfl (h:=xz 4 rfl (h:=xz 5 rfl (h:=xz 6 rfl (h:=xz 7 rfl (h:=xz 8 rfl (h:=xz 9 rfl (h:=xz 10 rfl (h:=xz 11 rfl (h:=xz 12 rfl (h:=xz 13 rfl (h:=?_))))))))))))));try simp only[xap]
   refine xrd 14 rfl (fun K hK=>?_);go_simp;refine(hH.out _ gD).mono ?_;rintro r X1 ⟨rfl,e1⟩;clear hHeld;refine hK.out _ _ (KT.out _ (gD.trans e1)) (fun hHeld=>?_);clear hK K;try simp only[xap]
   refine xz 15 rfl (h:=?_);try simp only[xap]
   refine xdn ?_ _;clear hHeld KT hH;have hB:=ζ (Below.mono (gD.trans e1) h.out.le);replace h:=ζ (h.out.gr (gD.trans e1));clear e1 gD;obtain⟨_,ta,tk,c119⟩:=h.out.depAt;rw[hst]at c119;replace c119:X1.cell? ⟨a,119,none⟩=some (.slice ta 0 tk):=c119;have hlx:=h.out.alt;have hFi:=ζ (first_any a P.gates[s.at_.gate].res.length s.at_.regs X1 (h.out.rg 1 (by omega)) (by omega));go_wp2_with fail;refine hFi.out.mono ?_;rintro r X2 ⟨rfl,e1⟩;replace hB:=ζ (hB.out.trans (Below.mono e1 h.out.le));replace h:=ζ (h.out.gr e1);clear e1 c119;go_wp2_with fail;exact⟨rfl,rfl,h.out,hB.out⟩
  ·rw[hst];rw[List.concat_eq_append]at hst ⊢;rw[List.getLast?_concat,List.dropLast_concat];generalize hfB:backF t s.at_.regs P.gates[s.at_.gate].res.length=fB;have hlL:L.length≤1000000:=by rw[hst]at hsl;simp at hsl;omega
   have e1:IntKind.i64.wrap ((L.length:Int)+1 - 1)=L.length:=by rw[IntKind.wrap_i64];omega
   have e2:¬(L.length:Int)<0:=by omega
   have e3:(L.length:Int)<L.length+1:=by omega
   replace hfB:=ζ hfB;simp only[Dv];go_enter Tryz.func106,Tryz.ntmps106;go_upto_region 0 with fail
   have gD:Bl W0 W0.drew:=(Bl.refl W0).drew;refine wp_region_held_drew (S:=(fun X=>X.cell? ⟨a,2,none⟩=some (.slice (some ⟨b,off,none⟩) P.gates.length gc)∧X.cell? ⟨a,5,none⟩=some (.int .i64 s.at_.gate)∧X.cell? ⟨b,off+s.at_.gate*4+3,none⟩=some (.slice ya P.gates[s.at_.gate].res.length yc))) (by kernel_rfl) (KT.out _ gD) (fun hHeld=>?_);refine xz 0 rfl (h:=xz 1 rfl (h:=xz 2 rfl (h:=xz 3 rfl (h:=xz 4 rfl (h:=xz 5 rfl (h:=xz 6 rfl (h:=xz 7 rfl (h:=xz 8 rfl (h:=xz 9 rfl (h:=xz 10 rfl (h:=xz 11 rfl (h:=xz 12 rfl (h:=xz 13 rfl (h:=?_))))))))))))));try simp only[xap]
   refine xrd 14 rfl (fun K hK=>?_);go_simp;refine(hH.out _ gD).mono ?_;rintro r X1 ⟨rfl,e1⟩;clear hHeld;refine hK.out _ _ (KT.out _ (gD.trans e1)) (fun hHeld=>?_);clear hK K;try simp only[xap]
   refine xz 15 rfl (h:=?_);try simp only[xap]
   refine xdn ?_ _;clear hHeld KT hH;have hB:=ζ (Below.mono (gD.trans e1) h.out.le);replace h:=ζ (h.out.gr (gD.trans e1));clear e1 gD;obtain⟨g9,c9,c119,hcl,hgl,hf119,hrg, -⟩:=h.out.top L t hst;have hlx:=h.out.alt;obtain⟨n1,n2,n3⟩:=new_fm X1 t;have hM:=ζ (h.out.add (bx_ X1.heap.size t.row) n2 (fun k q=>by have:k=X1.heap.size:=q;omega) n3);replace hB:=ζ (hB.out.trans (Below.mono n3 h.out.le));have hkf:Hz (X1.heap.size≠a):=ζ (by omega);replace n1:=ζ n1;replace n2:=ζ n2;replace n3:=ζ n3;go_upto_region 4 with fail
   refine wp_region_lit ?_;iterate 6 (refine xp fun K hK=>?_;go_simp;with_reducible refine hK _ _ ?_;clear hK K;(try simp only[xap]))
   refine wpList_load_mid rfl _ _ rfl _ (L.length*114) rfl t.row _ hrg Tryz.underlying78 rfl info85 ?_;try simp only[xap]
   refine xp fun K hK=>?_
   refine wp_alloc_fm rfl (hK _ _ ?_);clear hK K;try simp only[xap]
   refine wpList_store_mid rfl _ _ _ rfl _ _ (List.toArray t.row) rfl rfl (bx_there n1.out t) (fm_info t) (fm_one t) ?_;try simp only[Act.put]
   clear n1 n3 c119 hcl hgl hf119 hrg h n2;generalize World.setCells _ _ _ _=Y at*;generalize X1.heap.size=kf at*;have hbx:Bx Y kf t.row:=hM.out.there (bx_ kf t.row) (.head _);obtain⟨hq1,k4,k5⟩:=copy_fm Y kf t s.at_.regs P.gates[s.at_.gate].res.length (some ⟨a,14,none⟩) 15 hbx (hM.out.src _ (by omega)) (by omega);rw[show ({t with regs:=ovF s.at_.regs t.regs P.gates[s.at_.gate].res.length}:Fm)=fB from hfB.out]at k4;have hS2:=hM.out.side (o:=bx_ kf t.row) (o':=bx_ kf fB.row) k4 k5 (fun k q=>.inl q);clear hbx hM;generalize World.setCells Y _ _ _=Y2 at*;replace hB:=ζ (hB.out.trans hS2.2);have h:=ζ hS2.1;clear hS2 k4 k5;have hlY:=h.out.alt;go_upto_region 6 with fail
   clear hq1;generalize g9=g8 at*;generalize c9=c8 at*;obtain⟨g9,c9,c119,hcl,hgl,hf119,hrg,hT⟩:=h.out.top L t hst;replace hT:=ζ hT;clear hrg;have hcl2:(L.length:Int)≤c9:=by omega
   go_upto_region 7 with fail;replace hB:=ζ (hB.out.trans hT.out.2);replace h:=ζ hT.out.1;clear hT c119 hcl hgl hf119;generalize World.setCell _ _ _=Y3 at*;have hAq:Hz (Bx Y3 kf fB.row):=ζ (h.out.there (bx_ kf fB.row) (.head _));have hth:=ζ (h.out.there5 fB);have hN:=h.out.hand fB;replace hB:=ζ (hB.out.trans hN.2);replace hN:=ζ hN.1;clear h;refine wp_region_lit ?_;refine xp fun K hK=>?_
   go_simp;with_reducible refine hK _ _ ?_
   clear hK K;try simp only[xap]
   refine wpList_load_mid rfl _ _ rfl _ 0 rfl fB.row _ (bx_at0 hAq.out) Tryz.underlying78 rfl info85 ?_;try simp only[xap]
   iterate 2 (refine xp fun K hK=>?_;go_simp;with_reducible refine hK _ _ ?_;clear hK K;(try simp only[xap]))
   refine wpList_store_mid rfl _ _ _ rfl _ _ (List.toArray fB.row) rfl rfl hth.out (fm_info fB) (fm_one fB) ?_;try simp only[Act.put]
   generalize World.setCells _ _ _ _=Y11 at*;go_wp2_with fail
   first|go_end0|((try simp only[Exit.inBlock,Exit.then]);refine xre ?_)
   refine⟨rfl,?_,hB.out⟩;rw[hfB.out];exact hN.out.drop
open T (Sep Ob Kp Mf TgIn boxOb Fm Tc Ed Vl Cp Bx tgOb mRow mRow_idx mRow_tail mRow_at updV flt ofI ofI_agg capability_any)
def cpL (c:Cp):List Value:=[.int .u64 c.b,.int .u64 c.e,.int .u64 c.c,.int .u8 c.p,.int .i64 c.s]
theorem cpL_one (c:Cp):(cpL c).toArray.all (fun x=>x.oneCell')=true:=by simp[cpL,Value.oneCell']
theorem codeCap_any (B:Nat)(a:Nat)(P:PImg)(s:Ms)(l:List Ob)(w:World)(h:MIn B w a P s l)(hP:POk P)(hg:s.at_.gate<P.gates.length)(pc:Nat)(hpc:pc<(codeOf P (kOf P s.at_.gate)).length):
 Calls Tryz.prog 101 #[.pointer (some ⟨a,0,none⟩),.int .i64 pc] w fun x w'=>x=.returned (Cp.val (ccap P (kOf P s.at_.gate) pc))∧Bl w w':=by
 obtain⟨hk1,hk2,_,_⟩:=hP.kl _ hg;obtain⟨ra,rc,ca,cc,ga,gc,p0,p1,p2,p3,hI⟩:=h.progAt;have hlt:=h.alt;have hcl:=(hP.code (kOf P s.at_.gate)).1;rw[codeOf_at P _ hk1]at hpc hcl;have hcap:ccap P (kOf P s.at_.gate) pc=⟨codeBase (kOf P s.at_.gate),codeBase (kOf P s.at_.gate)+P.comps[kOf P s.at_.gate].code.length*8,codeBase (kOf P s.at_.gate)+pc*8,16,0⟩:=by unfold ccap;rw[codeOf_at P _ hk1]
 have hC:=fun X (q:Bl w X)=>comp_any B a P s l X (h.gr q) hg
 rw[hk2]at hC;have hCC:=fun X (q:Bl w X)=>(CodeCap_yes P (kOf P s.at_.gate) pc ra ca ga P.regs.length rc cc P.gates.length gc X (hI X q).comps hk1 (by have:=hP.cl;unfold maxG;omega) ⟨by omega,by omega⟩ (by unfold maxI;omega)).mono (R':=fun x w'=>x=.returned (.tuple #[.agg (cpL (ccap P (kOf P s.at_.gate) pc)).toArray,.bool true])∧Bl X w') (by rintro x w' ⟨rfl,g⟩;exact⟨by rw[hcap];rfl,g.below⟩)
 clear hcap;show Calls Tryz.prog 101 #[.pointer (some ⟨a,0,none⟩),.int .i64 pc] w fun x w'=>x=.returned (.agg (cpL (ccap P (kOf P s.at_.gate) pc)).toArray)∧Bl w w'
 generalize ccap P (kOf P s.at_.gate) pc=c at*;have gV:Bl w (w.alloc (.cells (List.toArray [Value.int .u64 0,.int .u64 0,.int .u64 0,.int .u8 0,.int .i64 0]) 73)):=(Bl.refl w).alloc _;have hR0:At (w.alloc (.cells (List.toArray [Value.int .u64 0,.int .u64 0,.int .u64 0,.int .u8 0,.int .i64 0]) 73)) w.heap.size (List.toArray [Value.int .u64 0,.int .u64 0,.int .u64 0,.int .u8 0,.int .i64 0]):=At.new w _ _;have KT:Hz (∀X,Bl (w.alloc (.cells (List.toArray [Value.int .u64 0,.int .u64 0,.int .u64 0,.int .u8 0,.int .i64 0]) 73)) X→X.cell? ⟨a,0,none⟩=some (.slice ra P.regs.length rc)∧X.cell? ⟨a,1,none⟩=some (.slice ca P.comps.length cc)∧X.cell? ⟨a,2,none⟩=some (.slice ga P.gates.length gc)∧X.cell? ⟨a,3,none⟩=some (.int .i64 P.depth)):=ζ (fun X q=>⟨((gV.trans q).cell (p:=⟨a,0,none⟩) hlt).trans p0,((gV.trans q).cell (p:=⟨a,1,none⟩) hlt).trans p1,((gV.trans q).cell (p:=⟨a,2,none⟩) hlt).trans p2,((gV.trans q).cell (p:=⟨a,3,none⟩) hlt).trans p3⟩)
 replace hC:=ζ (fun X (q:Bl (w.alloc (.cells (List.toArray [Value.int .u64 0,.int .u64 0,.int .u64 0,.int .u8 0,.int .i64 0]) 73)) X)=>hC X (gV.trans q));replace hCC:=ζ (fun X (q:Bl (w.alloc (.cells (List.toArray [Value.int .u64 0,.int .u64 0,.int .u64 0,.int .u8 0,.int .i64 0]) 73)) X)=>hCC X (gV.trans q));replace hR0:=ζ hR0;replace h:=ζ h;clear p0 p1 p2 p3 hI hk2 hcl hpc;go_enter Tryz.func101,Tryz.ntmps101;go_upto_region 1 with fail
 generalize hV:w.alloc (.cells (List.toArray [Value.int .u64 0,.int .u64 0,.int .u64 0,.int .u8 0,.int .i64 0]) 73)=V at*;clear hV;have g0:Bl V V.drew:=(Bl.refl V).drew;refine wp_region_held_drew (S:=(fun X=>X.cell? ⟨a,0,none⟩=some (.slice ra P.regs.length rc)∧X.cell? ⟨a,1,none⟩=some (.slice ca P.comps.length cc)∧X.cell? ⟨a,2,none⟩=some (.slice ga P.gates.length gc)∧X.cell? ⟨a,3,none⟩=some (.int .i64 P.depth))) (by kernel_rfl) (KT.out _ g0) (fun hHeld=>?_);refine xz 0 rfl (h:=xz 1 rfl (h:=xz 2 rfl (h:=xz 3 rfl (h:=xz 4 rfl (h:=xz 6 rfl (h:=?_))))));try simp only[xap]
 refine wpAnyH_ready (rs:=[5,11]) (by kernel_rfl) (by simp) ?_;refine(xcn rfl (fun K hK=>?_) (xcn rfl (fun K hK=>?_) AllReadyH.nil))
 ·skip
  go_simp;go_wp2_with(refine(hC.out _ g0).mono ?_;rintro r X1 ⟨rfl,gg⟩;have g1:=g0.trans gg;clear gg g0 hHeld);refine hK.out _ _ (KT.out _ g1) (fun hHeld=>?_);clear hK K;try simp only[xap]
  refine wpAnyH_ready (rs:=[7,11]) (by kernel_rfl) (by simp) ?_;refine(xcn rfl (fun K hK=>?_) (xcn rfl (fun K hK=>?_) AllReadyH.nil))
  ·skip
   go_simp;go_wp2_with(refine(hCC.out _ g1).mono ?_;rintro r X2 ⟨rfl,gg⟩;have g2:=g1.trans gg;clear gg g1 hHeld);refine hK.out _ _ (KT.out _ g2) (fun hHeld=>?_);clear hK K;try simp only[xap]
   refine xz 8 rfl (h:=xz 9 rfl (h:=xz 10 rfl (h:=?_)));try simp only[xap]
   refine xrd 11 rfl (fun K hK=>?_);go_simp;clear hHeld;have hAf:At (X2.alloc (.cells (List.toArray [Value.int .u64 0,.int .u64 0,.int .u64 0,.int .u8 0,.int .i64 0]) 73)) (X2.heap.size) (List.toArray [Value.int .u64 0,.int .u64 0,.int .u64 0,.int .u8 0,.int .i64 0]):=At.new X2 _ _;have g3:Bl V (X2.alloc (.cells (List.toArray [Value.int .u64 0,.int .u64 0,.int .u64 0,.int .u8 0,.int .i64 0]) 73)):=g2.alloc _;have hks:V.heap.size≤X2.heap.size:=g2.size;generalize hVV:X2.alloc (.cells (List.toArray [Value.int .u64 0,.int .u64 0,.int .u64 0,.int .u8 0,.int .i64 0]) 73)=X3 at*;clear hVV g2;replace hAf:=ζ hAf;obtain⟨kf,hkf⟩:∃kf,X2.heap.size=kf:=⟨_,rfl⟩;rw[hkf]at hAf ⊢;replace hks:V.heap.size≤kf:=by omega
   clear hkf;refine hK.out _ _ (KT.out _ g3) (fun hHeld=>?_);clear hK K;try simp only[xap]
   refine xrd 12 rfl (fun K hK=>?_);rw[if_pos (by rfl)];have hth:=ζ (At.there hAf.out 0 5 (by decide));have hA9:=ζ (At.setAll hAf.out (cpL c) rfl);have g4:=g3.sets kf hks (cpL c) 0;refine wp_store_mid _ _ _ rfl _ _ (List.toArray (cpL c)) rfl rfl (show World.there _ _ _ _ from hth.out) (by kernel_rfl) (cpL_one _) ?_;clear hHeld;refine hK.out _ _ (KT.out _ g4) (fun hHeld=>?_);clear hK K hth hAf;try simp only[Act.put]
   refine xz 13 rfl (h:=?_);try simp only[xap]
   refine xdn ?_ _;clear hHeld;generalize World.setCells _ _ _ _=Y at*;have hR1:=ζ (T.at_below hR0.out g4 hR0.out.1);have gY:=gV.trans g4;clear hR0;go_upto_region 2 with fail
   have hth:=ζ (At.there hR1.out 0 5 (by decide));have hA8:=ζ (At.setAll hR1.out (cpL c) rfl);have g9:=gY.sets w.heap.size (Nat.le_refl _) (cpL c) 0;refine wp_region_lit ?_;refine wpList_load_mid rfl _ _ rfl _ 0 rfl (cpL c) _ hA9.out.range Tryz.underlying73 rfl (by kernel_rfl) ?_;try simp only[xap]
   refine wpList_store_mid rfl _ _ _ rfl _ _ (List.toArray (cpL c)) rfl rfl (show World.there _ _ _ _ from hth.out) (by kernel_rfl) (cpL_one _) ?_;try simp only[Act.put]
   generalize World.setCells _ _ _ _=Y9 at*;have hrun:=run_loadVar_mid (P:=Tryz.prog) Y9 w.heap.size 0 73 (cpL c) _ hA8.out.range Tryz.underlying73 rfl (by kernel_rfl);replace g9:=ζ g9;go_wp2_with fail;refine bodyPost_ret (v:=.agg (List.toArray (cpL c))) ?_ rfl ⟨rfl,g9.out⟩;exact results_cellE Tryz.results101 _ _ rfl hrun
  ·skip
   go_simp;clear hHeld;have hAf:At (X1.alloc (.cells (List.toArray [Value.int .u64 0,.int .u64 0,.int .u64 0,.int .u8 0,.int .i64 0]) 73)) (X1.heap.size) (List.toArray [Value.int .u64 0,.int .u64 0,.int .u64 0,.int .u8 0,.int .i64 0]):=At.new X1 _ _;have g2:Bl V (X1.alloc (.cells (List.toArray [Value.int .u64 0,.int .u64 0,.int .u64 0,.int .u8 0,.int .i64 0]) 73)):=g1.alloc _;have hks:V.heap.size≤X1.heap.size:=g1.size;generalize hVV:X1.alloc (.cells (List.toArray [Value.int .u64 0,.int .u64 0,.int .u64 0,.int .u8 0,.int .i64 0]) 73)=X2 at*;clear hVV g1;replace hAf:=ζ hAf;obtain⟨kf,hkf⟩:∃kf,X1.heap.size=kf:=⟨_,rfl⟩;rw[hkf]at hAf ⊢;replace hks:V.heap.size≤kf:=by omega
   clear hkf;refine hK.out _ _ (KT.out _ g2) (fun hHeld=>?_);clear hK K;try simp only[xap]
   refine xrd 7 rfl (fun K hK=>?_);go_simp;go_wp2_with(refine(hCC.out _ g2).mono ?_;rintro r X3 ⟨rfl,gg⟩;have g3:=g2.trans gg;replace hAf:=ζ (Bl.at_ gg hAf.out);clear gg g2 hHeld);refine hK.out _ _ (KT.out _ g3) (fun hHeld=>?_);clear hK K;try simp only[xap]
   refine xz 8 rfl (h:=xz 9 rfl (h:=xz 10 rfl (h:=?_)));try simp only[xap]
   refine xrd 12 rfl (fun K hK=>?_);rw[if_pos (by rfl)];have hth:=ζ (At.there hAf.out 0 5 (by decide));have hA9:=ζ (At.setAll hAf.out (cpL c) rfl);have g4:=g3.sets kf hks (cpL c) 0;refine wp_store_mid _ _ _ rfl _ _ (List.toArray (cpL c)) rfl rfl (show World.there _ _ _ _ from hth.out) (by kernel_rfl) (cpL_one _) ?_;clear hHeld;refine hK.out _ _ (KT.out _ g4) (fun hHeld=>?_);clear hK K hth hAf;try simp only[Act.put]
   refine xz 13 rfl (h:=?_);try simp only[xap]
   refine xdn ?_ _;clear hHeld;generalize World.setCells _ _ _ _=Y at*;have hR1:=ζ (T.at_below hR0.out g4 hR0.out.1);have gY:=gV.trans g4;clear hR0;go_upto_region 2 with fail
   have hth:=ζ (At.there hR1.out 0 5 (by decide));have hA8:=ζ (At.setAll hR1.out (cpL c) rfl);have g9:=gY.sets w.heap.size (Nat.le_refl _) (cpL c) 0;refine wp_region_lit ?_;refine wpList_load_mid rfl _ _ rfl _ 0 rfl (cpL c) _ hA9.out.range Tryz.underlying73 rfl (by kernel_rfl) ?_;try simp only[xap]
   refine wpList_store_mid rfl _ _ _ rfl _ _ (List.toArray (cpL c)) rfl rfl (show World.there _ _ _ _ from hth.out) (by kernel_rfl) (cpL_one _) ?_;try simp only[Act.put]
   generalize World.setCells _ _ _ _=Y9 at*;have hrun:=run_loadVar_mid (P:=Tryz.prog) Y9 w.heap.size 0 73 (cpL c) _ hA8.out.range Tryz.underlying73 rfl (by kernel_rfl);replace g9:=ζ g9;go_wp2_with fail;refine bodyPost_ret (v:=.agg (List.toArray (cpL c))) ?_ rfl ⟨rfl,g9.out⟩;exact results_cellE Tryz.results101 _ _ rfl hrun
 ·skip
  go_simp;clear hHeld;have hAf:At ((V.alloc (.cells (List.toArray [Value.int .u64 0,.int .u64 0,.int .u64 0,.int .u8 0,.int .i64 0]) 73)).drew) (V.heap.size) (List.toArray [Value.int .u64 0,.int .u64 0,.int .u64 0,.int .u8 0,.int .i64 0]):=(At.new V _ _).drew;have g1:Bl V ((V.alloc (.cells (List.toArray [Value.int .u64 0,.int .u64 0,.int .u64 0,.int .u8 0,.int .i64 0]) 73)).drew):=((Bl.refl V).alloc _).drew;have hks:V.heap.size≤V.heap.size:=Nat.le_refl _;generalize hVV:(V.alloc (.cells (List.toArray [Value.int .u64 0,.int .u64 0,.int .u64 0,.int .u8 0,.int .i64 0]) 73)).drew=X1 at*;clear hVV g0;replace hAf:=ζ hAf;obtain⟨kf,hkf⟩:∃kf,V.heap.size=kf:=⟨_,rfl⟩;rw[hkf]at hAf ⊢;replace hks:V.heap.size≤kf:=by omega
  clear hkf;refine hK.out _ _ (KT.out _ g1) (fun hHeld=>?_);clear hK K;try simp only[xap]
  refine xrd 5 rfl (fun K hK=>?_);go_simp;go_wp2_with(refine(hC.out _ g1).mono ?_;rintro r X2 ⟨rfl,gg⟩;have g2:=g1.trans gg;replace hAf:=ζ (Bl.at_ gg hAf.out);clear gg g1 hHeld);refine hK.out _ _ (KT.out _ g2) (fun hHeld=>?_);clear hK K;try simp only[xap]
  refine xrd 7 rfl (fun K hK=>?_);go_simp;go_wp2_with(refine(hCC.out _ g2).mono ?_;rintro r X3 ⟨rfl,gg⟩;have g3:=g2.trans gg;replace hAf:=ζ (Bl.at_ gg hAf.out);clear gg g2 hHeld);refine hK.out _ _ (KT.out _ g3) (fun hHeld=>?_);clear hK K;try simp only[xap]
  refine xz 8 rfl (h:=xz 9 rfl (h:=xz 10 rfl (h:=?_)));try simp only[xap]
  refine xrd 12 rfl (fun K hK=>?_);rw[if_pos (by rfl)];have hth:=ζ (At.there hAf.out 0 5 (by decide));have hA9:=ζ (At.setAll hAf.out (cpL c) rfl);have g4:=g3.sets kf hks (cpL c) 0;refine wp_store_mid _ _ _ rfl _ _ (List.toArray (cpL c)) rfl rfl (show World.there _ _ _ _ from hth.out) (by kernel_rfl) (cpL_one _) ?_;clear hHeld;refine hK.out _ _ (KT.out _ g4) (fun hHeld=>?_);clear hK K hth hAf;try simp only[Act.put]
  refine xz 13 rfl (h:=?_);try simp only[xap]
  refine xdn ?_ _;clear hHeld;generalize World.setCells _ _ _ _=Y at*;have hR1:=ζ (T.at_below hR0.out g4 hR0.out.1);have gY:=gV.trans g4;clear hR0;go_upto_region 2 with fail
  have hth:=ζ (At.there hR1.out 0 5 (by decide));have hA8:=ζ (At.setAll hR1.out (cpL c) rfl);have g9:=gY.sets w.heap.size (Nat.le_refl _) (cpL c) 0;refine wp_region_lit ?_;refine wpList_load_mid rfl _ _ rfl _ 0 rfl (cpL c) _ hA9.out.range Tryz.underlying73 rfl (by kernel_rfl) ?_;try simp only[xap]
  refine wpList_store_mid rfl _ _ _ rfl _ _ (List.toArray (cpL c)) rfl rfl (show World.there _ _ _ _ from hth.out) (by kernel_rfl) (cpL_one _) ?_;try simp only[Act.put]
  generalize World.setCells _ _ _ _=Y9 at*;have hrun:=run_loadVar_mid (P:=Tryz.prog) Y9 w.heap.size 0 73 (cpL c) _ hA8.out.range Tryz.underlying73 rfl (by kernel_rfl);replace g9:=ζ g9;go_wp2_with fail;refine bodyPost_ret (v:=.agg (List.toArray (cpL c))) ?_ rfl ⟨rfl,g9.out⟩;exact results_cellE Tryz.results101 _ _ rfl hrun
def tgtC (P:PImg)(k:Nat)(c:Cp):Except Ed Nat:=
 if T.accessF c.b c.e c.c c.p c.s 0 8 16=0 then(if offC k c.c<(codeOf P k).length*8∧offC k c.c%8=0 then .ok (offC k c.c/8).toNat else .error (flt 8))else .error (flt (T.accessF c.b c.e c.c c.p c.s 0 8 16))
theorem tgtR_eq (P:PImg)(k:Nat)(v:Vl):tgtR P k v=if v.g then tgtC P k v.c else .error (flt 1):=rfl
def NtV:Except Ed Nat→Ending
 |.ok n=>.returned (.int .i64 n)
 |.error e=>pan e
theorem target_any (B:Nat)(a:Nat)(P:PImg)(s:Ms)(l:List Ob)(c:Cp)(w:World)(h:MIn B w a P s l)(hP:POk P)(hg:s.at_.gate<P.gates.length):
 Calls Tryz.prog 102 #[.pointer (some ⟨a,0,none⟩),Cp.val c] w fun x w'=>x=NtV (tgtC P (kOf P s.at_.gate) c)∧MIn B w' a P s l∧Below B w w':=by
 obtain⟨hk1,_,_,hk4⟩:=hP.kl _ hg;have hcl:=(hP.code (kOf P s.at_.gate)).1;have hk5:=hP.cl;have h2:=ζ (h.new #[.int .u64 c.b,.int .u64 c.e,.int .u64 c.c,.int .u8 c.p,.int .i64 c.s] 73);have hA:=ζ (fun X=>cwAcc c 0 8 16 X);have hCd:=ζ (fun X l' (q:MIn B X a P s l')=>codeCap_any B a P s l' X q hP hg 0 (by omega));unfold tgtC;unfold Cp.val at*;clear h;generalize hf:T.accessF c.b c.e c.c c.p c.s 0 8 16=f at*;clear hf;by_cases h0:f=0
 ·subst h0;rw[if_pos rfl];have hW:=ζ allow_ok;have e1:IntKind.u64.wrap ((ccap P (kOf P s.at_.gate) 0).e - (ccap P (kOf P s.at_.gate) 0).b)=((codeOf P (kOf P s.at_.gate)).length:Int)*8:=by
   simp only[ccap,codeBase,IntKind.wrap_u64];omega
  have e2:(ccap P (kOf P s.at_.gate) 0).b=codeBase (kOf P s.at_.gate):=rfl;have e3:IntKind.u64.wrap (c.c - codeBase (kOf P s.at_.gate))=offC (kOf P s.at_.gate) c.c:=rfl;have o0:0≤offC (kOf P s.at_.gate) c.c:=wrap_u64_nonneg _;rw[←e2]at e3;clear e2;generalize ccap P (kOf P s.at_.gate) 0=d at*;generalize offC (kOf P s.at_.gate) c.c=o at*;generalize (codeOf P (kOf P s.at_.gate)).length=n at*;have t1:Int.tmod o 8=o%8:=Int.tmod_eq_emod_of_nonneg o0;have t2:Int.tdiv o 8=o/8:=Int.tdiv_eq_ediv_of_nonneg o0;by_cases h1:o<(n:Int)*8∧o%8=0
  ·rw[if_pos h1];obtain⟨q1,q2⟩:=h1;have q3:decide ((n:Int)*8≤o)=false:=by simp;omega
   obtain⟨k,hk⟩:∃k,(o/8).toNat=k:=⟨_,rfl⟩;have q4:IntKind.i64.wrap (o/8)=(k:Int):=by rw[IntKind.wrap_i64];omega
   rw[hk];replace hk:=ζ hk;have q5:(o%8 != 0)=false:=by simpa using q2
   have q6:¬(n:Int)*8≤o:=by omega
   replace q1:=ζ q1;replace q2:=ζ q2;simp only[NtV];go_enter Tryz.func102,Tryz.ntmps102;go_upto_region 1 with fail
   refine wp_world (fun W=>MIn B W a P s (boxOb w.heap.size #[.int .u64 c.b,.int .u64 c.e,.int .u64 c.c,.int .u8 c.p,.int .i64 c.s]::l)∧Below B w W) h2.out ?_;clear h2;rintro W ⟨h,hB⟩;generalize w.heap.size=kb at*;have⟨_,p0,_⟩:=h.there (boxOb kb #[.int .u64 c.b,.int .u64 c.e,.int .u64 c.c,.int .u8 c.p,.int .i64 c.s]) (.head _);replace h:=ζ h;replace hB:=ζ hB;go_wp2_with fail;refine(hA.out _).mono ?_;rintro r X1 ⟨rfl,e1⟩;replace hB:=ζ (hB.out.trans (h.out.bl e1).2);replace h:=ζ (h.out.bl e1).1;clear e1 p0;go_wp2_with fail;refine(hW.out _).mono ?_;rintro r X2 ⟨rfl,rfl⟩;go_wp2_with fail;refine(hCd.out _ _ h.out).mono ?_;rintro r X3 ⟨rfl,e1⟩;replace hB:=ζ (hB.out.trans (h.out.bl e1).2);replace h:=ζ (h.out.bl e1).1;clear e1;have h5:=ζ (h.out.new #[.int .u64 d.b,.int .u64 d.e,.int .u64 d.c,.int .u8 d.p,.int .i64 d.s] 73);go_upto_region 3 with fail
   refine wp_world (fun X=>MIn B X a P s (boxOb X3.heap.size #[.int .u64 d.b,.int .u64 d.e,.int .u64 d.c,.int .u8 d.p,.int .i64 d.s]::boxOb kb #[.int .u64 c.b,.int .u64 c.e,.int .u64 c.c,.int .u8 c.p,.int .i64 c.s]::l)∧Below B w X) ⟨h5.out.1,hB.out.trans h5.out.2⟩ ?_;clear h5 h hB;rintro X4 ⟨h,hB⟩;generalize X3.heap.size=k5 at*;have⟨_,p5,_⟩:=h.there (boxOb k5 #[.int .u64 d.b,.int .u64 d.e,.int .u64 d.c,.int .u8 d.p,.int .i64 d.s]) (.head _);have⟨_,p0,_⟩:=h.there (boxOb kb #[.int .u64 c.b,.int .u64 c.e,.int .u64 c.c,.int .u8 c.p,.int .i64 c.s]) (.tail _ (.head _));replace h:=ζ h;replace hB:=ζ hB;go_wp2_with fail;go_ret;exact⟨rfl,h.out.drop.drop,hB.out⟩
  ·rw[if_neg h1];have hF:=ζ (fail_any 8);simp only[NtV,pan]at hF ⊢;by_cases q1:(n:Int)*8≤o
   ·have q3:decide ((n:Int)*8≤o)=true:=by simpa using q1
    clear h1;go_enter Tryz.func102,Tryz.ntmps102;go_upto_region 1 with fail
    refine wp_world (fun W=>MIn B W a P s (boxOb w.heap.size #[.int .u64 c.b,.int .u64 c.e,.int .u64 c.c,.int .u8 c.p,.int .i64 c.s]::l)∧Below B w W) h2.out ?_;clear h2;rintro W ⟨h,hB⟩;generalize w.heap.size=kb at*;have⟨_,p0,_⟩:=h.there (boxOb kb #[.int .u64 c.b,.int .u64 c.e,.int .u64 c.c,.int .u8 c.p,.int .i64 c.s]) (.head _);replace h:=ζ h;replace hB:=ζ hB;go_wp2_with fail;refine(hA.out _).mono ?_;rintro r X1 ⟨rfl,e1⟩;replace hB:=ζ (hB.out.trans (h.out.bl e1).2);replace h:=ζ (h.out.bl e1).1;clear e1 p0;go_wp2_with fail;refine(hW.out _).mono ?_;rintro r X2 ⟨rfl,rfl⟩;go_wp2_with fail;refine(hCd.out _ _ h.out).mono ?_;rintro r X3 ⟨rfl,e1⟩;replace hB:=ζ (hB.out.trans (h.out.bl e1).2);replace h:=ζ (h.out.bl e1).1;clear e1;have h5:=ζ (h.out.new #[.int .u64 d.b,.int .u64 d.e,.int .u64 d.c,.int .u8 d.p,.int .i64 d.s] 73);go_upto_region 3 with fail
    refine wp_world (fun X=>MIn B X a P s (boxOb X3.heap.size #[.int .u64 d.b,.int .u64 d.e,.int .u64 d.c,.int .u8 d.p,.int .i64 d.s]::boxOb kb #[.int .u64 c.b,.int .u64 c.e,.int .u64 c.c,.int .u8 c.p,.int .i64 c.s]::l)∧Below B w X) ⟨h5.out.1,hB.out.trans h5.out.2⟩ ?_;clear h5 h hB;rintro X4 ⟨h,hB⟩;generalize X3.heap.size=k5 at*;have⟨_,p5,_⟩:=h.there (boxOb k5 #[.int .u64 d.b,.int .u64 d.e,.int .u64 d.c,.int .u8 d.p,.int .i64 d.s]) (.head _);have⟨_,p0,_⟩:=h.there (boxOb kb #[.int .u64 c.b,.int .u64 c.e,.int .u64 c.c,.int .u8 c.p,.int .i64 c.s]) (.tail _ (.head _));replace h:=ζ h;replace hB:=ζ hB;go_wp2_with(refine(hF.out _).mono ?_;rintro r X9 ⟨rfl,rfl⟩);exact⟨rfl,rfl,h.out.drop.drop,hB.out⟩
   ·have q3:decide ((n:Int)*8≤o)=false:=by simpa using q1
    have q5:(o%8 != 0)=true:=by simp;omega
    clear h1;go_enter Tryz.func102,Tryz.ntmps102;go_upto_region 1 with fail
    refine wp_world (fun W=>MIn B W a P s (boxOb w.heap.size #[.int .u64 c.b,.int .u64 c.e,.int .u64 c.c,.int .u8 c.p,.int .i64 c.s]::l)∧Below B w W) h2.out ?_;clear h2;rintro W ⟨h,hB⟩;generalize w.heap.size=kb at*;have⟨_,p0,_⟩:=h.there (boxOb kb #[.int .u64 c.b,.int .u64 c.e,.int .u64 c.c,.int .u8 c.p,.int .i64 c.s]) (.head _);replace h:=ζ h;replace hB:=ζ hB;go_wp2_with fail;refine(hA.out _).mono ?_;rintro r X1 ⟨rfl,e1⟩;replace hB:=ζ (hB.out.trans (h.out.bl e1).2);replace h:=ζ (h.out.bl e1).1;clear e1 p0;go_wp2_with fail;refine(hW.out _).mono ?_;rintro r X2 ⟨rfl,rfl⟩;go_wp2_with fail;refine(hCd.out _ _ h.out).mono ?_;rintro r X3 ⟨rfl,e1⟩;replace hB:=ζ (hB.out.trans (h.out.bl e1).2);replace h:=ζ (h.out.bl e1).1;clear e1;have h5:=ζ (h.out.new #[.int .u64 d.b,.int .u64 d.e,.int .u64 d.c,.int .u8 d.p,.int .i64 d.s] 73);go_upto_region 3 with fail
    refine wp_world (fun X=>MIn B X a P s (boxOb X3.heap.size #[.int .u64 d.b,.int .u64 d.e,.int .u64 d.c,.int .u8 d.p,.int .i64 d.s]::boxOb kb #[.int .u64 c.b,.int .u64 c.e,.int .u64 c.c,.int .u8 c.p,.int .i64 c.s]::l)∧Below B w X) ⟨h5.out.1,hB.out.trans h5.out.2⟩ ?_;clear h5 h hB;rintro X4 ⟨h,hB⟩;generalize X3.heap.size=k5 at*;have⟨_,p5,_⟩:=h.there (boxOb k5 #[.int .u64 d.b,.int .u64 d.e,.int .u64 d.c,.int .u8 d.p,.int .i64 d.s]) (.head _);have⟨_,p0,_⟩:=h.there (boxOb kb #[.int .u64 c.b,.int .u64 c.e,.int .u64 c.c,.int .u8 c.p,.int .i64 c.s]) (.tail _ (.head _));replace h:=ζ h;replace hB:=ζ hB;go_wp2_with(refine(hF.out _).mono ?_;rintro r X9 ⟨rfl,rfl⟩);exact⟨rfl,rfl,h.out.drop.drop,hB.out⟩
 ·rw[if_neg h0];have hW:=ζ (fun X=>allow_bad f X h0);simp only[NtV,pan]at hW ⊢;go_enter Tryz.func102,Tryz.ntmps102;go_upto_region 1 with fail
  refine wp_world (fun W=>MIn B W a P s (boxOb w.heap.size #[.int .u64 c.b,.int .u64 c.e,.int .u64 c.c,.int .u8 c.p,.int .i64 c.s]::l)∧Below B w W) h2.out ?_;clear h2;rintro W ⟨h,hB⟩;generalize w.heap.size=kb at*;have⟨_,p0,_⟩:=h.there (boxOb kb #[.int .u64 c.b,.int .u64 c.e,.int .u64 c.c,.int .u8 c.p,.int .i64 c.s]) (.head _);replace h:=ζ h;replace hB:=ζ hB;go_wp2_with fail;refine(hA.out _).mono ?_;rintro r X1 ⟨rfl,e1⟩;replace hB:=ζ (hB.out.trans (h.out.bl e1).2);replace h:=ζ (h.out.bl e1).1;clear e1 p0;go_wp2_with(refine(hW.out _).mono ?_;rintro r X2 ⟨rfl,rfl⟩);exact⟨rfl,rfl,h.out.drop,hB.out⟩
theorem steer25 (B:Nat)(W0:World)(a:Nat)(P:PImg)(s:Ms)(l:List Ob)(A B_ C_:Nat)(m:Int)(h:MIn B W0 a P s l)(hP:POk P)(hg:s.at_.gate<P.gates.length)(hA:A<16)(hp:s.at_.pc<1000000000)(hm:0≤m∧m<(codeOf P (kOf P s.at_.gate)).length):
 Calls Tryz.prog 68 #[.pointer (some ⟨a,0,none⟩),insA 25 A B_ C_ m] W0 fun x w'=>Dv B W0 a P s l (.ok (s.put A (ofC (ccap P (kOf P s.at_.gate) m.toNat))).next) x w':=by
 have h2:=ζ (h.new #[.int .u8 25,.int .i64 A,.int .i64 B_,.int .i64 C_,.int .i64 m] 29);have hCd:=ζ (fun X l' (q:MIn B X a P s l')=>codeCap_any B a P s l' X q hP hg m.toNat (by omega));rw[show ((m.toNat:Nat):Int)=m by omega]at hCd;generalize ccap P (kOf P s.at_.gate) m.toNat=d at*;have hLy:=ζ (fun X l' (q:MIn B X a P s l')=>lay_any B a A (ofC d) P _ _ X q hA hp);have hc2:=ζ (fun X=>(capability_any d.b d.e d.c d.p d.s X).mono (R':=fun x w'=>x=.returned (.agg #[.bool true,.int .u64 0,.int .u64 d.b,.int .u64 d.e,.int .u64 d.c,.int .u8 d.p,.int .i64 d.s])∧Bl X w') (by rintro x w' ⟨rfl,rfl⟩;exact⟨rfl,((Bl.refl _).alloc _).alloc _⟩));unfold Cp.val at hCd;have e0:(ofC d).agg=.agg #[.bool true,.int .u64 0,.int .u64 d.b,.int .u64 d.e,.int .u64 d.c,.int .u8 d.p,.int .i64 d.s]:=rfl;rw[e0]at hLy;clear h e0 hm;simp only[Dv];unfold insA;go_enter Tryz.func68,Tryz.ntmps68;go_upto_region 1 with fail
 refine wp_world (fun W=>MIn B W a P s (boxOb W0.heap.size #[.int .u8 25,.int .i64 A,.int .i64 B_,.int .i64 C_,.int .i64 m]::l)∧Below B W0 W) h2.out ?_;clear h2;rintro W ⟨h,hB⟩;generalize W0.heap.size=kb at*;have⟨_,p0,_⟩:=h.there (boxOb kb #[.int .u8 25,.int .i64 A,.int .i64 B_,.int .i64 C_,.int .i64 m]) (.head _);replace h:=ζ h;replace hB:=ζ hB;go_upto_region 10 with fail
 clear p0;replace hB:=ζ (hB.out.trans (h.out.bl (Bl.refl W).drew).2);replace h:=ζ (h.out.bl (Bl.refl W).drew).1;refine wp_region_held_drew (S:=(fun X=>X.cell? ⟨kb,1,none⟩=some (.int .i64 A)∧X.cell? ⟨kb,4,none⟩=some (.int .i64 m))) (by kernel_rfl) (⟨(h.out.there (boxOb kb #[.int .u8 25,.int .i64 A,.int .i64 B_,.int .i64 C_,.int .i64 m]) (.head _)).2.1 1,(h.out.there (boxOb kb #[.int .u8 25,.int .i64 A,.int .i64 B_,.int .i64 C_,.int .i64 m]) (.head _)).2.1 4⟩) (fun hHeld=>?_);generalize W.drew=X0 at*;refine xz 0 rfl (h:=xz 1 rfl (h:=xz 2 rfl (h:=xz 3 rfl (h:=xz 4 rfl (h:=xz 5 rfl (h:=?_))))));try simp only[xap]
 refine xrd 6 rfl (fun K hK=>?_);go_simp;go_wp2_with(refine(hCd.out _ _ h.out).mono ?_;rintro r Y1 ⟨rfl,e1⟩;replace hB:=ζ (hB.out.trans (h.out.bl e1).2);replace h:=ζ (h.out.bl e1).1;clear e1 hHeld);refine hK.out _ _ ⟨(h.out.there (boxOb kb #[.int .u8 25,.int .i64 A,.int .i64 B_,.int .i64 C_,.int .i64 m]) (.head _)).2.1 1,(h.out.there (boxOb kb #[.int .u8 25,.int .i64 A,.int .i64 B_,.int .i64 C_,.int .i64 m]) (.head _)).2.1 4⟩ (fun hHeld=>?_);clear hK K;try simp only[xap]
 refine xrd 7 rfl (fun K hK=>?_);go_simp;go_wp2_with(refine(hc2.out _).mono ?_;rintro r Y2 ⟨rfl,e1⟩;replace hB:=ζ (hB.out.trans (h.out.bl e1).2);replace h:=ζ (h.out.bl e1).1;clear e1 hHeld);refine hK.out _ _ ⟨(h.out.there (boxOb kb #[.int .u8 25,.int .i64 A,.int .i64 B_,.int .i64 C_,.int .i64 m]) (.head _)).2.1 1,(h.out.there (boxOb kb #[.int .u8 25,.int .i64 A,.int .i64 B_,.int .i64 C_,.int .i64 m]) (.head _)).2.1 4⟩ (fun hHeld=>?_);clear hK K;try simp only[xap]
 refine xrd 8 rfl (fun K hK=>?_);go_simp;go_wp2_with(refine(hLy.out _ _ h.out).mono ?_;rintro r Y3 ⟨rfl,h6,hB6⟩;replace hB:=ζ (hB.out.trans hB6);replace h:=ζ h6;clear h6 hB6 hHeld);refine hK.out _ _ ⟨(h.out.there (boxOb kb #[.int .u8 25,.int .i64 A,.int .i64 B_,.int .i64 C_,.int .i64 m]) (.head _)).2.1 1,(h.out.there (boxOb kb #[.int .u8 25,.int .i64 A,.int .i64 B_,.int .i64 C_,.int .i64 m]) (.head _)).2.1 4⟩ (fun hHeld=>?_);clear hK K;try simp only[xap]
 refine xdn ?_ _;clear hHeld;go_wp2_with fail
 first|go_end0|((try simp only[Exit.inBlock,Exit.then]);refine xre ?_)
 exact⟨rfl,h.out.drop,hB.out⟩
theorem steer26 (B:Nat)(W0:World)(a:Nat)(P:PImg)(s:Ms)(l:List Ob)(A B_ C_:Nat)(m:Int)(h:MIn B W0 a P s l)(hP:POk P)(hg:s.at_.gate<P.gates.length)(hA:A<16):
 Calls Tryz.prog 68 #[.pointer (some ⟨a,0,none⟩),insA 26 A B_ C_ m] W0 fun x w'=>Dv B W0 a P s l (goR s (tgtR P (kOf P s.at_.gate) (s.at_.regs A))) x w':=by
 have h2:=ζ (h.new #[.int .u8 26,.int .i64 A,.int .i64 B_,.int .i64 C_,.int .i64 m] 29);have hTg:=ζ (fun X l' (q:MIn B X a P s l')=>target_any B a P s l' (s.at_.regs A).c X q hP hg);rw[tgtR_eq]
 cases hq:(s.at_.regs A).g with
 |false=>
  have hHd:=ζ (fun X l' (q:MIn B X a P s l')=>held_badB a A (s.at_.regs A) X (q.rg A hA) hq);rw[if_neg (by decide)];simp only[goR,Dv,pan]at hHd ⊢;clear hTg hq;unfold insA;go_enter Tryz.func68,Tryz.ntmps68;go_upto_region 1 with fail
  refine wp_world (fun W=>MIn B W a P s (boxOb W0.heap.size #[.int .u8 26,.int .i64 A,.int .i64 B_,.int .i64 C_,.int .i64 m]::l)∧Below B W0 W) h2.out ?_;clear h2;rintro W ⟨h,hB⟩;generalize W0.heap.size=kb at*;have⟨_,p0,_⟩:=h.there (boxOb kb #[.int .u8 26,.int .i64 A,.int .i64 B_,.int .i64 C_,.int .i64 m]) (.head _);replace h:=ζ h;replace hB:=ζ hB;go_upto_region 12 with fail
  go_wp2_with(refine(hHd.out _ _ h.out).mono ?_;rintro r X1 ⟨rfl,e1⟩);exact⟨rfl,rfl,(h.out.bl e1).1.drop,hB.out.trans (h.out.bl e1).2⟩
 |true=>
  have hHd:=ζ (fun X l' (q:MIn B X a P s l')=>held_okB a A (s.at_.regs A) X (q.rg A hA) hq);rw[if_pos rfl];clear hq h;generalize (s.at_.regs A).c=c at*;unfold Cp.val at hHd hTg
  cases hq:tgtC P (kOf P s.at_.gate) c with
  |error e=>
   rw[hq]at hTg;simp only[NtV,goR,Dv,pan]at hTg ⊢;clear hq;unfold insA;go_enter Tryz.func68,Tryz.ntmps68;go_upto_region 1 with fail
   refine wp_world (fun W=>MIn B W a P s (boxOb W0.heap.size #[.int .u8 26,.int .i64 A,.int .i64 B_,.int .i64 C_,.int .i64 m]::l)∧Below B W0 W) h2.out ?_;clear h2;rintro W ⟨h,hB⟩;generalize W0.heap.size=kb at*;have⟨_,p0,_⟩:=h.there (boxOb kb #[.int .u8 26,.int .i64 A,.int .i64 B_,.int .i64 C_,.int .i64 m]) (.head _);replace h:=ζ h;replace hB:=ζ hB;go_upto_region 12 with fail
   go_wp2_with fail;refine(hHd.out _ _ h.out).mono ?_;rintro r X1 ⟨rfl,e1⟩;replace hB:=ζ (hB.out.trans (h.out.bl e1).2);replace h:=ζ (h.out.bl e1).1;clear e1 p0;go_wp2_with(refine(hTg.out _ _ h.out).mono ?_;rintro r X2 ⟨rfl,h3,hB3⟩);exact⟨rfl,rfl,h3.drop,hB.out.trans hB3⟩
  |ok k=>
   rw[hq]at hTg;simp only[NtV,goR,Dv]at hTg ⊢;clear hq;unfold insA;go_enter Tryz.func68,Tryz.ntmps68;go_upto_region 1 with fail
   refine wp_world (fun W=>MIn B W a P s (boxOb W0.heap.size #[.int .u8 26,.int .i64 A,.int .i64 B_,.int .i64 C_,.int .i64 m]::l)∧Below B W0 W) h2.out ?_;clear h2;rintro W ⟨h,hB⟩;generalize W0.heap.size=kb at*;have⟨_,p0,_⟩:=h.there (boxOb kb #[.int .u8 26,.int .i64 A,.int .i64 B_,.int .i64 C_,.int .i64 m]) (.head _);replace h:=ζ h;replace hB:=ζ hB;go_upto_region 12 with fail
   go_wp2_with fail;refine(hHd.out _ _ h.out).mono ?_;rintro r X1 ⟨rfl,e1⟩;replace hB:=ζ (hB.out.trans (h.out.bl e1).2);replace h:=ζ (h.out.bl e1).1;clear e1 p0;go_wp2_with fail;refine(hTg.out _ _ h.out).mono ?_;rintro r X2 ⟨rfl,h3,hB3⟩;replace hB:=ζ (hB.out.trans hB3);obtain⟨_,c6,_,_,_,fr⟩:=h3.cell;have hlt:=h3.alt;have hq:=ζ (h3.setPc k);clear h3 h hB3;go_wp2_with fail
   first|go_end0|((try simp only[Exit.inBlock,Exit.then]);refine xre ?_)
   exact⟨rfl,hq.out.1.drop,hB.out.trans hq.out.2⟩
theorem MIn.pushO {B:Nat}{W:World}{a:Nat}{P:PImg}{s:Ms}{l:List Ob}(h:MIn B W a P s l)(n:Nat)(cs:Array Value)(kb:Nat)(hkb:boxOb kb cs∈l):∃ta tk,W.cell? ⟨a,121,none⟩=some (.slice ta s.out.length tk)∧(∀V,Bl W V→V.ownsRow B 25 1 (.slice ta s.out.length tk) s.out.length (s.out.map u64I))∧∀V W2 g cap,Bl W V→W2.ownsRow B 25 1 (.slice (some ⟨g,0,none⟩) (s.out.length+1) cap) (s.out.length+1) (s.out.map u64I++[Value.int .u64 (n:Int)])→V.grownBy W2 (Value.slice ta s.out.length tk).ownBlock→((Value.slice ta s.out.length tk).ownBlock=some g∨g=V.heap.size)→
 (∃u,W2.cell? ⟨a,121,none⟩=some u)∧W2.frozen? ⟨a,121,none⟩=false∧At W2 kb cs∧MIn B (W2.setCell ⟨a,121,none⟩ (.slice (some ⟨g,0,none⟩) (s.out.length+1) cap)) a P {s with out:=s.out++[(n:Int)]} l∧Below B W (W2.setCell ⟨a,121,none⟩ (.slice (some ⟨g,0,none⟩) (s.out.length+1) cap)):=by
 obtain⟨⟨q,h1,hpg⟩,le⟩:=h;have hb:Bx W a (rowOf P s q):=h1.ins (bx_ a (rowOf P s q)) (by simp[obs]);have hO:W.ownsRow B 25 1 q.ov_ s.out.length (s.out.map u64I):=h1.ins (ouOb B q.ov_ s.out) (by simp[obs]);obtain⟨ta,tk,etv⟩:=own_slZ hO;refine⟨ta,tk,by rw[←etv];exact hb.at_ 121 _ (mRow_at 2),fun V g=>by rw[←etv];exact own_keep hO (Kp.of_below (S:=fun _=>False) g) (fun _ _ r=>r),fun V W2 g cap g1 k1 k2 k3=>?_⟩;rw[←etv]at k2 k3;have r:=MIn.app_out (n:Int) (h1.gr g1) hpg (Nat.le_trans le g1.size) k1 k2 k3;exact⟨⟨_,r.1.at_ 121 _ (mRow_at 2)⟩,r.1.fr 121,r.2.1 _ hkb,r.2.2.1,(Below.mono g1 le).trans r.2.2.2⟩
theorem steer30 (B:Nat)(W0:World)(a:Nat)(P:PImg)(s:Ms)(l:List Ob)(A B_ C_:Nat)(m:Int)(h:MIn B W0 a P s l)(hA:A<16)(hp:s.at_.pc<1000000000)(hl:s.out.length≤1000000):
 Calls Tryz.prog 68 #[.pointer (some ⟨a,0,none⟩),insA 30 A B_ C_ m] W0 fun x w'=>Dv B W0 a P s l (outM s A) x w':=by
 have h2:=ζ (h.new #[.int .u8 30,.int .i64 A,.int .i64 B_,.int .i64 C_,.int .i64 m] 29);unfold outM;generalize hxs:s.out.map u64I=xs
 cases hq:(s.at_.regs A).g with
 |true=>
  have h1:=ζ (fun X l' (q:MIn B X a P s l')=>number_badB a A (s.at_.regs A) X (q.rg A hA) hq);rw[if_pos rfl];simp only[Dv,pan]at h1 ⊢;generalize (s.at_.regs A).n=n at*;clear hq h;unfold insA;go_enter Tryz.func68,Tryz.ntmps68;go_upto_region 1 with fail
  refine wp_world (fun W=>MIn B W a P s (boxOb W0.heap.size #[.int .u8 30,.int .i64 A,.int .i64 B_,.int .i64 C_,.int .i64 m]::l)∧Below B W0 W) h2.out ?_;clear h2;rintro W ⟨h,hB⟩;generalize W0.heap.size=kb at*;have⟨_,p0,_⟩:=h.there (boxOb kb #[.int .u8 30,.int .i64 A,.int .i64 B_,.int .i64 C_,.int .i64 m]) (.head _);replace h:=ζ h;replace hB:=ζ hB;go_upto_region 20 with fail
  clear p0;generalize W=Y2 at*;have hleY:=h.out.le;have halt:=h.out.alt;obtain⟨ta,tk,c121, -, -⟩:=h.out.pushO 0 #[.int .u8 30,.int .i64 A,.int .i64 B_,.int .i64 C_,.int .i64 m] kb (.head _);have f0:Bl Y2 Y2.drew:=(Bl.refl Y2).drew;refine wp_region_held_drew (S:=(fun X=>X.cell? ⟨kb,1,none⟩=some (.int .i64 A))) (by kernel_rfl) (((h.out.gr f0).there (boxOb kb #[.int .u8 30,.int .i64 A,.int .i64 B_,.int .i64 C_,.int .i64 m]) (.head _)).2.1 1) (fun hHeld=>?_);refine xz 0 rfl (h:=xz 1 rfl (h:=xz 2 rfl (h:=xz 3 rfl (h:=xz 5 rfl (h:=xz 6 rfl (h:=xz 7 rfl (h:=?_)))))));try simp only[xap]
  refine wpAnyH_ready (rs:=[4,8]) (by kernel_rfl) (by simp) ?_;refine(xcn rfl (fun K hK=>?_) (xcn rfl (fun K hK=>?_) AllReadyH.nil))
  ·skip
   have c9:=(f0.cell (p:=⟨a,121,none⟩) halt).trans c121;go_simp;clear hHeld;refine hK.out _ _ (((h.out.gr f0).there (boxOb kb #[.int .u8 30,.int .i64 A,.int .i64 B_,.int .i64 C_,.int .i64 m]) (.head _)).2.1 1) (fun hHeld=>?_);clear hK K c9;try simp only[xap]
   refine xrd 8 rfl (fun K hK=>?_);go_simp;go_wp2_with(refine(h1.out _ _ (h.out.gr f0)).mono ?_;rintro r Y1 ⟨rfl,e1⟩);exact⟨rfl,rfl,(h.out.gr (f0.trans e1)).drop,hB.out.trans (Below.mono (f0.trans e1) hleY)⟩
  ·skip
   go_simp;go_wp2_with(refine(h1.out _ _ (h.out.gr f0)).mono ?_;rintro r Y1 ⟨rfl,e1⟩);exact⟨rfl,rfl,(h.out.gr (f0.trans e1)).drop,hB.out.trans (Below.mono (f0.trans e1) hleY)⟩
 |false=>
  have h1:=ζ (fun X l' (q:MIn B X a P s l')=>number_okB a A (s.at_.regs A) X (q.rg A hA) hq);rw[if_neg (by decide)];simp only[Dv];generalize (s.at_.regs A).n=n at*;clear hq h;unfold insA;go_enter Tryz.func68,Tryz.ntmps68;go_upto_region 1 with fail
  refine wp_world (fun W=>MIn B W a P s (boxOb W0.heap.size #[.int .u8 30,.int .i64 A,.int .i64 B_,.int .i64 C_,.int .i64 m]::l)∧Below B W0 W) h2.out ?_;clear h2;rintro W ⟨h,hB⟩;generalize W0.heap.size=kb at*;have⟨_,p0,_⟩:=h.there (boxOb kb #[.int .u8 30,.int .i64 A,.int .i64 B_,.int .i64 C_,.int .i64 m]) (.head _);replace h:=ζ h;replace hB:=ζ hB;go_upto_region 20 with fail
  clear p0;generalize W=Y2 at*;have hleY:=h.out.le;have halt:=h.out.alt;obtain⟨ta,tk,c121,hO2,hap⟩:=h.out.pushO n #[.int .u8 30,.int .i64 A,.int .i64 B_,.int .i64 C_,.int .i64 m] kb (.head _);rw[hxs]at hO2 hap;replace hO2:=ζ hO2;replace hap:=ζ hap;have f0:Bl Y2 Y2.drew:=(Bl.refl Y2).drew;refine wp_region_held_drew (S:=(fun X=>X.cell? ⟨kb,1,none⟩=some (.int .i64 A))) (by kernel_rfl) (((h.out.gr f0).there (boxOb kb #[.int .u8 30,.int .i64 A,.int .i64 B_,.int .i64 C_,.int .i64 m]) (.head _)).2.1 1) (fun hHeld=>?_);refine xz 0 rfl (h:=xz 1 rfl (h:=xz 2 rfl (h:=xz 3 rfl (h:=xz 5 rfl (h:=xz 6 rfl (h:=xz 7 rfl (h:=?_)))))));try simp only[xap]
  refine wpAnyH_ready (rs:=[4,8]) (by kernel_rfl) (by simp) ?_;refine(xcn rfl (fun K hK=>?_) (xcn rfl (fun K hK=>?_) AllReadyH.nil))
  ·skip
   have c9:=(f0.cell (p:=⟨a,121,none⟩) halt).trans c121;go_simp;clear hHeld;refine hK.out _ _ (((h.out.gr f0).there (boxOb kb #[.int .u8 30,.int .i64 A,.int .i64 B_,.int .i64 C_,.int .i64 m]) (.head _)).2.1 1) (fun hHeld=>?_);clear hK K c9;try simp only[xap]
   refine xrd 8 rfl (fun K hK=>?_);go_simp;go_wp2_with(refine(h1.out _ _ (h.out.gr f0)).mono ?_;rintro r Q1 ⟨rfl,e1⟩;have f1:=f0.trans e1;clear e1 f0 hHeld);refine hK.out _ _ (((h.out.gr f1).there (boxOb kb #[.int .u8 30,.int .i64 A,.int .i64 B_,.int .i64 C_,.int .i64 m]) (.head _)).2.1 1) (fun hHeld=>?_);clear hK K;try simp only[xap]
   refine xrd 9 rfl (fun K hK=>?_);go_simp;clear hHeld;have hX:At (Q1.alloc (.cells #[.int .u64 (n:Int)] 25)) (Q1.heap.size) #[.int .u64 (n:Int)]:=At.new Q1 _ _;have f2:Bl Y2 (Q1.alloc (.cells #[.int .u64 (n:Int)] 25)):=f1.alloc _;generalize hVV:Q1.alloc (.cells #[.int .u64 (n:Int)] 25)=Q2 at*;clear hVV f1;obtain⟨kX,hkX⟩:∃kX,Q1.heap.size=kX:=⟨_,rfl⟩;rw[hkX]at hX ⊢;clear hkX;replace hX:=ζ hX;refine hK.out _ _ (((h.out.gr f2).there (boxOb kb #[.int .u8 30,.int .i64 A,.int .i64 B_,.int .i64 C_,.int .i64 m]) (.head _)).2.1 1) (fun hHeld=>?_);clear hK K;try simp only[xap]
   refine xrd 10 rfl (fun K hK=>?_);refine wp_append_z _ _ 46 25 (.int .u64 0) 1 8 rfl Tryz.underlying46 (by kernel_rfl) (by kernel_rfl) (by decide) (by decide) B (.slice ta s.out.length tk) s.out.length xs [Value.int .u64 (n:Int)] (by rfl) (hO2.out Q2 f2) kX (by rfl) hX.out rfl (by simp[Value.oneCell']) hl (Nat.le_trans hleY f2.size) ?_;intro g9 cap9 W9 k1 k2 k3;obtain⟨⟨u,cu⟩,fu,hR9,hM9,hBe⟩:=hap.out Q2 W9 g9 cap9 f2 k1 k2 k3;replace hM9:=ζ hM9;replace hR9:=ζ hR9;clear k1 k2 k3 hHeld;have hlt9:=World.block_lt_of_cell? W9 _ cu;refine hK.out _ _ (hR9.out.2.1 1) (fun hHeld=>?_);clear hK K;try simp only[xap]
   refine xz 11 rfl (h:=xz 12 rfl (h:=?_));try simp only[xap]
   refine xrd 13 rfl (fun K hK=>?_);go_simp;clear hHeld;refine hK.out _ _ ((hM9.out.there (boxOb kb #[.int .u8 30,.int .i64 A,.int .i64 B_,.int .i64 C_,.int .i64 m]) (.head _)).2.1 1) (fun hHeld=>?_);clear hK K;try simp only[Act.put]
   refine xdn ?_ _;clear hHeld cu fu hR9 hlt9;replace hB:=ζ (hB.out.trans hBe);generalize World.setCell _ _ _=Y9 at*;clear h hX hap hO2;have hnx:=ζ (next_any B a P {s with out:=s.out++[(n:Int)]} _ Y9 hM9.out hp);go_wp2_with fail;refine hnx.out.mono ?_;rintro r Y10 ⟨rfl,h,hB2⟩;replace hB:=ζ (hB.out.trans hB2);replace h:=ζ h;clear hB2 hM9 hnx;go_wp2_with fail
   first|go_end0|((try simp only[Exit.inBlock,Exit.then]);refine xre ?_)
   exact⟨rfl,h.out.drop,hB.out⟩
  ·skip
   go_simp;go_wp2_with(refine(h1.out _ _ (h.out.gr f0)).mono ?_;rintro r Q1 ⟨rfl,e1⟩;have f1:=f0.trans e1;clear e1 f0 hHeld);refine hK.out _ _ (((h.out.gr f1).there (boxOb kb #[.int .u8 30,.int .i64 A,.int .i64 B_,.int .i64 C_,.int .i64 m]) (.head _)).2.1 1) (fun hHeld=>?_);clear hK K;try simp only[xap]
   refine wpAnyH_ready (rs:=[4,9]) (by kernel_rfl) (by simp) ?_;refine(xcn rfl (fun K hK=>?_) (xcn rfl (fun K hK=>?_) AllReadyH.nil))
   ·skip
    have c9:=(f1.cell (p:=⟨a,121,none⟩) halt).trans c121;go_simp;clear hHeld;refine hK.out _ _ (((h.out.gr f1).there (boxOb kb #[.int .u8 30,.int .i64 A,.int .i64 B_,.int .i64 C_,.int .i64 m]) (.head _)).2.1 1) (fun hHeld=>?_);clear hK K c9;try simp only[xap]
    refine xrd 9 rfl (fun K hK=>?_);go_simp;clear hHeld;have hX:At (Q1.alloc (.cells #[.int .u64 (n:Int)] 25)) (Q1.heap.size) #[.int .u64 (n:Int)]:=At.new Q1 _ _;have f2:Bl Y2 (Q1.alloc (.cells #[.int .u64 (n:Int)] 25)):=f1.alloc _;generalize hVV:Q1.alloc (.cells #[.int .u64 (n:Int)] 25)=Q2 at*;clear hVV f1;obtain⟨kX,hkX⟩:∃kX,Q1.heap.size=kX:=⟨_,rfl⟩;rw[hkX]at hX ⊢;clear hkX;replace hX:=ζ hX;refine hK.out _ _ (((h.out.gr f2).there (boxOb kb #[.int .u8 30,.int .i64 A,.int .i64 B_,.int .i64 C_,.int .i64 m]) (.head _)).2.1 1) (fun hHeld=>?_);clear hK K;try simp only[xap]
    refine xrd 10 rfl (fun K hK=>?_);refine wp_append_z _ _ 46 25 (.int .u64 0) 1 8 rfl Tryz.underlying46 (by kernel_rfl) (by kernel_rfl) (by decide) (by decide) B (.slice ta s.out.length tk) s.out.length xs [Value.int .u64 (n:Int)] (by rfl) (hO2.out Q2 f2) kX (by rfl) hX.out rfl (by simp[Value.oneCell']) hl (Nat.le_trans hleY f2.size) ?_;intro g9 cap9 W9 k1 k2 k3;obtain⟨⟨u,cu⟩,fu,hR9,hM9,hBe⟩:=hap.out Q2 W9 g9 cap9 f2 k1 k2 k3;replace hM9:=ζ hM9;replace hR9:=ζ hR9;clear k1 k2 k3 hHeld;have hlt9:=World.block_lt_of_cell? W9 _ cu;refine hK.out _ _ (hR9.out.2.1 1) (fun hHeld=>?_);clear hK K;try simp only[xap]
    refine xz 11 rfl (h:=xz 12 rfl (h:=?_));try simp only[xap]
    refine xrd 13 rfl (fun K hK=>?_);go_simp;clear hHeld;refine hK.out _ _ ((hM9.out.there (boxOb kb #[.int .u8 30,.int .i64 A,.int .i64 B_,.int .i64 C_,.int .i64 m]) (.head _)).2.1 1) (fun hHeld=>?_);clear hK K;try simp only[Act.put]
    refine xdn ?_ _;clear hHeld cu fu hR9 hlt9;replace hB:=ζ (hB.out.trans hBe);generalize World.setCell _ _ _=Y9 at*;clear h hX hap hO2;have hnx:=ζ (next_any B a P {s with out:=s.out++[(n:Int)]} _ Y9 hM9.out hp);go_wp2_with fail;refine hnx.out.mono ?_;rintro r Y10 ⟨rfl,h,hB2⟩;replace hB:=ζ (hB.out.trans hB2);replace h:=ζ h;clear hB2 hM9 hnx;go_wp2_with fail
    first|go_end0|((try simp only[Exit.inBlock,Exit.then]);refine xre ?_)
    exact⟨rfl,h.out.drop,hB.out⟩
   ·skip
    go_simp;clear hHeld;have hX:At (Q1.alloc (.cells #[.int .u64 (n:Int)] 25)) (Q1.heap.size) #[.int .u64 (n:Int)]:=At.new Q1 _ _;have f2:Bl Y2 (Q1.alloc (.cells #[.int .u64 (n:Int)] 25)):=f1.alloc _;generalize hVV:Q1.alloc (.cells #[.int .u64 (n:Int)] 25)=Q2 at*;clear hVV f1;obtain⟨kX,hkX⟩:∃kX,Q1.heap.size=kX:=⟨_,rfl⟩;rw[hkX]at hX ⊢;clear hkX;replace hX:=ζ hX;refine hK.out _ _ (((h.out.gr f2).there (boxOb kb #[.int .u8 30,.int .i64 A,.int .i64 B_,.int .i64 C_,.int .i64 m]) (.head _)).2.1 1) (fun hHeld=>?_);clear hK K;try simp only[xap]
    refine xrd 4 rfl (fun K hK=>?_);have c9:=(f2.cell (p:=⟨a,121,none⟩) halt).trans c121;go_simp;clear hHeld;refine hK.out _ _ (((h.out.gr f2).there (boxOb kb #[.int .u8 30,.int .i64 A,.int .i64 B_,.int .i64 C_,.int .i64 m]) (.head _)).2.1 1) (fun hHeld=>?_);clear hK K c9;try simp only[xap]
    refine xrd 10 rfl (fun K hK=>?_);refine wp_append_z _ _ 46 25 (.int .u64 0) 1 8 rfl Tryz.underlying46 (by kernel_rfl) (by kernel_rfl) (by decide) (by decide) B (.slice ta s.out.length tk) s.out.length xs [Value.int .u64 (n:Int)] (by rfl) (hO2.out Q2 f2) kX (by rfl) hX.out rfl (by simp[Value.oneCell']) hl (Nat.le_trans hleY f2.size) ?_;intro g9 cap9 W9 k1 k2 k3;obtain⟨⟨u,cu⟩,fu,hR9,hM9,hBe⟩:=hap.out Q2 W9 g9 cap9 f2 k1 k2 k3;replace hM9:=ζ hM9;replace hR9:=ζ hR9;clear k1 k2 k3 hHeld;have hlt9:=World.block_lt_of_cell? W9 _ cu;refine hK.out _ _ (hR9.out.2.1 1) (fun hHeld=>?_);clear hK K;try simp only[xap]
    refine xz 11 rfl (h:=xz 12 rfl (h:=?_));try simp only[xap]
    refine xrd 13 rfl (fun K hK=>?_);go_simp;clear hHeld;refine hK.out _ _ ((hM9.out.there (boxOb kb #[.int .u8 30,.int .i64 A,.int .i64 B_,.int .i64 C_,.int .i64 m]) (.head _)).2.1 1) (fun hHeld=>?_);clear hK K;try simp only[Act.put]
    refine xdn ?_ _;clear hHeld cu fu hR9 hlt9;replace hB:=ζ (hB.out.trans hBe);generalize World.setCell _ _ _=Y9 at*;clear h hX hap hO2;have hnx:=ζ (next_any B a P {s with out:=s.out++[(n:Int)]} _ Y9 hM9.out hp);go_wp2_with fail;refine hnx.out.mono ?_;rintro r Y10 ⟨rfl,h,hB2⟩;replace hB:=ζ (hB.out.trans hB2);replace h:=ζ h;clear hB2 hM9 hnx;go_wp2_with fail
    first|go_end0|((try simp only[Exit.inBlock,Exit.then]);refine xre ?_)
    exact⟨rfl,h.out.drop,hB.out⟩
open T (Sep Ob Kp Mf TgIn boxOb Fm Tc Ed Vl Cp Bx tgOb mRow updV flt ofI)
theorem ins_agg (P:PImg)(k:Nat)(i:Ins)(hi:IOk P k i):i.agg=insA i.op i.a.toNat i.b.toNat i.c.toNat i.m:=by
 have h1:=hi.ra;have h2:=hi.rb;have h3:=hi.rc;unfold Ins.agg insA;rw[Int.toNat_of_nonneg h1.1,Int.toNat_of_nonneg h2.1,Int.toNat_of_nonneg h3.1]
section
variable (B:Nat) (W0:World) (a:Nat) (P:PImg) (s:Ms) (l:List Ob) (n:Nat)
theorem steer_any (hP:POk P)(h:MIn B W0 a P s l)(ok:Okm P n s)(hn:n≤1000000)(op:Int)(A B_ C_:Nat)(m:Int)(hA:A<16)(hB:B_<16)(hop:20≤op∧op≤32)(hp:s.at_.pc<1000000000)
 (tg:20≤op∧op≤25→0≤m∧m<(codeOf P (kOf P s.at_.gate)).length)(cl:op=31→0≤m∧m<P.gates.length):
 Calls Tryz.prog 68 #[.pointer (some ⟨a,0,none⟩),insA op A B_ C_ m] W0 fun x w'=>Dv B W0 a P s l (strM P s op A B_ m) x w':=by
 have hg:=ok.f.g;have hst:s.st.length≤1000000:=by have:=ok.dp;have:=hP.dp;omega
 have ho:op=20∨op=21∨op=22∨op=23∨op=24∨op=25∨op=26∨op=27∨op=28∨op=29∨op=30∨op=31∨op=32:=by omega
 rcases ho with rfl|rfl|rfl|rfl|rfl|rfl|rfl|rfl|rfl|rfl|rfl|rfl|rfl
 ·obtain⟨t1,_⟩:=tg (by decide);obtain⟨k,rfl⟩:∃k:Nat,m=k:=⟨m.toNat,by omega⟩;exact steer20 B W0 a P s l A B_ C_ k h
 ·obtain⟨t1,_⟩:=tg (by decide);obtain⟨k,rfl⟩:∃k:Nat,m=k:=⟨m.toNat,by omega⟩;exact steer21 B W0 a P s l A B_ C_ k _ h (fun X l' q=>branch_any B X a P s l' 21 A B_ C_ k q hA hB hp (.inl rfl))
 ·obtain⟨t1,_⟩:=tg (by decide);obtain⟨k,rfl⟩:∃k:Nat,m=k:=⟨m.toNat,by omega⟩;exact steer22 B W0 a P s l A B_ C_ k _ h (fun X l' q=>branch_any B X a P s l' 22 A B_ C_ k q hA hB hp (.inr (.inl rfl)))
 ·obtain⟨t1,_⟩:=tg (by decide);obtain⟨k,rfl⟩:∃k:Nat,m=k:=⟨m.toNat,by omega⟩;exact steer23 B W0 a P s l A B_ C_ k _ h (fun X l' q=>branch_any B X a P s l' 23 A B_ C_ k q hA hB hp (.inr (.inr (.inl rfl))))
 ·obtain⟨t1,_⟩:=tg (by decide);obtain⟨k,rfl⟩:∃k:Nat,m=k:=⟨m.toNat,by omega⟩;exact steer24 B W0 a P s l A B_ C_ k _ h (fun X l' q=>branch_any B X a P s l' 24 A B_ C_ k q hA hB hp (.inr (.inr (.inr rfl))))
 ·exact steer25 B W0 a P s l A B_ C_ m h hP hg hA hp (tg (by decide))
 ·exact steer26 B W0 a P s l A B_ C_ m h hP hg hA
 ·show Calls Tryz.prog _ _ _ fun x w'=>Dv B W0 a P s l (haltM s A) x w'
  unfold haltM
  cases hq:(s.at_.regs A).g with
  |true=>rw[if_pos rfl];exact steer27_b B W0 a P s l A B_ C_ m h hA hq
  |false=>rw[if_neg (by decide)];exact steer27_ok B W0 a P s l A B_ C_ m h hA hq
 ·exact steer28 B W0 a P s l A B_ C_ m h
 ·refine steer29 B W0 a P s l A B_ C_ m _ h (fun X l' q=>?_);show Calls Tryz.prog _ _ _ fun x w'=>Dv B X a P s l' (inM s A) x w'
  unfold inM;have hI:=ok.inp
  cases hi:s.inp with
  |nil=>exact takeIn_none B X a P s l' A q hi
  |cons x L=>
   rw[hi]at hI;exact takeIn_some B X a P s l' A x L q hi (by have:=hI.1;simp at this;omega) (hI.2 x (.head _)).1 hA hp
 ·exact steer30 B W0 a P s l A B_ C_ m h hA hp (by have:=ok.out;omega)
 ·obtain⟨t1,t2⟩:=cl rfl;obtain⟨k,rfl⟩:∃k:Nat,m=k:=⟨m.toNat,by omega⟩;exact steer31 B W0 a P s l A B_ C_ k _ h (fun X l' q=>call_any B X a P s l' k q hP (by omega) hp hst)
 ·exact steer32 B W0 a P s l A B_ C_ m _ h (fun X l' q=>ret_any B X a P s l' q hP hg hst)
theorem do_any (hP:POk P)(h:MIn B W0 a P s l)(ok:Okm P n s)(hn:n≤1000000)(i:Ins)(hi:IOk P (kOf P s.at_.gate) i):
 Calls Tryz.prog 39 #[.pointer (some ⟨a,0,none⟩),i.agg] W0 fun x w'=>Dv B W0 a P s l (insM P s i.op i.a.toNat i.b.toNat i.c.toNat i.m) x w':=by
 rw[ins_agg P _ i hi];have hA:i.a.toNat<16:=by have:=hi.ra;omega
 have hB:i.b.toNat<16:=by have:=hi.rb;omega
 have hp:s.at_.pc<1000000000:=by have:=ok.f.pc;have:=(hP.code (kOf P s.at_.gate)).1;omega
 have htou:s.tou.length≤1000000:=by have:=ok.tou;omega
 have hC:i.op<70→i.c.toNat<16:=fun q=>by have:=hi.rc2 q;have:=hi.rc;omega
 have tg:=hi.tg;have cl:=hi.cl;have hop:=hi.op;unfold insM;generalize i.a.toNat=A at*;generalize i.b.toNat=B_ at*;generalize i.c.toNat=C_ at*;generalize i.m=m at*;generalize i.op=op at*;rcases hop with ho|ho|ho|ho|ho|ho
 ·rw[if_pos (by omega)];exact do_num B W0 a P s l op A B_ C_ m h hA hB (hC (by omega)) hp (ok.f.r C_).n ho
 ·rw[if_neg (by omega),if_pos (by omega)];exact do_steer B W0 a P s l op A B_ C_ m _ h (by omega) (fun X l' q=>steer_any B X a P s l' n hP q ok hn op A B_ C_ m hA hB ho hp tg cl)
 ·rw[if_neg (by omega),if_neg (by omega),if_pos (by omega)];exact do_cap B W0 a P s l op A B_ C_ m h hA hB (hC (by omega)) hp (by have:=(ok.f.r B_).c.s.2;omega) ho
 ·rw[if_neg (by omega),if_neg (by omega),if_neg (by omega),if_pos (by omega)];exact do_ask B W0 a P s l op A B_ C_ m h hA hB (hC (by omega)) hp (fun x q=>(ask_in (ok.f.r B_) q).1) ho
 ·rw[if_neg (by omega),if_neg (by omega),if_neg (by omega),if_neg (by omega),if_pos (by omega)];exact do_touch B W0 a P s l op A B_ C_ m _ h (by omega) (fun X l' q=>touch_any B X a P s l' op A B_ C_ m q hA hB hp htou (ok.f.r A).c.c.1 ho)
 ·rw[if_neg (by omega),if_neg (by omega),if_neg (by omega),if_neg (by omega),if_neg (by omega)];exact do_guard B W0 a P s l op A B_ C_ m _ h (by omega) (fun X l' q=>guard_any B X a P s l' op A B_ C_ m q hA hp ho)
end
structure Goes (B a:Nat)(P:PImg)(s s':Ms)(iv:Value):Prop where
 fe:∀W l,MIn B W a P s l→Calls Tryz.prog 40 #[.pointer (some ⟨a,0,none⟩)] W fun x w'=>x=.returned iv∧Bl W w'
 go:∀W l,MIn B W a P s l→Calls Tryz.prog 39 #[.pointer (some ⟨a,0,none⟩),iv] W fun x w'=>x=.returned (.tuple #[])∧MIn B w' a P s' l∧Below B W w'
structure Ends (B a:Nat)(P:PImg)(s:Ms)(e:Ed)(iv:Value):Prop where
 fe:∀W l,MIn B W a P s l→Calls Tryz.prog 40 #[.pointer (some ⟨a,0,none⟩)] W fun x w'=>x=.returned iv∧Bl W w'
 go:∀W l,MIn B W a P s l→Calls Tryz.prog 39 #[.pointer (some ⟨a,0,none⟩),iv] W fun x w'=>x=pan e∧MIn B w' a P s l∧Below B W w'
def Off (B a:Nat)(P:PImg)(s:Ms)(e:Ed):Prop:=∀W l,MIn B W a P s l→Calls Tryz.prog 40 #[.pointer (some ⟨a,0,none⟩)] W fun x w'=>x=pan e∧Bl W w'
section
variable {B a:Nat} {P:PImg} {s s':Ms} {n:Nat}
theorem fetch_some (hP:POk P)(ok:Okm P n s){i:Ins}(hi:(codeOf P (kOf P s.at_.gate))[s.at_.pc]?=some i):∀W l,MIn B W a P s l→Calls Tryz.prog 40 #[.pointer (some ⟨a,0,none⟩)] W fun x w'=>x=.returned i.agg∧Bl W w':=fun W l h=>by
 obtain⟨k1,k2,_,_⟩:=hP.kl _ ok.f.g;rw[codeOf_at P _ k1]at hi;obtain⟨hp,e⟩:=List.getElem?_eq_some_iff.1 hi;rw[←e];exact fetch_ok B a P s l _ W h ok.f.g k2 k1 hp
theorem goes_of (hP:POk P)(ok:Okm P n s)(hn:n≤1000000)(hq:stepM P s=.ok s'):∃iv,Goes B a P s s' iv:=by
 unfold stepM at hq
 split at hq
 ·cases hq
 ·rename_i i hi
  refine⟨i.agg,fetch_some hP ok hi,fun W l h=>?_⟩;have:=do_any B W a P s l n hP h ok hn i ((hP.code _).2 i (List.mem_of_getElem? hi));rw[hq]at this;exact this
theorem ends_of (hP:POk P)(ok:Okm P n s)(hn:n≤1000000){e:Ed}(hq:stepM P s=.error e):Off B a P s e∨∃iv,Ends B a P s e iv:=by
 unfold stepM at hq
 split at hq
 ·rename_i hi
  injection hq with hq
  subst hq;refine .inl (fun W l h=>?_);obtain⟨k1,k2,_,_⟩:=hP.kl _ ok.f.g;rw[codeOf_at P _ k1]at hi;exact fetch_bad B a P s l _ W h ok.f.g k2 k1 (by simpa using hi)
 ·rename_i i hi
  refine .inr ⟨i.agg,fetch_some hP ok hi,fun W l h=>?_⟩;have:=do_any B W a P s l n hP h ok hn i ((hP.code _).2 i (List.mem_of_getElem? hi));rw[hq]at this;exact this
end
end C
end Go.Proofs.YtkhbiaaangnkdaaGreatDoor
