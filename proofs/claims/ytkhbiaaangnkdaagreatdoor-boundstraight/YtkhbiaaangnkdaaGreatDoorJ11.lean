import Derived.Test.YtkhbiaaangnkdaaGreatDoorJ10
import Derived.Test.YtkhbiaaangnkdaaGreatDoorJ07
import Derived.Test.YtkhbiaaangnkdaaGreatDoorJ09
namespace Go.Proofs.YtkhbiaaangnkdaaGreatDoor
set_option maxRecDepth 100000
set_option maxHeartbeats 40000000
open Go.RowKit
theorem codeF_at {L:List Ins}{j:Nat}{n g:Int}(h:j<L.length):codeF n g (L.drop j)=if L[j].right=0 then(if tgtB L[j].op L[j].m n g then codeF n g (L.drop (j+1))else 48)else L[j].right:=by
 rw[List.drop_eq_getElem_cons h,codeF]
theorem codeRight_any (L:List Ins)(gates:Int)(c:Nat)(a:Option Addr)(w:World)(ht:TabIn w)(hL:LIn w.heap.size w a L)(ho:OpsIn L)(hl:L.length≤140737488355328):
 Calls Tryz.prog 51 #[.slice a L.length c,.int .i64 gates] w fun x w'=>x=.returned (.int .i64 (codeR L gates))∧Gr w w':=by
 replace hL:=Hid.mk hL;unfold codeR;by_cases h1:L.length<1
 ·rw[if_pos (.inl h1)];have h1':(L.length:Int)<1:=by omega
  go_enter Tryz.func51,Tryz.ntmps51;go_wp2_with fail;go_ret;exact⟨rfl,Gr.refl _⟩
 by_cases h2:400<L.length
 ·rw[if_pos (.inr h2)];have h1':¬(L.length:Int)<1:=by omega
  have h2':(400:Int)<L.length:=by omega
  go_enter Tryz.func51,Tryz.ntmps51;go_wp2_with fail;go_ret;exact⟨rfl,Gr.refl _⟩
 rw[if_neg (by omega)];have h1':¬(L.length:Int)<1:=by omega
 have h2':¬(400:Int)<L.length:=by omega
 generalize hR:codeF L.length gates L=R;go_enter Tryz.func51,Tryz.ntmps51;go_wp2_with fail;go_loopw [18] (fun i wr=>∃j:Nat,i=.int .i64 j∧j≤L.length∧Hid (codeF L.length gates (L.drop j)=R∧Gr w wr)) (fun i _=>L.length - (intOf i).toNat)
 case atStart=>exact⟨0,rfl,by omega,⟨hR,Gr.refl w⟩⟩
 case round=>
  clear hR;obtain⟨j,rfl,hj,⟨hf,hG⟩⟩:=hrel;by_cases hlt:j<L.length
  ·have jl:(j:Int)<L.length:=by omega
   obtain⟨b,off,rfl,hb,hb2,c0,c1,c2,c3,c4⟩:=hL.out.below hG.below j hlt;rw[codeF_at hlt]at hf;have hop:=ho L[j] (List.getElem_mem hlt);generalize L[j]=k at*;have hR:=fun w ht=>Right_any k.op k.a k.b k.c k.m w ht hop.1 hop.2
   have hT:=fun w=>targetThere_any k L.length gates w hop.1 hop.2
   have hR2:k.right=rightF k.op k.a k.b k.c k.m:=rfl;rw[←hR2]at hR;clear hR2;generalize tgtB k.op k.m L.length gates=tb at hf hT;generalize k.right=kr at hf hR;replace hf:=Hid.mk hf;have htr:TabIn wr:=ht.gr hG;replace hG:=Hid.mk hG;go_wp2_with fail;refine(hR _ (htr.gr ((Gr.refl wr).alloc _))).mono ?_;rintro x w2 ⟨rfl,hG2⟩;have A1:At w2 wr.heap.size #[.int .u8 k.op,.int .i64 k.a,.int .i64 k.b,.int .i64 k.c,.int .i64 k.m]:=(At.new wr _ _).gr hG2;replace hG:=hG.out.trans hG2.of_alloc;clear hG2;replace hG:=Hid.mk hG;have⟨z1,q1,_⟩:=A1;by_cases hk:kr=0
   ·have e0:(kr != 0)=false:=by simpa using hk
    replace hk:=Hid.mk hk
    cases tb
    all_goals
     go_wp2_with fail;refine(hT _).mono ?_;rintro x w3 ⟨rfl,hG3⟩;replace hG:=hG.out.trans hG3;clear hG3 z1 q1 A1;replace hG:=Hid.mk hG;go_wp2_with fail
    ·go_ret;exact⟨retI (by rw[←hf.out,if_pos hk.out];simp),hG.out⟩
    ·go_roundw
     case rel=>exact⟨j+1,by simp,by omega,⟨by rw[←hf.out,if_pos hk.out];simp,hG.out⟩⟩
     case measure=>simp[intOf];omega
   ·have e0:(kr != 0)=true:=by simpa using hk
    replace hk:=Hid.mk hk;go_wp2_with fail;go_ret;exact⟨retI (by rw[←hf.out,if_neg hk.out]),hG.out⟩
  ·have jl:¬(j:Int)<L.length:=by omega
   rw[drop_end hlt,codeF]at hf;replace hf:=Hid.mk hf;replace hG:=Hid.mk hG;go_wp2_with fail;go_ret;exact⟨retI hf.out,hG.out⟩
theorem compsR_at {L:List PComp}{j:Nat}{g:Int}(h:j<L.length):compsR g (L.drop j)=if rootsR L[j].roots 7 then(if codeR L[j].code g=0 then compsR g (L.drop (j+1))else codeR L[j].code g)else 46:=by
 rw[List.drop_eq_getElem_cons h,compsR]
theorem gatesR_at {M:List PComp}{L:List PGate}{j:Nat}(h:j<L.length):gatesR M (L.drop j)=if hasI M L[j].c L[j].e&&decide (L[j].args.length≤7)&&decide (L[j].res.length≤7)then(if typesR L[j].args&&typesR L[j].res then gatesR M (L.drop (j+1))else 44)else 47:=by
 rw[List.drop_eq_getElem_cons h,gatesR]
theorem compsRight_any (m:PImg)(ra ca ga:Option Addr)(rn rc cc gc:Nat)(w:World)(ht:TabIn w)(hc:CompIn w.heap.size w ca m.comps)(hr:m.comps.length≤maxG∧∀c∈m.comps,c.Rng)(hg:m.gates.length≤maxG):
 Calls Tryz.prog 30 #[.agg #[.slice ra rn rc,.slice ca m.comps.length cc,.slice ga m.gates.length gc,.int .i64 m.depth]] w fun x w'=>x=.returned (.int .i64 (compsR m.gates.length m.comps))∧Gr w w':=by
 obtain⟨hl,hr⟩:=hr;have hl1:m.comps.length≤140737488355328:=hl;have hg1:m.gates.length≤140737488355328:=hg;replace hc:=Hid.mk hc;replace hr:=Hid.mk hr;clear hl hg;generalize hR:compsR m.gates.length m.comps=R;go_enter Tryz.func30,Tryz.ntmps30;go_wp2_with fail;go_loopw [9] (fun i wr=>∃j:Nat,i=.int .i64 j∧j≤m.comps.length∧Hid (compsR m.gates.length (m.comps.drop j)=R∧Gr w wr∧At wr w.heap.size #[.slice ra rn rc,.slice ca m.comps.length cc,.slice ga m.gates.length gc,.int .i64 m.depth])) (fun i _=>m.comps.length - (intOf i).toNat)
 case atStart=>exact⟨0,rfl,by omega,⟨hR,(Gr.refl w).alloc _,At.new _ _ _⟩⟩
 case round=>
  clear hR;obtain⟨j,rfl,hj,⟨hf,hG,A0⟩⟩:=hrel;by_cases hlt:j<m.comps.length
  ·have jl:(j:Int)<m.comps.length:=by omega
   obtain⟨b,off,ra',rc',ka,kc,rfl,hb,hb2,c0,c1,hrt,hcd⟩:=hc.out.below hG.below j hlt;obtain⟨g1,g2,g3,_⟩:=hr.out m.comps[j] (List.getElem_mem hlt);rw[compsR_at hlt]at hf;generalize m.comps[j]=k at*;have hgr:∀W,Gr w W→TabIn W:=fun W h=>ht.gr h
   have rr:=fun W (h:FIn 6 PRoot.vals W.heap.size W ra' k.roots)=>rootsRight_any k.roots rc' ra' W h (by unfold maxG at g1;omega)
   have rk:=fun W (h1:TabIn W) (h:LIn W.heap.size W ka k.code)=>codeRight_any k.code m.gates.length kc ka W h1 h g3 (by unfold maxI at g2;omega)
   generalize rootsR k.roots 7=q1 at*;generalize codeR k.code m.gates.length=q2 at*;replace hf:=Hid.mk hf;replace hgr:=Hid.mk hgr;replace hcd:=Hid.mk hcd;have hws:=gr_size hG
   cases q1
   all_goals
    replace hG:=Hid.mk hG;go_wp2_with fail;refine(rr _ ((hrt.below (w1:=wr.alloc _) (((Gr.refl wr).alloc _).below.mono hws)).mono (by simp;omega))).mono ?_;rintro x w2 ⟨rfl,hG2⟩;have A1:At w2 wr.heap.size #[.slice ra' k.roots.length rc',.slice ka k.code.length kc]:=(At.new wr _ _).gr hG2;replace A0:=(A0.alloc _).gr hG2;replace hcd:=Hid.mk (hcd.out.below (w1:=w2) (hG2.of_alloc.below.mono hws));replace hG:=Hid.mk (hG.out.trans hG2.of_alloc);clear hG2;have⟨z1,q1,_⟩:=A1;have⟨z0,q0,_⟩:=A0;go_wp2_with fail
   ·go_ret;exact⟨retI (by rw[←hf.out];simp),hG.out⟩
   ·refine(rk _ (hgr.out _ hG.out) (hcd.out.mono (gr_size hG.out))).mono ?_;rintro x w3 ⟨rfl,hG2⟩;clear z1 q1 z0 q0 A1;replace A0:=A0.gr hG2;replace hG:=Hid.mk (hG.out.trans hG2);clear hG2;by_cases hk:q2=0
    ·have e0:(q2 != 0)=false:=by simpa using hk
     replace hk:=Hid.mk hk;go_wp2_with fail;go_roundw
     case rel=>exact⟨j+1,by simp,by omega,⟨by rw[←hf.out,if_pos hk.out];simp,hG.out,A0⟩⟩
     case measure=>simp[intOf];omega
    ·have e0:(q2 != 0)=true:=by simpa using hk
     replace hk:=Hid.mk hk;go_wp2_with fail;go_ret;exact⟨retI (by rw[←hf.out,if_neg hk.out];simp),hG.out⟩
  ·have jl:¬(j:Int)<m.comps.length:=by omega
   rw[drop_end hlt,compsR]at hf;replace hf:=Hid.mk hf;replace hG:=Hid.mk hG;go_wp2_with fail;go_ret;exact⟨retI hf.out,hG.out⟩
theorem gatesRight_any (m:PImg)(ra ca ga:Option Addr)(rn rc cc gc:Nat)(w:World)(hc:CompIn w.heap.size w ca m.comps)(hga:GateIn w.heap.size w ga m.gates)(hr:m.gates.length≤maxG∧∀g∈m.gates,g.Rng):
 Calls Tryz.prog 31 #[.agg #[.slice ra rn rc,.slice ca m.comps.length cc,.slice ga m.gates.length gc,.int .i64 m.depth]] w fun x w'=>x=.returned (.int .i64 (gatesR m.comps m.gates))∧Gr w w':=by
 obtain⟨hl,hr⟩:=hr;have hl1:m.gates.length≤140737488355328:=hl;replace hc:=Hid.mk hc;replace hga:=Hid.mk hga;replace hr:=Hid.mk hr;clear hl;generalize hR:gatesR m.comps m.gates=R;go_enter Tryz.func31,Tryz.ntmps31;go_wp2_with fail;go_loopw [8] (fun i wr=>∃j:Nat,i=.int .i64 j∧j≤m.gates.length∧Hid (gatesR m.comps (m.gates.drop j)=R∧Gr w wr∧At wr w.heap.size #[.slice ra rn rc,.slice ca m.comps.length cc,.slice ga m.gates.length gc,.int .i64 m.depth])) (fun i _=>m.gates.length - (intOf i).toNat)
 case atStart=>exact⟨0,rfl,by omega,⟨hR,(Gr.refl w).alloc _,At.new _ _ _⟩⟩
 case round=>
  clear hR;obtain⟨j,rfl,hj,⟨hf,hG,A0⟩⟩:=hrel;by_cases hlt:j<m.gates.length
  ·have jl:(j:Int)<m.gates.length:=by omega
   obtain⟨b,off,xa,xc,ya,yc,rfl,hb,hb2,c0,c1,c2,c3,hx,hy⟩:=hga.out.below hG.below j hlt;obtain⟨_,_,g1,g2,_,_⟩:=hr.out m.gates[j] (List.getElem_mem hlt);rw[gatesR_at hlt]at hf;generalize m.gates[j]=k at*;have hh:=fun W (h:CompIn W.heap.size W ca m.comps)=>hasInst_any m k.c k.e ra ca (some ⟨b,off,none⟩) rn rc cc m.gates.length gc W h
   have ra1:=fun W (h:FIn 7 PTyp.vals W.heap.size W xa k.args)=>typesRight_any k.args xc xa W h (by unfold maxG at g1;omega)
   have ra2:=fun W (h:FIn 7 PTyp.vals W.heap.size W ya k.res)=>typesRight_any k.res yc ya W h (by unfold maxG at g2;omega)
   generalize hasI m.comps k.c k.e=q0 at*;generalize typesR k.args=q1 at*;generalize typesR k.res=q2 at*;have hws:=gr_size hG;have hcr:CompIn w.heap.size (wr.alloc (.cells #[.int .i64 k.c,.int .i64 k.e,.slice xa k.args.length xc,.slice ya k.res.length yc] 36)) ca m.comps:=hc.out.below (hG.alloc _).below;have⟨z0,q9,_⟩:=A0;replace hf:=Hid.mk hf;replace hcr:=Hid.mk hcr;replace hx:=Hid.mk hx;replace hy:=Hid.mk hy;replace hG:=Hid.mk hG;go_wp2_with fail;refine(hh _ (hcr.out.mono (by simp;omega))).mono ?_;rintro x w2 ⟨rfl,hG2⟩;clear z0 q9;have A1:At w2 wr.heap.size #[.int .i64 k.c,.int .i64 k.e,.slice xa k.args.length xc,.slice ya k.res.length yc]:=(At.new wr _ _).gr hG2;replace A0:=(A0.alloc _).gr hG2;replace hx:=Hid.mk (hx.out.below (w1:=w2) (hG2.of_alloc.below.mono hws));replace hy:=Hid.mk (hy.out.below (w1:=w2) (hG2.of_alloc.below.mono hws));replace hG:=Hid.mk (hG.out.trans hG2.of_alloc);clear hG2 hcr hh c0 c1 c2 c3
   have⟨z1,p1,_⟩:=A1;by_cases bad:q0=false∨7<k.args.length∨7<k.res.length
   ·have hf2:(47:Int)=R:=by
     rw[←hf.out];rcases bad with h|h|h
     ·rw[h];simp
     ·rw[decide_eq_false (show ¬k.args.length≤7 by omega)];simp
     ·rw[decide_eq_false (show ¬k.res.length≤7 by omega)];simp
    clear hf;replace hf2:=Hid.mk hf2
    cases q0
    ·clear bad;go_wp2_with fail;go_ret;exact⟨retI hf2.out,hG.out⟩
    ·by_cases k1:7<k.args.length
     ·have k1':(7:Int)<k.args.length:=by omega
      clear bad;go_wp2_with fail;go_ret;exact⟨retI hf2.out,hG.out⟩
     ·have k1':¬(7:Int)<k.args.length:=by omega
      have k2:(7:Int)<k.res.length:=by
       rcases bad with h|h|h
       ·cases h
       ·omega
       ·omega
      clear bad;go_wp2_with fail;go_ret;exact⟨retI hf2.out,hG.out⟩
   ·obtain rfl:q0=true:=by
     cases q0
     ·exact absurd (.inl rfl) bad
     ·rfl
    have k1:¬(7:Int)<k.args.length:=by omega
    have k2:¬(7:Int)<k.res.length:=by omega
    have hf2:(if q1&&q2 then gatesR m.comps (m.gates.drop (j+1))else 44)=R:=by
     rw[←hf.out,decide_eq_true (show k.args.length≤7 by omega),decide_eq_true (show k.res.length≤7 by omega)];simp
    clear hf bad;replace hf2:=Hid.mk hf2;go_wp2_with fail;refine(ra1 _ (hx.out.mono (gr_size hG.out))).mono ?_;rintro x w3 ⟨rfl,hG2⟩;clear z1 p1;replace A0:=A0.gr hG2;replace A1:=A1.gr hG2;replace hy:=Hid.mk (hy.out.below (w1:=w3) (hG2.below.mono (gr_size hG.out)));replace hG:=Hid.mk (hG.out.trans hG2);clear hG2 hx ra1;have⟨z1,p1,_⟩:=A1
    cases q1
    ·go_wp2_with fail;go_ret;exact⟨retI (by rw[←hf2.out];simp),hG.out⟩
    go_wp2_with fail;refine(ra2 _ (hy.out.mono (gr_size hG.out))).mono ?_;rintro x w4 ⟨rfl,hG2⟩;clear z1 p1 A1;replace A0:=A0.gr hG2;replace hG:=Hid.mk (hG.out.trans hG2);clear hG2 hy ra2
    cases q2
    ·go_wp2_with fail;go_ret;exact⟨retI (by rw[←hf2.out];simp),hG.out⟩
    ·go_wp2_with fail;go_roundw
     case rel=>exact⟨j+1,by simp,by omega,⟨by rw[←hf2.out];simp,hG.out,A0⟩⟩
     case measure=>simp[intOf];omega
  ·have jl:¬(j:Int)<m.gates.length:=by omega
   rw[drop_end hlt,gatesR]at hf;replace hf:=Hid.mk hf;replace hG:=Hid.mk hG;go_wp2_with fail;go_ret;exact⟨retI hf.out,hG.out⟩
theorem imgRight_any (m:PImg)(ra ca ga:Option Addr)(rc cc gc:Nat)(w:World)(ht:TabIn w)(hm:ImgIn w.heap.size w ra ca ga m)(hr:m.Rng):
 Calls Tryz.prog 15 #[.agg #[.slice ra m.regs.length rc,.slice ca m.comps.length cc,.slice ga m.gates.length gc,.int .i64 m.depth]] w fun x w'=>x=.returned (.int .i64 m.right)∧Gr w w':=by
 have h1:=countsRight_any m.depth ra ca ga m.regs.length rc m.comps.length cc m.gates.length gc;have h2:=fun W (h:RegIn W.heap.size W ra m.regs)=>regionsRight_any m.regs rc ra W h hr.regs.2 hr.regs.1
 have h3:=fun W (h0:TabIn W) (h:CompIn W.heap.size W ca m.comps)=>compsRight_any m ra ca ga m.regs.length rc cc gc W h0 h hr.comps hr.gates.1
 have h4:=fun W (h:CompIn W.heap.size W ca m.comps) (h':GateIn W.heap.size W ga m.gates)=>gatesRight_any m ra ca ga m.regs.length rc cc gc W h h' hr.gates
 unfold PImg.right;generalize countsB m.regs.length m.comps.length m.gates.length m.depth=q1 at*;generalize regsR m.regs 0=q2 at*;generalize compsR m.gates.length m.comps=q3 at*;generalize gatesR m.comps m.gates=q4 at*;have hI:∀W,Gr w W→ImgIn W.heap.size W ra ca ga m:=fun W h=>(hm.below h.below).mono (gr_size h)
 have hT:∀W,Gr w W→TabIn W:=fun W h=>ht.gr h
 replace hI:=Hid.mk hI;replace hT:=Hid.mk hT;clear hm hr
 cases q1
 ·go_enter Tryz.func15,Tryz.ntmps15;go_wp2_with fail;refine(h1 _).mono ?_;rintro x w1 ⟨rfl,hG⟩;replace hG:=hG.of_alloc;go_wp2_with fail;go_ret;exact⟨rfl,hG⟩
 rw[if_pos rfl];generalize hR:(if q2=0 then(if q3=0 then q4 else q3)else q2)=R;replace hR:=Hid.mk hR;go_enter Tryz.func15,Tryz.ntmps15;go_wp2_with fail;refine(h1 _).mono ?_;rintro x w1 ⟨rfl,hG⟩;have A0:At w1 w.heap.size #[.slice ra m.regs.length rc,.slice ca m.comps.length cc,.slice ga m.gates.length gc,.int .i64 m.depth]:=(At.new _ _ _).gr hG;replace hG:=hG.of_alloc;have⟨z0,p0,_⟩:=A0;go_wp2_with fail;refine(h2 _ (hI.out _ hG).regs).mono ?_;rintro x w2 ⟨rfl,hG2⟩;clear z0 p0;replace A0:=A0.gr hG2;replace hG:=hG.trans hG2;clear hG2;have⟨z0,p0,_⟩:=A0;by_cases e2:q2=0
 ·have e2':(q2 != 0)=false:=by simpa using e2
  replace e2:=Hid.mk e2;go_wp2_with fail;refine(h3 _ (hT.out _ hG) (hI.out _ hG).comps).mono ?_;rintro x w3 ⟨rfl,hG2⟩;clear z0 p0;replace A0:=A0.gr hG2;replace hG:=hG.trans hG2;clear hG2;have⟨z0,p0,_⟩:=A0;by_cases e3:q3=0
  ·have e3':(q3 != 0)=false:=by simpa using e3
   replace e3:=Hid.mk e3;go_wp2_with fail;refine(h4 _ (hI.out _ hG).comps (hI.out _ hG).gates).mono ?_;rintro x w4 ⟨rfl,hG2⟩;replace hG:=hG.trans hG2;go_wp2_with fail;go_ret;exact⟨retI (by rw[←hR.out,if_pos e2.out,if_pos e3.out]),hG⟩
  ·have e3':(q3 != 0)=true:=by simpa using e3
   replace e3:=Hid.mk e3;go_wp2_with fail;go_ret;exact⟨retI (by rw[←hR.out,if_pos e2.out,if_neg e3.out]),hG⟩
 ·have e2':(q2 != 0)=true:=by simpa using e2
  replace e2:=Hid.mk e2;go_wp2_with fail;go_ret;exact⟨retI (by rw[←hR.out,if_neg e2.out]),hG⟩
namespace F
open T
open Classical in
noncomputable def rchB (L:List Ins) (E:List Int) (out:Int) (q:Nat):Bool:=decide (Rch L E out q)
theorem rchB_iff {L:List Ins}{E:List Int}{out:Int}{q:Nat}:rchB L E out q=true↔Rch L E out q:=by simp[rchB]
def boolA (n:Nat)(f:Nat→Bool):Array Value:=((List.range n).map fun k=>Value.bool (f k)).toArray
theorem boolA_congr {n:Nat}{f g:Nat→Bool}(h:∀k,k<n→f k=g k):boolA n f=boolA n g:=by
 unfold boolA
 congr 1
 apply List.map_congr_left;intro k hk;rw[h k (List.mem_range.1 hk)]
theorem Reached_any (L:List Ins)(E:List Int)(cc ec:Nat)(ca ea:Option Addr)(w:World)(hL:LIn w.heap.size w ca L)(hE:NIn w.heap.size w ea E)(hnil:NilOk ea E.length ec)(hn:L.length<2000000)(he:E.length≤4000000):
 Calls Tryz.prog 42 #[.slice ca L.length cc,.slice ea E.length ec] w fun e w'=>∃g,e=.returned (.slice (some ⟨g,0,none⟩) L.length L.length)∧w.heap.size≤g∧At w' g (boolA L.length (rchB L E (-1)))∧Below w.heap.size w w':=by
 have hC:=comeTo_any L E cc ec ca ea (-1) w hL hE hnil hn he;have hT:=fun X s W (h:SIn W X L.length s)=>truths_any X L.length s W h hn
 replace hC:=Hid.mk hC;replace hT:=Hid.mk hT;replace hL:=Hid.mk hL;replace hE:=Hid.mk hE;replace hnil:=Hid.mk hnil;go_enter Tryz.func42,Tryz.ntmps42;go_wp2_with(first|(go_at_call 75;refine hC.out.mono ?_;rintro x w1 ⟨X,s,rfl,a1,a2,a3,a4⟩;replace a1:=Hid.mk a1;replace a3:=Hid.mk a3;replace a4:=Hid.mk a4)|(go_at_call 76;refine(hT.out X s _ a1.out).mono ?_;rintro x w2 ⟨g,rfl,b1,b2,b3⟩;replace b2:=Hid.mk b2;replace b3:=Hid.mk b3));go_ret;refine⟨g,rfl,Nat.le_trans a3.out.size b1,?_,a3.out.trans (b3.out.mono a3.out.size)⟩;have e:boolA L.length (rchB L E (-1))=boolA L.length s:=boolA_congr (fun k hk=>by
  have:=a4.out k hk;have hk1:¬(k:Int)= -1:=by omega
  simp only[hk1,or_false]at this
  cases h:s k
  ·cases h2:rchB L E (-1) k
   ·rfl
   ·rw[rchB_iff]at h2;rw[this.2 h2]at h
    cases h
  ·exact rchB_iff.2 (this.1 h))
 rw[e];exact b2.out
noncomputable def domB (L:List Ins) (E:List Int) (a b:Int):Bool:=
 thB L.length a&&thB L.length b&&(decide (a=b) || !rchB L E (-1) b.toNat || !rchB L E a b.toNat)
end F
namespace Bd
open T (Kp)
open F (thB nxtI folB IOwn own_slice own_nin rchB boolA)
structure BOk (P:PImg):Prop where
 gates:∀g (h:g<P.gates.length),∃(k:Nat) (hk:k<P.comps.length),P.gates[g].c=(k:Int)∧0≤P.gates[g].e∧P.gates[g].e<(P.comps[k].code.length:Int)
 code:∀k (hk:k<P.comps.length),P.comps[k].code.length≤400∧CallOk P.comps[k].code P.gates.length
 gl:P.gates.length≤16
theorem code_mem {c g:Int}:∀(L:List Ins),codeF c g L=0→∀i∈L,i.right=0∧tgtB i.op i.m c g=true
 |[],_=>fun i hi=>by cases hi
 |k::l,h=>by
  unfold codeF at h
  split at h
  ·rename_i q
   split at h
   ·rename_i q2
    intro i hi;rcases List.mem_cons.1 hi with rfl|hi
    ·exact⟨q,q2⟩
    ·exact code_mem l h i hi
   ·omega
  ·rename_i q
   exact absurd h q
theorem comps_mem {g:Int}:∀(L:List PComp),compsR g L=0→∀c∈L,codeR c.code g=0
 |[],_=>fun c hc=>by cases hc
 |k::l,h=>by
  unfold compsR at h
  split at h
  ·split at h
   ·rename_i q2
    intro c hc;rcases List.mem_cons.1 hc with rfl|hc
    ·exact q2
    ·exact comps_mem l h c hc
   ·rename_i q2
    exact absurd h q2
  ·omega
theorem gates_mem {C:List PComp}:∀(L:List PGate),gatesR C L=0→∀g∈L,hasI C g.c g.e=true
 |[],_=>fun g hg=>by cases hg
 |k::l,h=>by
  unfold gatesR at h
  split at h
  ·rename_i q
   split at h
   ·intro g hg;rcases List.mem_cons.1 hg with rfl|hg
    ·simp only[Bool.and_eq_true,decide_eq_true_eq]at q;exact q.1.1
    ·exact gates_mem l h g hg
   ·omega
  ·omega
theorem call_nn {i:Ins}(ho:i.op=31)(h:i.right=0):0≤i.m:=by
 unfold Ins.right at h;rw[ho]at h;have hs:shapeOf 31=[103]:=by kernel_rfl
 unfold rightF at h;simp only[hs]at h;simp[errOf,fR,inE,hiE,loE]at h;omega
theorem bok_of (m:PImg)(h:m.right=0):BOk m:=by
 unfold PImg.right at h
 split at h
 ·rename_i hc
  split at h
  ·split at h
   ·rename_i h2
    simp only[countsB,Bool.and_eq_true,decide_eq_true_eq]at hc;have hC:=comps_mem _ h2;have hG:=gates_mem _ h;refine⟨fun g hg=>?_,fun k hk=>?_,by omega⟩
    ·have q1:=hG m.gates[g] (List.getElem_mem hg);unfold hasI at q1
     split at q1
     ·rename_i q4
      have hk:m.gates[g].c.toNat<m.comps.length:=by omega
      rw[List.getElem?_eq_getElem hk]at q1;have q5:m.gates[g].e<(m.comps[m.gates[g].c.toNat].code.length:Int):=by simpa using q1
      exact⟨m.gates[g].c.toNat,hk,by omega,q4.2.2,q5⟩
     ·cases q1
    ·have q1:=hC m.comps[k] (List.getElem_mem hk);unfold codeR at q1
     split at q1
     ·omega
     ·rename_i q2
      refine⟨by omega,fun i hi ho=>?_⟩;obtain⟨a1,a2⟩:=code_mem _ q1 i hi;refine⟨call_nn ho a1,?_⟩;unfold tgtB at a2;rw[if_neg (by omega),if_pos ho]at a2;simpa using a2
   ·rename_i h2
    exact absurd h h2
  ·rename_i h2
   exact absurd h h2
 ·omega
end Bd
end Go.Proofs.YtkhbiaaangnkdaaGreatDoor
