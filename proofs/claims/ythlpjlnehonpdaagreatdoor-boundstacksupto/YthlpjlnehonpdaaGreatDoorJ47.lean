import Derived.Test.YthlpjlnehonpdaaGreatDoorJ46
import Derived.Test.YthlpjlnehonpdaaGreatDoorJ45
import Derived.Test.YthlpjlnehonpdaaGreatDoorJ44
import Derived.Deep.DeepCutAuto
import Derived.Test.YthlpjlnehonpdaaGreatDoorJ40
namespace Go.Proofs.YthlpjlnehonpdaaGreatDoor
namespace Bd
open Go.RowKit
open T (Ed Fm)
open C (Ms POk Okm stepM stepsM codeOf kOf eOf)
def inB (P:PImg)(s:Ms):Bool:=match (codeOf P (kOf P s.at_.gate))[s.at_.pc]? with|none=>false|some k=>k.op==29
def tkC (P:PImg)(s:Ms):Nat:=if inB P s=true∧(stepsM P 1 s).over.e≠6 then 1 else 0
def tkM (P:PImg):Nat→Ms→Nat×Nat×Ms
 |0,s=>(0,0,s)
 |k+1,s=>if(stepsM P 1 s).over.e≠0 then(tkC P s,(stepsM P 1 s).st.length,stepsM P 1 s)else(tkC P s+(tkM P k (stepsM P 1 s)).1,max (stepsM P 1 s).st.length (tkM P k (stepsM P 1 s)).2.1,(tkM P k (stepsM P 1 s)).2.2)
theorem one_ok {P:PImg}{s s':Ms}(h0:s.over.e=0)(h:stepM P s=.ok s'):stepsM P 1 s=s':=C.stepsM_ok h0 h
theorem one_err {P:PImg}{s:Ms}{e:Ed}(h0:s.over.e=0)(h:stepM P s=.error e):stepsM P 1 s=s.ended e:=C.stepsM_err h0 h
section
variable {m P:PImg} {c0:Int}
theorem tk_runD (hP:POk P)(hok:BOk m)(hg:P.gates=m.gates)(hc:P.comps=m.comps):∀(k:Nat) (s:Ms),s.over.e=0→RunD m c0 s→
 (((tkM P k s).2.1:Nat):Int)≤max 0 c0∧((tkM P k s).2.2.over.e=5→P.depth<c0)
 |0,s,h0,h=>by
  refine⟨by show(0:Int)≤_;omega,fun q=>?_⟩;have:s.over.e=5:=q;omega
 |k+1,s,h0,h=>by
  have hdp:=h.deep hok
  cases hs:stepM P s with
  |error e=>
   have e1:=one_err h0 hs;have hne:=C.step_err hs;have e2:tkM P (k+1) s=(tkC P s,(stepsM P 1 s).st.length,stepsM P 1 s):=by unfold tkM;rw[if_pos (by rw[e1];exact hne)]
   rw[e2,e1];refine⟨?_,run_errD hok hg hc h hs⟩;show(((s.ended e).st.length:Nat):Int)≤_;have:(s.ended e).st=s.st:=rfl;rw[this];omega
  |ok s'=>
   have r1:=run_stepD hP hok hg hc h hs;have e1:=one_ok h0 hs;have h0':s'.over.e=0:=by rw[C.step_over hs];exact h0
   obtain⟨t1,t2⟩:=tk_runD hP hok hg hc k s' h0' r1;have hdp':=r1.deep hok;have e2:tkM P (k+1) s=(tkC P s+(tkM P k s').1,max s'.st.length (tkM P k s').2.1,(tkM P k s').2.2):=by
    conv=>lhs;unfold tkM
    rw[e1,if_neg (by omega)]
   rw[e2];refine⟨?_,t2⟩;show((max s'.st.length (tkM P k s').2.1:Nat):Int)≤_;omega
end
end Bd
set_option maxRecDepth 100000
set_option maxHeartbeats 40000000
namespace C
open Go.RowKit
open T (Sep Ob Kp Mf TgIn boxOb Fm Tc Ed Vl Cp Bx tgOb mRow updV flt)
theorem pick18_any (c:Int)(n:Nat)(hn:0<n)(hc: -9223372036854775808≤c∧c<9223372036854775808):∃g:Nat,g<n∧∀W,Calls Tryz.prog 7 #[.int .i64 c,.int .i64 n] W fun x w'=>x=.returned (.int .i64 g)∧w'=W:=by
 have hz:((n:Int)==0)=false:=beq_false_of_ne (by omega);by_cases h:c<0
 ·obtain⟨d,hd⟩:∃d:Nat, -(c+1)=d:=⟨(-(c+1)).toNat,by omega⟩;have w1:wrap64 (c+1)=c+1:=by unfold wrap64;omega
  have w2:wrap64 (-(c+1))=(d:Int):=by unfold wrap64;omega
  have w3:IntKind.i64.wrap (-(c+1))=(d:Int):=by rw[IntKind.wrap_i64];omega
  have hr:Int.tmod (d:Int) (n:Int)=((d%n:Nat):Int):=rfl;refine⟨d%n,Nat.mod_lt _ hn,fun W=>?_⟩;generalize d%n=g at*;replace hd:=ζ hd;go_enter Tryz.func7,Tryz.ntmps7;go_wp2_with fail;go_ret;exact⟨rfl,rfl⟩
 ·obtain⟨d,hd⟩:∃d:Nat,c=d:=⟨c.toNat,by omega⟩;subst hd;have hr:Int.tmod (d:Int) (n:Int)=((d%n:Nat):Int):=rfl;refine⟨d%n,Nat.mod_lt _ hn,fun W=>?_⟩;generalize d%n=g at*;go_enter Tryz.func7,Tryz.ntmps7;go_wp2_with fail;go_ret;exact⟨rfl,rfl⟩
theorem num_own {w:World}{lo n lc:Nat}{la:Option Addr}{L:List Nat}(hl:L.length=n)(h:w.ownsRow lo 25 1 (.slice la n lc) n (L.map uN)):NumIn w la L:=by
 obtain⟨va,c,e,h2⟩:=own_numn hl h;injection e with e1;subst e1;exact h2
theorem beg18_wrong (m:PImg)(gate:Int)(A I:List Nat)(ra ca ga aa ia:Option Addr)(rc cc gc ac ic:Nat)(w:World)(ht:TabIn w)(hm:ImgIn w.heap.size w ra ca ga m)(hr:m.Rng)(hno:m.right≠0):Calls Tryz.prog 9 #[.agg #[.slice ra m.regs.length rc,.slice ca m.comps.length cc,.slice ga m.gates.length gc,.int .i64 m.depth],.int .i64 gate,.slice aa A.length ac,.slice ia I.length ic] w fun x w'=>x=.returned (.pointer none)∧Bl w w':=by
 have hRt:=ζ (fun X (q:Gr w X)=>imgRight_any m ra ca ga rc cc gc X (ht.gr q) ((hm.below q.below).mono q.below.size) hr);have h0:(m.right != 0)=true:=by simpa using hno
 generalize m.right=e at*;clear hm hr ht hno;go_enter Tryz.func9,Tryz.ntmps9;go_wp2_with fail;refine(hRt.out _ ((Gr.refl w).alloc _)).mono ?_;rintro x W1 ⟨rfl,e1⟩;have g1:=ζ ((Gr.refl w).alloc (.cells #[.slice ra m.regs.length rc,.slice ca m.comps.length cc,.slice ga m.gates.length gc,.int .i64 m.depth] 40) |>.trans e1).below;clear e1 hRt;go_wp2_with fail;go_ret;exact⟨rfl,g1.out⟩
theorem beg18_shut (m:PImg)(g:Nat)(A I:List Nat)(ra ca ga aa ia:Option Addr)(rc cc gc ac ic:Nat)(w:World)(ht:TabIn w)(hm:ImgIn w.heap.size w ra ca ga m)(hr:m.Rng)(hA:NumIn w aa A)(hrt:m.right=0)(hgl:g<m.gates.length)(hent:isEnt m g=false):Calls Tryz.prog 9 #[.agg #[.slice ra m.regs.length rc,.slice ca m.comps.length cc,.slice ga m.gates.length gc,.int .i64 m.depth],.int .i64 g,.slice aa A.length ac,.slice ia I.length ic] w fun x w'=>x=.returned (.pointer none)∧Bl w w':=by
 have hRt:=ζ (fun X (q:Gr w X)=>imgRight_any m ra ca ga rc cc gc X (ht.gr q) ((hm.below q.below).mono q.below.size) hr);have hth:=ζ (th_of m hrt hr);have h7:m.gates[g].args.length≤7:=(hth.out.gates _ (List.getElem_mem hgl)).2.2.1;have hln:=entN_len A m.gates[g].args.length;have hNw:=ζ (fun X (q:Bl w X) aa ac (hn:NumIn X aa (entN A m.gates[g].args.length))=>new_no70 m g (entN A m.gates[g].args.length) I ra ca ga aa ia rc cc gc ac ic X (TabIn.bl ht q) ((hm.below q).mono q.size) hr hrt hent);rw[hln]at hNw;rw[hrt]at hRt;obtain⟨gb,goff,xa,xc,ya,yc,rfl,_,hgb0,_,_,e2,_,_,_⟩:=hm.gates g hgl;replace e2:w.cell? ⟨gb,goff+g*4+2,none⟩=some (.slice xa m.gates[g].args.length xc):=e2;have hgi:(g:Int)<(m.gates.length:Int):=Int.ofNat_lt.2 hgl;generalize m.gates[g].args.length=n at*;have hA0:=ζ hA;replace hln:=ζ hln;clear hm hr ht hA hrt hth;go_enter Tryz.func9,Tryz.ntmps9;go_wp2_with fail;refine(hRt.out _ ((Gr.refl w).alloc _)).mono ?_
 rintro x W ⟨rfl,e1⟩;have hQ:=Bl.at_ (Bl.gr e1) (At.new w #[.slice ra m.regs.length rc,.slice ca m.comps.length cc,.slice (some ⟨gb,goff,none⟩) m.gates.length gc,.int .i64 m.depth] 40);have G:=ζ (((Gr.refl w).alloc (.cells #[.slice ra m.regs.length rc,.slice ca m.comps.length cc,.slice (some ⟨gb,goff,none⟩) m.gates.length gc,.int .i64 m.depth] 40)).trans e1).below;obtain⟨kp,hkp⟩:∃kp,w.heap.size=kp:=⟨_,rfl⟩;rw[hkp]at hQ ⊢;replace hkp:=ζ hkp;have hks:kp<W.heap.size:=hQ.1;have d1:W.cell? ⟨kp,2,none⟩=some (.slice (some ⟨gb,goff,none⟩) m.gates.length gc):=hQ.2.1 2;have d5:W.cell? ⟨gb,goff+g*4+2,none⟩=some (.slice xa n xc):=(G.out.cell (p:=⟨gb,_,none⟩) hgb0).trans e2;have hgb:gb<W.heap.size:=Nat.lt_of_lt_of_le hgb0 G.out.size;replace hA0:=ζ (hA0.out.bl G.out);replace hQ:=ζ hQ;clear e2 hgb0 e1 hRt;have hks':=ζ hks;go_upto_region 6 with fail
 replace d1:=ζ d1;replace d5:=ζ d5;clear hks;go_loopw [10,11] (fun v x wr=>∃(la:Option Addr) (lc j:Nat),v=.slice la j lc∧x=.int .i64 j∧j≤n∧Hz (wr.ownsRow W.heap.size 25 1 (.slice la j lc) j ((entN A j).map uN))∧Hz (Below W.heap.size W wr)) (fun _ x _=>n - (intOf x).toNat)
 case atStart=>exact⟨none,0,0,rfl,rfl,Nat.zero_le _,ζ (World.ownsRow_nil _ _ _ _),ζ (Below.refl _ _)⟩
 case round=>
  obtain⟨la,lc,j,rfl,rfl,hj,hown,hB⟩:=hrel;have e1:=(T.cell_of_block (hB.out.block kp hks'.out) 2).trans d1.out;have e5:=(T.cell_of_block (hB.out.block gb hgb) _).trans d5.out;by_cases hlt:j<n
  ·have q1:(j:Int)<(n:Int):=by omega
   have hwr:IntKind.u64.wrap (j:Int)=(j:Int):=by rw[IntKind.wrap_u64];omega
   by_cases hja:j<A.length
   ·have hji:(j:Int)<(A.length:Int):=Int.ofNat_lt.2 hja;obtain⟨ab,ao,rfl,hab,hac⟩:=hA0.out j hja;have e7:=(T.cell_of_block (hB.out.block ab hab) _).trans hac;have hvl:Hz (A.getD j j=A[j]):=ζ (by simp[hja]);go_upto_region 11 with fail
    clear e7 hwr;refine wp_region_lit ?_;iterate 3 (refine xp fun K hK=>?_;go_simp;with_reducible refine hK _ _ ?_;clear hK K;(try simp only[xap]))
    have hX:At (wr.alloc (.cells #[.int .u64 ((A[j]'hja:Nat):Int)] 25)) wr.heap.size #[.int .u64 ((A[j]'hja:Nat):Int)]:=At.new wr _ _;have ho2:(wr.alloc (.cells #[.int .u64 ((A[j]'hja:Nat):Int)] 25)).ownsRow W.heap.size 25 1 (.slice la j lc) j ((entN A j).map uN):=hown.out.alloc _;have hB2:Hz (Below W.heap.size W (wr.alloc (.cells #[.int .u64 ((A[j]'hja:Nat):Int)] 25))):=ζ (hB.out.alloc hB.out.size _);generalize hVV:wr.alloc (.cells #[.int .u64 ((A[j]'hja:Nat):Int)] 25)=V at*;clear hVV;generalize wr.heap.size=kX at*;refine xp fun K hK=>?_
    refine wp_append_z _ _ 46 25 (.int .u64 0) 1 8 rfl Tryz.underlying46 (by kernel_rfl) (by kernel_rfl) (by decide) (by decide) W.heap.size (.slice la j lc) j ((entN A j).map uN) [.int .u64 ((A[j]'hja:Nat):Int)] (by rfl) ho2 kX (by rfl) hX rfl (by simp[Value.oneCell']) (by omega) hB2.out.size ?_;intro g9 cap w9 k1 k2 k3;have hB3:Hz (Below W.heap.size W w9):=ζ (hB2.out.trans ⟨k2.os,k2.tape,k2.output,k2.size,fun k hk=>k2.block k (Nat.lt_of_lt_of_le hk hB2.out.size) (fun e=>by have:=(ho2.lt k e.symm).1;omega)⟩);have k4:Hz (w9.ownsRow W.heap.size 25 1 (.slice (some ⟨g9,0,none⟩) (j+1) cap) (j+1) ((entN A (j+1)).map uN)):=ζ (by rw[entN_succ,List.map_append,hvl.out];exact k1);clear k1 k2 k3 ho2 hX hB2 hB hown e1 e5;refine hK _ _ ?_;clear hK K;try simp only[xap]
    go_wp2_with fail;refine⟨⟨_,_,j+1,rfl,?_,hlt,k4,hB3⟩,?_⟩
    ·go_num
    ·simp[intOf];omega
   ·have hji:¬(j:Int)<(A.length:Int):=fun q=>hja (Int.ofNat_lt.1 q)
    have hvl:Hz (A.getD j j=j):=ζ (by simp[hja]);go_upto_region 11 with fail
    clear hwr;refine wp_region_lit ?_;iterate 3 (refine xp fun K hK=>?_;go_simp;with_reducible refine hK _ _ ?_;clear hK K;(try simp only[xap]))
    have hX:At (wr.alloc (.cells #[.int .u64 (j:Int)] 25)) wr.heap.size #[.int .u64 (j:Int)]:=At.new wr _ _;have ho2:(wr.alloc (.cells #[.int .u64 (j:Int)] 25)).ownsRow W.heap.size 25 1 (.slice la j lc) j ((entN A j).map uN):=hown.out.alloc _;have hB2:Hz (Below W.heap.size W (wr.alloc (.cells #[.int .u64 (j:Int)] 25))):=ζ (hB.out.alloc hB.out.size _);generalize hVV:wr.alloc (.cells #[.int .u64 (j:Int)] 25)=V at*;clear hVV;generalize wr.heap.size=kX at*;refine xp fun K hK=>?_
    refine wp_append_z _ _ 46 25 (.int .u64 0) 1 8 rfl Tryz.underlying46 (by kernel_rfl) (by kernel_rfl) (by decide) (by decide) W.heap.size (.slice la j lc) j ((entN A j).map uN) [.int .u64 (j:Int)] (by rfl) ho2 kX (by rfl) hX rfl (by simp[Value.oneCell']) (by omega) hB2.out.size ?_;intro g9 cap w9 k1 k2 k3;have hB3:Hz (Below W.heap.size W w9):=ζ (hB2.out.trans ⟨k2.os,k2.tape,k2.output,k2.size,fun k hk=>k2.block k (Nat.lt_of_lt_of_le hk hB2.out.size) (fun e=>by have:=(ho2.lt k e.symm).1;omega)⟩);have k4:Hz (w9.ownsRow W.heap.size 25 1 (.slice (some ⟨g9,0,none⟩) (j+1) cap) (j+1) ((entN A (j+1)).map uN)):=ζ (by rw[entN_succ,List.map_append,hvl.out];exact k1);clear k1 k2 k3 ho2 hX hB2 hB hown e1 e5;refine hK _ _ ?_;clear hK K;try simp only[xap]
    go_wp2_with fail;refine⟨⟨_,_,j+1,rfl,?_,hlt,k4,hB3⟩,?_⟩
    ·go_num
    ·simp[intOf];omega
  ·obtain rfl:j=n:=by omega
   have q1:¬(j:Int)<(j:Int):=by omega
   have hnum:=ζ (num_own hln.out hown.out);have gW:=ζ (Bl.trans G.out hB.out);have hQ1:=Bl.at_ hB.out hQ.out;have⟨l1,p1,_⟩:=hQ1;clear hQ1;go_wp2_with fail;refine(hNw.out _ gW.out _ _ hnum.out).mono ?_;rintro x W5 ⟨rfl,e5⟩;have gF:=ζ (Bl.trans gW.out e5);go_wp2_with fail;go_ret;exact⟨rfl,gF.out⟩
theorem beg18_ok (m:PImg)(g:Nat)(A I:List Nat)(ra ca ga aa ia:Option Addr)(rc cc gc ac ic:Nat)(w:World)(ht:TabIn w)(hm:ImgIn w.heap.size w ra ca ga m)(hr:m.Rng)(hA:NumIn w aa A)(hI:InS w ia I ic)(hil:I.length≤2000000)(hrt:m.right=0)(hgl:g<m.gates.length)(hent:isEnt m g=true):Calls Tryz.prog 9 #[.agg #[.slice ra m.regs.length rc,.slice ca m.comps.length cc,.slice ga m.gates.length gc,.int .i64 m.depth],.int .i64 g,.slice aa A.length ac,.slice ia I.length ic] w fun x w'=>∃a B,x=.returned (.pointer (some ⟨a,0,none⟩))∧MIn B w' a (bare m) (start m g (entN A m.gates[g].args.length) I) []∧w.heap.size≤B∧Bl w w':=by
 have hRt:=ζ (fun X (q:Gr w X)=>imgRight_any m ra ca ga rc cc gc X (ht.gr q) ((hm.below q.below).mono q.below.size) hr);have hth:=ζ (th_of m hrt hr);have h7:m.gates[g].args.length≤7:=(hth.out.gates _ (List.getElem_mem hgl)).2.2.1;have hln:=entN_len A m.gates[g].args.length;have hNw:=ζ (fun X (q:Bl w X) aa ac (hn:NumIn X aa (entN A m.gates[g].args.length))=>new_ok m g (entN A m.gates[g].args.length) I ra ca ga aa ia rc cc gc ac ic X (TabIn.bl ht q) ((hm.below q).mono q.size) hr hrt hent (eq_len hgl A) hn (hI.bl q) hil);rw[hln]at hNw;rw[hrt]at hRt;obtain⟨gb,goff,xa,xc,ya,yc,rfl,_,hgb0,_,_,e2,_,_,_⟩:=hm.gates g hgl;replace e2:w.cell? ⟨gb,goff+g*4+2,none⟩=some (.slice xa m.gates[g].args.length xc):=e2;have hgi:(g:Int)<(m.gates.length:Int):=Int.ofNat_lt.2 hgl;generalize m.gates[g].args.length=n at*;have hA0:=ζ hA;replace hln:=ζ hln;clear hm hr ht hA hrt hI hil hth;go_enter Tryz.func9,Tryz.ntmps9
 go_wp2_with fail;refine(hRt.out _ ((Gr.refl w).alloc _)).mono ?_;rintro x W ⟨rfl,e1⟩;have hQ:=Bl.at_ (Bl.gr e1) (At.new w #[.slice ra m.regs.length rc,.slice ca m.comps.length cc,.slice (some ⟨gb,goff,none⟩) m.gates.length gc,.int .i64 m.depth] 40);have G:=ζ (((Gr.refl w).alloc (.cells #[.slice ra m.regs.length rc,.slice ca m.comps.length cc,.slice (some ⟨gb,goff,none⟩) m.gates.length gc,.int .i64 m.depth] 40)).trans e1).below;obtain⟨kp,hkp⟩:∃kp,w.heap.size=kp:=⟨_,rfl⟩;rw[hkp]at hQ ⊢;replace hkp:=ζ hkp;have hks:kp<W.heap.size:=hQ.1;have d1:W.cell? ⟨kp,2,none⟩=some (.slice (some ⟨gb,goff,none⟩) m.gates.length gc):=hQ.2.1 2;have d5:W.cell? ⟨gb,goff+g*4+2,none⟩=some (.slice xa n xc):=(G.out.cell (p:=⟨gb,_,none⟩) hgb0).trans e2;have hgb:gb<W.heap.size:=Nat.lt_of_lt_of_le hgb0 G.out.size;replace hA0:=ζ (hA0.out.bl G.out);replace hQ:=ζ hQ;clear e2 hgb0 e1 hRt;have hks':=ζ hks;go_upto_region 6 with fail
 replace d1:=ζ d1;replace d5:=ζ d5;clear hks;go_loopw [10,11] (fun v x wr=>∃(la:Option Addr) (lc j:Nat),v=.slice la j lc∧x=.int .i64 j∧j≤n∧Hz (wr.ownsRow W.heap.size 25 1 (.slice la j lc) j ((entN A j).map uN))∧Hz (Below W.heap.size W wr)) (fun _ x _=>n - (intOf x).toNat)
 case atStart=>exact⟨none,0,0,rfl,rfl,Nat.zero_le _,ζ (World.ownsRow_nil _ _ _ _),ζ (Below.refl _ _)⟩
 case round=>
  obtain⟨la,lc,j,rfl,rfl,hj,hown,hB⟩:=hrel;have e1:=(T.cell_of_block (hB.out.block kp hks'.out) 2).trans d1.out;have e5:=(T.cell_of_block (hB.out.block gb hgb) _).trans d5.out;by_cases hlt:j<n
  ·have q1:(j:Int)<(n:Int):=by omega
   have hwr:IntKind.u64.wrap (j:Int)=(j:Int):=by rw[IntKind.wrap_u64];omega
   by_cases hja:j<A.length
   ·have hji:(j:Int)<(A.length:Int):=Int.ofNat_lt.2 hja;obtain⟨ab,ao,rfl,hab,hac⟩:=hA0.out j hja;have e7:=(T.cell_of_block (hB.out.block ab hab) _).trans hac;have hvl:Hz (A.getD j j=A[j]):=ζ (by simp[hja]);go_upto_region 11 with fail
    clear e7 hwr;refine wp_region_lit ?_;iterate 3 (refine xp fun K hK=>?_;go_simp;with_reducible refine hK _ _ ?_;clear hK K;(try simp only[xap]))
    have hX:At (wr.alloc (.cells #[.int .u64 ((A[j]'hja:Nat):Int)] 25)) wr.heap.size #[.int .u64 ((A[j]'hja:Nat):Int)]:=At.new wr _ _;have ho2:(wr.alloc (.cells #[.int .u64 ((A[j]'hja:Nat):Int)] 25)).ownsRow W.heap.size 25 1 (.slice la j lc) j ((entN A j).map uN):=hown.out.alloc _;have hB2:Hz (Below W.heap.size W (wr.alloc (.cells #[.int .u64 ((A[j]'hja:Nat):Int)] 25))):=ζ (hB.out.alloc hB.out.size _);generalize hVV:wr.alloc (.cells #[.int .u64 ((A[j]'hja:Nat):Int)] 25)=V at*;clear hVV;generalize wr.heap.size=kX at*;refine xp fun K hK=>?_
    refine wp_append_z _ _ 46 25 (.int .u64 0) 1 8 rfl Tryz.underlying46 (by kernel_rfl) (by kernel_rfl) (by decide) (by decide) W.heap.size (.slice la j lc) j ((entN A j).map uN) [.int .u64 ((A[j]'hja:Nat):Int)] (by rfl) ho2 kX (by rfl) hX rfl (by simp[Value.oneCell']) (by omega) hB2.out.size ?_;intro g9 cap w9 k1 k2 k3;have hB3:Hz (Below W.heap.size W w9):=ζ (hB2.out.trans ⟨k2.os,k2.tape,k2.output,k2.size,fun k hk=>k2.block k (Nat.lt_of_lt_of_le hk hB2.out.size) (fun e=>by have:=(ho2.lt k e.symm).1;omega)⟩);have k4:Hz (w9.ownsRow W.heap.size 25 1 (.slice (some ⟨g9,0,none⟩) (j+1) cap) (j+1) ((entN A (j+1)).map uN)):=ζ (by rw[entN_succ,List.map_append,hvl.out];exact k1);clear k1 k2 k3 ho2 hX hB2 hB hown e1 e5;refine hK _ _ ?_;clear hK K;try simp only[xap]
    go_wp2_with fail;refine⟨⟨_,_,j+1,rfl,?_,hlt,k4,hB3⟩,?_⟩
    ·go_num
    ·simp[intOf];omega
   ·have hji:¬(j:Int)<(A.length:Int):=fun q=>hja (Int.ofNat_lt.1 q)
    have hvl:Hz (A.getD j j=j):=ζ (by simp[hja]);go_upto_region 11 with fail
    clear hwr;refine wp_region_lit ?_;iterate 3 (refine xp fun K hK=>?_;go_simp;with_reducible refine hK _ _ ?_;clear hK K;(try simp only[xap]))
    have hX:At (wr.alloc (.cells #[.int .u64 (j:Int)] 25)) wr.heap.size #[.int .u64 (j:Int)]:=At.new wr _ _;have ho2:(wr.alloc (.cells #[.int .u64 (j:Int)] 25)).ownsRow W.heap.size 25 1 (.slice la j lc) j ((entN A j).map uN):=hown.out.alloc _;have hB2:Hz (Below W.heap.size W (wr.alloc (.cells #[.int .u64 (j:Int)] 25))):=ζ (hB.out.alloc hB.out.size _);generalize hVV:wr.alloc (.cells #[.int .u64 (j:Int)] 25)=V at*;clear hVV;generalize wr.heap.size=kX at*;refine xp fun K hK=>?_
    refine wp_append_z _ _ 46 25 (.int .u64 0) 1 8 rfl Tryz.underlying46 (by kernel_rfl) (by kernel_rfl) (by decide) (by decide) W.heap.size (.slice la j lc) j ((entN A j).map uN) [.int .u64 (j:Int)] (by rfl) ho2 kX (by rfl) hX rfl (by simp[Value.oneCell']) (by omega) hB2.out.size ?_;intro g9 cap w9 k1 k2 k3;have hB3:Hz (Below W.heap.size W w9):=ζ (hB2.out.trans ⟨k2.os,k2.tape,k2.output,k2.size,fun k hk=>k2.block k (Nat.lt_of_lt_of_le hk hB2.out.size) (fun e=>by have:=(ho2.lt k e.symm).1;omega)⟩);have k4:Hz (w9.ownsRow W.heap.size 25 1 (.slice (some ⟨g9,0,none⟩) (j+1) cap) (j+1) ((entN A (j+1)).map uN)):=ζ (by rw[entN_succ,List.map_append,hvl.out];exact k1);clear k1 k2 k3 ho2 hX hB2 hB hown e1 e5;refine hK _ _ ?_;clear hK K;try simp only[xap]
    go_wp2_with fail;refine⟨⟨_,_,j+1,rfl,?_,hlt,k4,hB3⟩,?_⟩
    ·go_num
    ·simp[intOf];omega
  ·obtain rfl:j=n:=by omega
   have q1:¬(j:Int)<(j:Int):=by omega
   have hnum:=ζ (num_own hln.out hown.out);have gW:=ζ (Bl.trans G.out hB.out);have hQ1:=Bl.at_ hB.out hQ.out;have⟨l1,p1,_⟩:=hQ1;clear hQ1;go_wp2_with fail;refine(hNw.out _ gW.out _ _ hnum.out).mono ?_;rintro x W5 ⟨a,rfl,hM,e5⟩;have hsz:=ζ gW.out.size;have gF:=ζ (Bl.trans gW.out e5);replace hM:=ζ hM;go_wp2_with fail;go_ret;exact⟨a,_,rfl,hM.out,hsz.out,gF.out⟩
theorem run_alloc_sn (W:World):(Instr.alloc 103 true (.tuple #[])).run Tryz.prog W=.ok (.pointer (some ⟨W.heap.size,0,none⟩)) (W.alloc (.cells (snR zS).toArray 103)):=by
 have:(Instr.alloc 103 true (.tuple #[])).run Tryz.prog W=.ok (.pointer (some ⟨W.heap.size,0,none⟩)) (W.alloc (.cells Tryz.zeroCells103 103)):=by kernel_rfl
 rw[this,show Tryz.zeroCells103=(snR zS).toArray by rw[←zero_sn]]
theorem wp_alloc_sn {o:Oper}{a:Act}{K:Act→World→Prop}{Q:Exit→Act→World→Prop}{w:World}(ho:o.op=.alloc 103)(h:K (a.put o.dst (.pointer (some ⟨w.heap.size,0,none⟩))) (w.alloc (.cells (snR zS).toArray 103))):o.wp Tryz.prog a w K Q:=by
 unfold Oper.wp execOp;simp only[ho,run_alloc_sn,Sem.run_bind,Sem.run_pure,Result.andThen_ok];exact h
open T (Sep Ob Kp Mf TgIn boxOb Fm Tc Ed Vl Cp Bx tgOb mRow updV flt regRow regRow_at regRow_len Vl.row_len)
open Bd (tkM tkC inB)
theorem results_3 {fn:Func}{p q r:Tmp}{ty:TypeId}{u v x:Value}{a:Addr}(h:fn.results=#[.tmp p,.tmp q,.cell r ty])(tmps:Array Value)(w:World)(hu:tmps.getD p undef=u)(hv:tmps.getD q undef=v)(ht:tmps.getD r undef=.pointer (some a))(hl:(loadVar ty a).run Tryz.prog w=.ok x w):
 (results fn tmps).run Tryz.prog w=.ok (.tuple #[u,v,x]) w:=by
 have hu':tmps[p]?.getD undef=u:=by simpa using hu
 have hv':tmps[q]?.getD undef=v:=by simpa using hv
 have ht':tmps[r]?.getD undef=.pointer (some a):=by simpa using ht
 simp[results,h,hu',hv',ht',asAddr,hl]
theorem sn_f2 (s:Ms)(w:World):(Instr.field 103 (.agg (snR s).toArray) 2).run Tryz.prog w=.ok (.int .i64 s.st.length) w:=by kernel_rfl
theorem tk_next {P:PImg}{k:Nat}{s:Ms}(h:(stepsM P 1 s).over.e=0):tkM P (k+1) s=(tkC P s+(tkM P k (stepsM P 1 s)).1,max (stepsM P 1 s).st.length (tkM P k (stepsM P 1 s)).2.1,(tkM P k (stepsM P 1 s)).2.2):=by
 conv=>lhs;unfold tkM
 rw[if_neg (by omega)]
theorem tk_last {P:PImg}{k:Nat}{s:Ms}(h:(stepsM P 1 s).over.e≠0):tkM P (k+1) s=(tkC P s,(stepsM P 1 s).st.length,stepsM P 1 s):=by
 unfold tkM;rw[if_pos h]
structure Tk (P:PImg)(N:Nat)(s:Ms)(j:Nat)(t:Ms)(n d:Nat):Prop where
 n:n+(tkM P (N - j) t).1=(tkM P N s).1
 d:max d (tkM P (N - j) t).2.1=(tkM P N s).2.1
 e:(tkM P (N - j) t).2.2=(tkM P N s).2.2
theorem Tk.start (P:PImg)(N:Nat)(s:Ms):Tk P N s 0 s 0 0:=⟨by simp,by simp,by simp⟩
theorem Tk.next {P:PImg}{N:Nat}{s:Ms}{j:Nat}{t:Ms}{n d:Nat}(h:Tk P N s j t n d)(hj:j<N)(h0:(stepsM P 1 t).over.e=0):Tk P N s (j+1) (stepsM P 1 t) (n+tkC P t) (max d (stepsM P 1 t).st.length):=by
 have e:N - j=(N - (j+1))+1:=by omega
 have h1:=h.n;have h2:=h.d;have h3:=h.e;rw[e,tk_next h0]at h1 h2 h3;dsimp only at h1 h2 h3;exact⟨by omega,by omega,h3⟩
theorem Tk.last {P:PImg}{N:Nat}{s:Ms}{j:Nat}{t:Ms}{n d:Nat}(h:Tk P N s j t n d)(hj:j<N)(h0:(stepsM P 1 t).over.e≠0):n+tkC P t=(tkM P N s).1∧max d (stepsM P 1 t).st.length=(tkM P N s).2.1∧stepsM P 1 t=(tkM P N s).2.2:=by
 have e:N - j=(N - (j+1))+1:=by omega
 have h1:=h.n;have h2:=h.d;have h3:=h.e;rw[e,tk_last h0]at h1 h2 h3;exact⟨h1,h2,h3⟩
theorem Tk.full {P:PImg}{N:Nat}{s:Ms}{t:Ms}{n d:Nat}(h:Tk P N s N t n d):n=(tkM P N s).1∧d=(tkM P N s).2.1∧t=(tkM P N s).2.2:=by
 have h1:=h.n;have h2:=h.d;have h3:=h.e;rw[Nat.sub_self]at h1 h2 h3;have e:tkM P 0 t=(0,0,t):=rfl;rw[e]at h1 h2 h3;exact⟨by simpa using h1,by simpa using h2,h3⟩
theorem wO_tl (s:Ms)(j:Nat)(h:j≠0):wO s j=[Value.int .i64 s.over.e,.int .u64 s.over.v,.int .i64 s.over.f,.int .i64 s.at_.gate,.int .i64 s.at_.pc]:=by unfold wO;rw[if_neg h];rfl
theorem taken_any (m P:PImg)(hP:POk P)(hg:P.gates=m.gates)(hc:P.comps=m.comps)(ra ca ga:Option Addr)(rc cc gc:Nat)(LB B:Nat)(hLB:LB≤B)(w:World)(hm:ImgIn LB w ra ca ga m)(a:Nat)(s:Ms)(l:List Ob)(n0 N:Nat)(hs:Okm P n0 s)(h0:s.over.e=0)(hN:1≤N∧N≤5000)(hn:n0≤100000)(h:MIn B w a P s l):
 Calls Tryz.prog 13 #[.agg #[.slice ra m.regs.length rc,.slice ca m.comps.length cc,.slice ga m.gates.length gc,.int .i64 m.depth],.pointer (some ⟨a,0,none⟩),.int .u64 N] w fun x w'=>x=.returned (.tuple #[.int .u64 (tkM P N s).1,.int .i64 (tkM P N s).2.1,.agg (List.toArray [Value.int .i64 (tkM P N s).2.2.over.e,.int .u64 (tkM P N s).2.2.over.v,.int .i64 (tkM P N s).2.2.over.f,.int .i64 (tkM P N s).2.2.at_.gate,.int .i64 (tkM P N s).2.2.at_.pc])])∧MIn B w' a P (tkM P N s).2.2 l∧Below B w w':=by
 have hgN:=ζ (fun g (q:g<m.gates.length)=>hm.gates g q);have hcN:=ζ (fun k (q:k<m.comps.length)=>hm.comps k q);have hI:=ζ hm;have hP0:=ζ hP;have hgc:=ζ (And.intro hg hc);have hl:=h.le;have hL0:LB≤w.heap.size:=Nat.le_trans hLB hl;clear hm hP hg hc;go_enter Tryz.func13,Tryz.ntmps13;go_upto_region 1 with fail
 refine wp_world (fun X=>MIn B X a P s (boxOb (w.heap.size+1) #[.int .i64 0,.int .u64 0,.int .i64 0,.int .i64 0,.int .i64 0]::boxOb w.heap.size #[.slice ra m.regs.length rc,.slice ca m.comps.length cc,.slice ga m.gates.length gc,.int .i64 m.depth]::l)∧Below B w X) ⟨by simpa using((h.new #[.slice ra m.regs.length rc,.slice ca m.comps.length cc,.slice ga m.gates.length gc,.int .i64 m.depth] 40).1.new #[.int .i64 0,.int .u64 0,.int .i64 0,.int .i64 0,.int .i64 0] 50).1,(h.new #[.slice ra m.regs.length rc,.slice ca m.comps.length cc,.slice ga m.gates.length gc,.int .i64 m.depth] 40).2.trans ((h.new #[.slice ra m.regs.length rc,.slice ca m.comps.length cc,.slice ga m.gates.length gc,.int .i64 m.depth] 40).1.new #[.int .i64 0,.int .u64 0,.int .i64 0,.int .i64 0,.int .i64 0] 50).2⟩ ?_;clear h;rintro W ⟨h,hB⟩;obtain⟨k8,e8⟩:∃k8,w.heap.size+1=k8:=⟨_,rfl⟩;obtain⟨k3,e3⟩:∃k3,w.heap.size=k3:=⟨_,rfl⟩;rw[e8]at h ⊢
 rw[e3]at h ⊢;replace e8:=ζ e8;replace e3:=ζ e3;go_upto_region 4 with fail
 refine wp_world (fun X=>MIn B X a P s (boxOb W.heap.size (wO s 0).toArray::boxOb k8 #[.int .i64 0,.int .u64 0,.int .i64 0,.int .i64 0,.int .i64 0]::boxOb k3 #[.slice ra m.regs.length rc,.slice ca m.comps.length cc,.slice ga m.gates.length gc,.int .i64 m.depth]::l)∧Below B w X) ⟨(h.new (wO s 0).toArray 50).1,hB.trans (h.new (wO s 0).toArray 50).2⟩ ?_;clear h hB;rintro W1 ⟨h,hB⟩;generalize W.heap.size=k11 at*;have st:Hz (MIn B W1 a P s (boxOb k11 (wO s 0).toArray::boxOb k8 #[.int .i64 0,.int .u64 0,.int .i64 0,.int .i64 0,.int .i64 0]::boxOb k3 #[.slice ra m.regs.length rc,.slice ca m.comps.length cc,.slice ga m.gates.length gc,.int .i64 m.depth]::l)∧Below B w W1∧Okm P (n0+0) s∧s.over.e=0∧Tk P N s 0 s 0 0):=ζ ⟨h,hB,hs,h0,Tk.start P N s⟩;clear h hB hs h0;go_upto_region 5 with fail
 go_loopw [9,10,12] (fun nv dv iv wr=>∃(j n d:Nat) (t:Ms),nv=.int .u64 n∧dv=.int .i64 d∧iv=.int .u64 j∧j≤N∧n≤j∧d≤100∧Hz (MIn B wr a P t (boxOb k11 (wO t j).toArray::boxOb k8 #[.int .i64 0,.int .u64 0,.int .i64 0,.int .i64 0,.int .i64 0]::boxOb k3 #[.slice ra m.regs.length rc,.slice ca m.comps.length cc,.slice ga m.gates.length gc,.int .i64 m.depth]::l)∧Below B w wr∧Okm P (n0+j) t∧t.over.e=0∧Tk P N s j t n d)) (fun _ _ iv _=>N - (intOf iv).toNat)
 case atStart=>exact⟨0,0,0,s,rfl,rfl,rfl,by omega,by omega,by omega,st⟩
 case round=>
  clear st;obtain⟨j,n,d,t,rfl,rfl,rfl,hj,hnj,hd,⟨h,hB,ok,h0,tk⟩⟩:=hrel;by_cases hjl:j<N
  ·have hji:(j:Int)<N:=by omega
   have hPP:=hP0.out;have hgl:t.at_.gate<m.gates.length:=by have:=ok.f.g;rwa [hgc.out.1]at this
   have hkl:=hPP.kl t.at_.gate ok.f.g;have hcl:kOf P t.at_.gate<m.comps.length:=by have:=hkl.1;rwa [hgc.out.2]at this
   have hcode:codeOf P (kOf P t.at_.gate)=m.comps[kOf P t.at_.gate].code:=by
    rw[codeOf_at P _ hkl.1];simp only[hgc.out.2]
   obtain⟨gb,goff,xa,xc,ya,yc,rfl,hgb,hgb2,cg, -⟩:=hgN.out t.at_.gate hgl;obtain⟨cb,coff,ra2,rc2,ka,kc,rfl,hcb,hcb2,_,cd,_,hl2⟩:=hcN.out (kOf P t.at_.gate) hcl;have hcg:m.gates[t.at_.gate].c=(kOf P t.at_.gate:Nat):=by have:=hkl.2.1;simpa only[hgc.out.1]using this
   rw[hcg]at cg;have hpl:t.at_.pc≤m.comps[kOf P t.at_.gate].code.length:=by have:=ok.f.pc;rwa [hcode]at this
   have hdl:(t.st.length:Int)≤16:=by have:=ok.dp;have:=hPP.dp.2;omega
   have ok2:=okm_steps hPP 1 ok;have hdl2:((stepsM P 1 t).st.length:Int)≤16:=by have:=ok2.dp;have:=hPP.dp.2;omega
   have htc:Hz (tkC P t=if inB P t=true∧(stepsM P 1 t).over.e≠6 then 1 else 0):=ζ rfl;have hib:Hz (inB P t=match m.comps[kOf P t.at_.gate].code[t.at_.pc]? with|none=>false|some k=>k.op==29):=ζ (by unfold inB;rw[hcode];try(rcases m.comps[kOf P t.at_.gate].code[t.at_.pc]? with _|_<;>rfl));clear hcode hcg;replace hkl:=ζ hkl;replace hPP:=ζ hPP;replace ok:=ζ ok;replace ok2:=ζ ok2;replace h0:=ζ h0;replace tk:=ζ tk;replace hl2:=ζ hl2;replace h:=ζ h;replace hB:=ζ hB;go_upto_region 7 with fail
   refine wp_region_lit ?_;refine xp fun K hK=>?_
   go_simp;with_reducible refine hK _ _ ?_
   clear hK K;try simp only[xap]
   refine xp fun K hK=>?_
   go_simp
   (refine(snap_any B a P t _ _ h.out).mono ?_;rintro r Y1 ⟨rfl,e1⟩;replace hB:=ζ (hB.out.trans (h.out.bl e1).2);replace h:=ζ (h.out.bl e1).1;clear e1;have hA7:At (Y1.alloc (.cells (snR zS).toArray 103)) Y1.heap.size (snR zS).toArray:=At.new Y1 _ _;have hth:=ζ (At.there hA7 0 115 (by rw[snR_len];decide));have hA8:=ζ (At.setAll hA7 (snR t) (by rw[snR_len,snR_len]));have g9:=ζ (((Bl.refl Y1).alloc (.cells (snR zS).toArray 103)).sets Y1.heap.size (Nat.le_refl _) (snR t) 0);replace hA7:=ζ hA7)
   with_reducible refine hK _ _ ?_
   clear hK K;try simp only[xap]
   refine xp fun K hK=>?_
   refine wp_alloc_sn rfl (hK _ _ ?_);clear hK K;try simp only[xap]
   refine wpList_store_mid rfl _ _ _ rfl _ _ (List.toArray (snR t)) rfl rfl (show World.there _ _ _ _ by rw[show (snR t).toArray.size=115 from snR_len t];exact hth.out) (by rw[List.size_toArray,snR_len];kernel_rfl) (snR_one t) ?_;try simp only[Act.put]
   clear hth hA7;have h9:=ζ (h.out.add (boxOb Y1.heap.size (snR t).toArray) hA8.out (fun k q=>by have:k=Y1.heap.size:=q;omega) g9.out);replace hB:=ζ (hB.out.trans (Below.mono g9.out h.out.le));replace h:=h9;clear h9 g9 hA8;generalize World.setCells _ _ _ _=X1 at*;generalize Y1.heap.size=ks at*;obtain⟨t',ht'⟩:∃t',stepsM P 1 t=t':=⟨_,rfl⟩;have hcl:=ζ (step_oc P hPP.out t (n0+j) ok.out (by omega) t' ht' B X1 a _ h.out);have hnx:=fun(q:t'.over.e=0)=>tk.out.next hjl (by rw[ht'];exact q)
   have hla:=fun(q:t'.over.e≠0)=>tk.out.last hjl (by rw[ht'];exact q)
   rw[ht']at hnx hla ok2 hdl2 htc;replace hnx:=ζ hnx;replace hla:=ζ hla;replace ht':=ζ ht';clear tk;go_upto_region 8 with fail
   refine wp_region_lit ?_;refine xp fun K hK=>?_
   go_simp;with_reducible refine hK _ _ ?_
   clear hK K;try simp only[xap]
   refine xp fun K hK=>?_
   go_simp;refine hcl.out.mono ?_;rintro r X2 ⟨rfl,hM1,hBn⟩;clear hcl;replace hB:=ζ (hB.out.trans hBn);with_reducible refine hK _ _ ?_
   clear hK K;try simp only[xap]
   replace hM1:=hM1.swap;have A1:=hM1.there (boxOb k11 (wO t j).toArray) (by simp);have hth:=ζ (A1.there 0 5 (by rw[wO_len];omega));have hA9:=At.setAll A1 [Value.int .i64 t'.over.e,.int .u64 t'.over.v,.int .i64 t'.over.f,.int .i64 t'.at_.gate,.int .i64 t'.at_.pc] (by rw[wO_len];rfl);have hK9:=T.kp_setCells (fun k=>k=k11) k11 rfl [Value.int .i64 t'.over.e,.int .u64 t'.over.v,.int .i64 t'.over.f,.int .i64 t'.at_.gate,.int .i64 t'.at_.pc] 0 X2;obtain⟨hM3,hB3⟩:=hM1.side (o':=boxOb k11 (List.toArray [Value.int .i64 t'.over.e,.int .u64 t'.over.v,.int .i64 t'.over.f,.int .i64 t'.at_.gate,.int .i64 t'.at_.pc])) hA9 hK9 (fun _ r=>.inl r);replace hB:=ζ (hB.out.trans hB3);replace h:=ζ hM3;clear hM1 hM3 hA9 hK9 hB3 A1 hBn;refine xp fun K hK=>?_
   refine wp_store_mid _ _ _ rfl _ _ (List.toArray [Value.int .i64 t'.over.e,.int .u64 t'.over.v,.int .i64 t'.over.f,.int .i64 t'.at_.gate,.int .i64 t'.at_.pc]) rfl rfl hth.out (by kernel_rfl) (by simp[Value.oneCell']) (hK _ _ ?_);clear hK K hth;try simp only[Act.put]
   generalize World.setCells _ _ _ _=X3 at*;go_upto_region 9 with fail
   have A3:=h.out.there (boxOb k3 #[.slice ra m.regs.length rc,.slice (some ⟨cb,coff,none⟩) m.comps.length cc,.slice (some ⟨gb,goff,none⟩) m.gates.length gc,.int .i64 m.depth]) (by simp);have As:=h.out.there (boxOb ks (snR t).toArray) (by simp);have y1:X3.cell? ⟨k3,1,none⟩=some (.slice (some ⟨cb,coff,none⟩) m.comps.length cc):=A3.2.1 1;have y2:X3.cell? ⟨k3,2,none⟩=some (.slice (some ⟨gb,goff,none⟩) m.gates.length gc):=A3.2.1 2;have y3:X3.cell? ⟨ks,0,none⟩=some (.int .i64 t.at_.gate):=As.2.1 0;have y4:=(hB.out.cell (p:=⟨gb,_,none⟩) (show gb<B by omega)).trans cg;have y5:=(hB.out.cell (p:=⟨cb,_,none⟩) (show cb<B by omega)).trans cd;have y6:gb<X3.heap.size:=Nat.lt_of_lt_of_le hgb2 hB.out.size;have y7:cb<X3.heap.size:=Nat.lt_of_lt_of_le hcb2 hB.out.size;have y8:=A3.1;have y9:=As.1;have z1:(t.at_.gate:Int)<m.gates.length:=by omega
   have z2:(kOf P t.at_.gate:Int)<m.comps.length:=by omega
   clear A3 As;go_cut [14] (fun v wx=>v=.slice ka m.comps[kOf P t.at_.gate].code.length kc∧Hz (Below X3.heap.size X3 wx))
   case first=>
    go_quiet (fail)
    all_goals
     go_wp2_with fail;go_meet;exact⟨rfl,ζ (T.drewN_below _ _)⟩
   case rest=>
    obtain⟨e14,hbx⟩:=hcut;subst e14;replace hB:=ζ (hB.out.trans (hbx.out.mono (Nat.le_trans h.out.le (Nat.le_refl _))));replace h:=ζ (h.out.gr hbx.out);clear y1 y2 y3 y4 y5 y6 y7 y8 y9 z1 z2 hbx;have As:=h.out.there (boxOb ks (snR t).toArray) (by simp);have Ao:=h.out.there (boxOb k11 (List.toArray [Value.int .i64 t'.over.e,.int .u64 t'.over.v,.int .i64 t'.over.f,.int .i64 t'.at_.gate,.int .i64 t'.at_.pc])) (by simp);have y1:wc.cell? ⟨ks,1,none⟩=some (.int .i64 t.at_.pc):=As.2.1 1;have y2:wc.cell? ⟨k11,0,none⟩=some (.int .i64 t'.over.e):=Ao.2.1 0;have y3:=As.1;have y4:=Ao.1;clear As Ao;go_upto_region 10 with fail;go_cut [56] (fun v wx=>v=.bool (decide (tkC P t=1))∧wc=wx)
    case first=>
     by_cases hp:t.at_.pc<m.comps[kOf P t.at_.gate].code.length
     ·have hpi:(t.at_.pc:Int)<m.comps[kOf P t.at_.gate].code.length:=by omega
      obtain⟨kb,koff,rfl,hkb,hkb2,five⟩:=hl2.out t.at_.pc hp;have f0:=(hB.out.cell (p:=⟨kb,_,none⟩) (show kb<B by omega)).trans five.1;have f1:kb<wc.heap.size:=Nat.lt_of_lt_of_le hkb2 hB.out.size;have hib2:=hib.out;rw[List.getElem?_eq_getElem hp]at hib2;clear five;by_cases h29:m.comps[kOf P t.at_.gate].code[t.at_.pc].op=29
      ·have hi3:inB P t=true:=by rw[hib2];simpa using h29
       rw[h29]at f0;by_cases h6:t'.over.e=6
       ·have hv:Hz (tkC P t=0):=ζ (by rw[htc.out,if_neg (fun q=>q.2 h6)]);have h6b:(t'.over.e != 6)=false:=by simpa using h6
        clear hib2 hi3 h29;replace h6:=ζ h6;go_wp2_with fail;go_meet;exact⟨by rw[hv.out];rfl,rfl⟩
       ·have hv:Hz (tkC P t=1):=ζ (by rw[htc.out,if_pos ⟨hi3,h6⟩]);have h6b:(t'.over.e != 6)=true:=by simpa using h6
        clear hib2 hi3 h29;replace h6:=ζ h6;go_wp2_with fail;go_meet;exact⟨by rw[hv.out];rfl,rfl⟩
      ·have h29b:(m.comps[kOf P t.at_.gate].code[t.at_.pc].op==29)=false:=by simpa using h29
       have hi3:inB P t=false:=by rw[hib2];exact h29b
       have hv:Hz (tkC P t=0):=ζ (by rw[htc.out,if_neg (fun q=>by rw[hi3]at q;cases q.1)]);clear hib2 hi3;replace h29:=ζ h29;generalize m.comps[kOf P t.at_.gate].code[t.at_.pc].op=op at*;go_wp2_with fail;go_meet;exact⟨by rw[hv.out];rfl,rfl⟩
     ·have hpi:¬(t.at_.pc:Int)<m.comps[kOf P t.at_.gate].code.length:=by omega
      have hib2:=hib.out;rw[List.getElem?_eq_none (by omega)]at hib2;have hv:Hz (tkC P t=0):=ζ (by rw[htc.out,if_neg (fun q=>by rw[hib2]at q;cases q.1)]);clear hib2;go_wp2_with fail;go_meet;exact⟨by rw[hv.out];rfl,rfl⟩
    case rest=>
     obtain⟨e56,hwx⟩:=hcut;subst hwx;subst e56;have htk:tkC P t=0∨tkC P t=1:=by rw[htc.out];split<;>simp
     have nw:IntKind.u64.wrap ((n:Int)+1)=(n:Int)+1:=by rw[IntKind.wrap_u64];omega
     clear y1 y3;go_upto_if 56 with fail
     go_cut [9] (fun v wx=>v=.int .u64 ((n+tkC P t:Nat):Int)∧wc=wx)
     case first=>
      rcases htk with q|q
      ·rw[q];go_wp2_with fail;go_meet;exact⟨by simp[q],rfl⟩
      ·rw[q];go_wp2_with fail;go_meet;exact⟨by simp[q],rfl⟩
     case rest=>
      obtain⟨e9,hwx⟩:=hcut;subst hwx;subst e9;clear y2 y4;generalize hn2:n+tkC P t=n2 at*;have hn2b:n2≤j+1:=by omega
      clear nw htk hn2 htc hib;go_upto_region 13 with(go_at_call 30;refine(snap_any B a P t' _ _ h.out).mono ?_;rintro r Y ⟨rfl,e1⟩;have f2:=sn_f2 t' Y;replace hB:=ζ (hB.out.trans (h.out.bl e1).2);replace h:=ζ (h.out.bl e1).1;clear e1)
      clear f2;have Ao:=h.out.there (boxOb k11 (List.toArray [Value.int .i64 t'.over.e,.int .u64 t'.over.v,.int .i64 t'.over.f,.int .i64 t'.at_.gate,.int .i64 t'.at_.pc])) (by simp);have y2:Y.cell? ⟨k11,0,none⟩=some (.int .i64 t'.over.e):=Ao.2.1 0;have y4:=Ao.1;clear Ao;go_upto_if 64 with fail
      go_cut [10] (fun v wx=>v=.int .i64 ((max d t'.st.length:Nat):Int)∧Y=wx)
      case first=>
       by_cases q:d<t'.st.length
       ·have q1:(d:Int)<t'.st.length:=by omega
        have q2:max d t'.st.length=t'.st.length:=by omega
        go_wp2_with fail;go_meet;exact⟨by rw[q2],rfl⟩
       ·have q1:¬(d:Int)<t'.st.length:=by omega
        have q2:max d t'.st.length=d:=by omega
        go_wp2_with fail;go_meet;exact⟨by rw[q2],rfl⟩
      case rest=>
       obtain⟨e10,hwx⟩:=hcut;subst hwx;subst e10;generalize hd2:max d t'.st.length=d2 at*;have hd2b:d2≤100:=by omega
       by_cases he:t'.over.e=0
       ·have heb:(t'.over.e != 0)=false:=by simpa using he
        have jw:IntKind.u64.wrap ((j:Int)+1)=((j+1:Nat):Int):=by rw[IntKind.wrap_u64];omega
        have hnew:Hz (MIn B Y a P t' (boxOb k11 (wO t' (j+1)).toArray::boxOb k8 #[.int .i64 0,.int .u64 0,.int .i64 0,.int .i64 0,.int .i64 0]::boxOb k3 #[.slice ra m.regs.length rc,.slice (some ⟨cb,coff,none⟩) m.comps.length cc,.slice (some ⟨gb,goff,none⟩) m.gates.length gc,.int .i64 m.depth]::l)∧Below B w Y∧Okm P (n0+(j+1)) t'∧t'.over.e=0∧Tk P N s (j+1) t' n2 d2):=ζ ⟨by rw[wO_succ];exact h.out.swap.drop,hB.out,by have:=ok2.out;rwa [Nat.add_assoc]at this,he,hnx.out he⟩;replace he:=ζ he;go_wp2_with fail;go_roundw
        all_goals first|exact⟨j+1,n2,d2,t',rfl,rfl,by first|rfl|simp,by omega,by omega,by omega,hnew⟩|(simp only[intOf];omega)
       ·have heb:(t'.over.e != 0)=true:=by simpa using he
        obtain⟨x1,x2,x3⟩:=hla.out he;have hx:=ζ (And.intro x1 (And.intro x2 x3));replace he:=ζ he;replace h:=ζ h.out.swap.drop;clear x1 x2 x3 y2 y4 hnx hla;have Ao:=h.out.there (boxOb k11 (List.toArray [Value.int .i64 t'.over.e,.int .u64 t'.over.v,.int .i64 t'.over.f,.int .i64 t'.at_.gate,.int .i64 t'.at_.pc])) (by simp);have y2:Y.cell? ⟨k11,0,none⟩=some (.int .i64 t'.over.e):=Ao.2.1 0;have y4:=Ao.1;clear Ao;go_upto_region 16 with fail;clear y2 y4 heb;have Ao:=h.out.there (boxOb k11 (List.toArray [Value.int .i64 t'.over.e,.int .u64 t'.over.v,.int .i64 t'.over.f,.int .i64 t'.at_.gate,.int .i64 t'.at_.pc])) (by simp);have A8:=h.out.there (boxOb k8 #[.int .i64 0,.int .u64 0,.int .i64 0,.int .i64 0,.int .i64 0]) (by simp);have o0:Y.cell? ⟨k11,0,none⟩=some (.int .i64 t'.over.e):=Ao.2.1 0;have o1:Y.cell? ⟨k11,1,none⟩=some (.int .u64 t'.over.v):=Ao.2.1 1;have o2:Y.cell? ⟨k11,2,none⟩=some (.int .i64 t'.over.f):=Ao.2.1 2
        have o3:Y.cell? ⟨k11,3,none⟩=some (.int .i64 t'.at_.gate):=Ao.2.1 3;have o4:Y.cell? ⟨k11,4,none⟩=some (.int .i64 t'.at_.pc):=Ao.2.1 4;have olt:=Ao.1;have⟨zl,zp,zf⟩:=A8;have hA9:=ζ (At.setAll (cs:=[Value.int .i64 0,.int .u64 0,.int .i64 0,.int .i64 0,.int .i64 0]) A8 [Value.int .i64 t'.over.e,.int .u64 t'.over.v,.int .i64 t'.over.f,.int .i64 t'.at_.gate,.int .i64 t'.at_.pc] rfl);have hK9:=T.kp_setCells (fun k=>k=k8) k8 rfl [Value.int .i64 t'.over.e,.int .u64 t'.over.v,.int .i64 t'.over.f,.int .i64 t'.at_.gate,.int .i64 t'.at_.pc] 0 Y;have hS:=ζ (h.out.swap.side (o':=boxOb k8 (List.toArray [Value.int .i64 t'.over.e,.int .u64 t'.over.v,.int .i64 t'.over.f,.int .i64 t'.at_.gate,.int .i64 t'.at_.pc])) hA9.out hK9 (fun _ r=>.inl r));clear Ao A8 hK9;go_region;generalize hZ:World.drew _=Z;have hD:MIn B Z a P t' (boxOb k8 (List.toArray [Value.int .i64 t'.over.e,.int .u64 t'.over.v,.int .i64 t'.over.f,.int .i64 t'.at_.gate,.int .i64 t'.at_.pc])::boxOb k11 (List.toArray [Value.int .i64 t'.over.e,.int .u64 t'.over.v,.int .i64 t'.over.f,.int .i64 t'.at_.gate,.int .i64 t'.at_.pc])::boxOb k3 #[.slice ra m.regs.length rc,.slice (some ⟨cb,coff,none⟩) m.comps.length cc,.slice (some ⟨gb,goff,none⟩) m.gates.length gc,.int .i64 m.depth]::l)∧Below B Y Z:=by
         subst hZ;exact⟨(hS.out.1.bl (Bl.refl _).drew).1,hS.out.2.trans (hS.out.1.bl (Bl.refl _).drew).2⟩
        have hh:=ζ hD.1;have hB2:=ζ (hB.out.trans hD.2);clear hS hA9 o0 o1 o2 o3 o4 olt zl zp zf hZ;have A8:=hh.out.there (boxOb k8 (List.toArray [Value.int .i64 t'.over.e,.int .u64 t'.over.v,.int .i64 t'.over.f,.int .i64 t'.at_.gate,.int .i64 t'.at_.pc])) (by simp);have hrun:=run_loadVar_mid (P:=Tryz.prog) Z k8 0 50 [Value.int .i64 t'.over.e,.int .u64 t'.over.v,.int .i64 t'.over.f,.int .i64 t'.at_.gate,.int .i64 t'.at_.pc] _ (At.range A8) Tryz.underlying50 rfl (by kernel_rfl);clear A8 hD;go_wp2_with fail;have⟨x1,x2,x3⟩:=hx.out;refine bodyPost_ret (v:=.tuple #[.int .u64 n2,.int .i64 d2,.agg (List.toArray [Value.int .i64 t'.over.e,.int .u64 t'.over.v,.int .i64 t'.over.f,.int .i64 t'.at_.gate,.int .i64 t'.at_.pc])]) ?_ rfl ⟨by rw[←x1,←x2,←x3],by rw[←x3];exact hh.out.drop.drop.drop,hB2.out⟩;exact results_3 Tryz.results13 _ _ rfl rfl rfl hrun
  ·have hji:¬(j:Int)<N:=by omega
   have ejN:j=N:=by omega
   subst ejN;obtain⟨x1,x2,x3⟩:=tk.full;have hx:=ζ (And.intro x1 (And.intro x2 x3));have ew:=wO_tl t j (by omega);rw[ew]at h;replace h:=ζ h;replace hB:=ζ hB;clear x1 x2 x3 tk ok h0 ew;go_upto_region 16 with fail
   have Ao:=h.out.there (boxOb k11 (List.toArray [Value.int .i64 t.over.e,.int .u64 t.over.v,.int .i64 t.over.f,.int .i64 t.at_.gate,.int .i64 t.at_.pc])) (by simp);have A8:=h.out.there (boxOb k8 #[.int .i64 0,.int .u64 0,.int .i64 0,.int .i64 0,.int .i64 0]) (by simp);have o0:wr.cell? ⟨k11,0,none⟩=some (.int .i64 t.over.e):=Ao.2.1 0;have o1:wr.cell? ⟨k11,1,none⟩=some (.int .u64 t.over.v):=Ao.2.1 1;have o2:wr.cell? ⟨k11,2,none⟩=some (.int .i64 t.over.f):=Ao.2.1 2;have o3:wr.cell? ⟨k11,3,none⟩=some (.int .i64 t.at_.gate):=Ao.2.1 3;have o4:wr.cell? ⟨k11,4,none⟩=some (.int .i64 t.at_.pc):=Ao.2.1 4;have olt:=Ao.1;have⟨zl,zp,zf⟩:=A8;have hA9:=ζ (At.setAll (cs:=[Value.int .i64 0,.int .u64 0,.int .i64 0,.int .i64 0,.int .i64 0]) A8 [Value.int .i64 t.over.e,.int .u64 t.over.v,.int .i64 t.over.f,.int .i64 t.at_.gate,.int .i64 t.at_.pc] rfl);have hK9:=T.kp_setCells (fun k=>k=k8) k8 rfl [Value.int .i64 t.over.e,.int .u64 t.over.v,.int .i64 t.over.f,.int .i64 t.at_.gate,.int .i64 t.at_.pc] 0 wr
   have hS:=ζ (h.out.swap.side (o':=boxOb k8 (List.toArray [Value.int .i64 t.over.e,.int .u64 t.over.v,.int .i64 t.over.f,.int .i64 t.at_.gate,.int .i64 t.at_.pc])) hA9.out hK9 (fun _ r=>.inl r));clear Ao A8 hK9;go_region;generalize hZ:World.drew _=Z;have hD:MIn B Z a P t (boxOb k8 (List.toArray [Value.int .i64 t.over.e,.int .u64 t.over.v,.int .i64 t.over.f,.int .i64 t.at_.gate,.int .i64 t.at_.pc])::boxOb k11 (List.toArray [Value.int .i64 t.over.e,.int .u64 t.over.v,.int .i64 t.over.f,.int .i64 t.at_.gate,.int .i64 t.at_.pc])::boxOb k3 #[.slice ra m.regs.length rc,.slice ca m.comps.length cc,.slice ga m.gates.length gc,.int .i64 m.depth]::l)∧Below B wr Z:=by
    subst hZ;exact⟨(hS.out.1.bl (Bl.refl _).drew).1,hS.out.2.trans (hS.out.1.bl (Bl.refl _).drew).2⟩
   have hh:=ζ hD.1;have hB2:=ζ (hB.out.trans hD.2);clear hS hA9 o0 o1 o2 o3 o4 olt zl zp zf hZ;have A8:=hh.out.there (boxOb k8 (List.toArray [Value.int .i64 t.over.e,.int .u64 t.over.v,.int .i64 t.over.f,.int .i64 t.at_.gate,.int .i64 t.at_.pc])) (by simp);have hrun:=run_loadVar_mid (P:=Tryz.prog) Z k8 0 50 [Value.int .i64 t.over.e,.int .u64 t.over.v,.int .i64 t.over.f,.int .i64 t.at_.gate,.int .i64 t.at_.pc] _ (At.range A8) Tryz.underlying50 rfl (by kernel_rfl);clear A8 hD;go_wp2_with fail;have⟨x1,x2,x3⟩:=hx.out;refine bodyPost_ret (v:=.tuple #[.int .u64 n,.int .i64 d,.agg (List.toArray [Value.int .i64 t.over.e,.int .u64 t.over.v,.int .i64 t.over.f,.int .i64 t.at_.gate,.int .i64 t.at_.pc])]) ?_ rfl ⟨by rw[←x1,←x2,←x3],by rw[←x3];exact hh.out.drop.drop.drop,hB2.out⟩;exact results_3 Tryz.results13 _ _ rfl rfl rfl hrun
end C
namespace Bd
open Go.RowKit
open T (Kp)
theorem at_past {w w':World}{k:Nat}{a:Array Value}(h:At w k a)(q:Below w.heap.size w w'):At w' k a:=at_keep h (Kp.of_below (S:=fun _=>False) q) id
theorem Cr.past {w w':World}{kr n:Nat}{F:Nat→Option Cst}(h:Cr w kr n F)(q:Below w.heap.size w w'):Cr w' kr n F:=h.keep (Kp.of_below (S:=fun _=>False) q) id
theorem bl_alloc (w:World)(o:Obj):Below w.heap.size w (w.alloc o):=(Below.refl _ _).alloc (Nat.le_refl _) _
theorem bl_drew (w:World):Below w.heap.size w w.drew:=(Below.refl _ _).drew
structure Reg (B n:Nat)(L:List Ins)(ka:Option Addr)(kc kt kr:Nat)(W Y:World):Prop where
 t:At Y kt #[.slice ka L.length kc,.slice (some ⟨kr,0,none⟩) n n]
 r:Cr Y kr n (fun _=>none)
 l:LIn B Y ka L
 b:Below W.heap.size W Y
 t0:W.heap.size≤kt
 r0:W.heap.size≤kr
 ne:kt≠kr
@[reducible] def rwO (n:Nat):Obj:=.cells (madeCells #[Value.bool false,.int .u64 0,.int .u64 0,.int .u64 0] (n*4)) 42
@[reducible] def taO:Obj:=.cells #[.slice none 0 0,.slice none 0 0] 112
@[reducible] def tvO (n:Nat) (L:List Ins) (ka:Option Addr) (kc kr:Nat):Obj:=.cells #[.slice ka L.length kc,.slice (some ⟨kr,0,none⟩) n n] 112
theorem cr_new (w:World)(n:Nat):Cr (w.alloc (rwO n)) w.heap.size n (fun _=>none):=Cr.new w n _
theorem cr_next (w:World)(o:Obj)(n:Nat):Cr ((w.alloc o).alloc (rwO n)) (w.heap.size+1) n (fun _=>none):=by
 have:=cr_new (w.alloc o) n;have e:(w.alloc o).heap.size=w.heap.size+1:=by simp
 rwa [e]at this
section
variable {B n:Nat} {L:List Ins} {ka:Option Addr} {kc:Nat} {W w1:World} (hB:B≤w1.heap.size) (q0:LIn B w1 ka L) (Q1:Below W.heap.size W w1)
include hB q0 Q1
theorem reg1:Reg B n L ka kc (w1.heap.size+1) w1.heap.size W ((w1.alloc (rwO n)).alloc (tvO n L ka kc w1.heap.size)):=by
 have hb:Below w1.heap.size w1 ((w1.alloc (rwO n)).alloc (tvO n L ka kc w1.heap.size)):=(bl_alloc _ _).trans ((bl_alloc _ _).mono (by simp));exact⟨At.next w1 _ _ _,(cr_new w1 n).past (bl_alloc _ _),q0.below (hb.mono hB),Q1.trans (hb.mono Q1.size),by have:=Q1.size;omega,Q1.size,by omega⟩
theorem reg2:Reg B n L ka kc w1.heap.size (w1.heap.size+1) W ((w1.alloc (tvO n L ka kc (w1.heap.size+1))).alloc (rwO n)):=by
 have hb:Below w1.heap.size w1 ((w1.alloc (tvO n L ka kc (w1.heap.size+1))).alloc (rwO n)):=(bl_alloc _ _).trans ((bl_alloc _ _).mono (by simp));exact⟨at_past (At.new w1 _ _) (bl_alloc _ _),cr_next w1 _ n,q0.below (hb.mono hB),Q1.trans (hb.mono Q1.size),Q1.size,by have:=Q1.size;omega,by omega⟩
theorem reg3 (hW:W.heap.size<w1.heap.size)(q1:Below (W.alloc (rwO n)).drew.heap.size (W.alloc (rwO n)).drew w1):Reg B n L ka kc w1.heap.size W.heap.size W (w1.alloc (tvO n L ka kc W.heap.size)):=by
 exact⟨At.new w1 _ _,(((cr_new W n).past (bl_drew _)).past q1).past (bl_alloc _ _),q0.below ((bl_alloc _ _).mono hB),Q1.trans ((bl_alloc _ _).mono Q1.size),Q1.size,Nat.le_refl _,by omega⟩
theorem reg4 (hW:B≤W.heap.size)(q1:Below ((W.alloc (rwO n)).alloc taO).drew.heap.size ((W.alloc (rwO n)).alloc taO).drew w1):Reg B n L ka kc (W.heap.size+1) W.heap.size W (w1.setCells (W.heap.size+1) 0 [.slice ka L.length kc,.slice (some ⟨W.heap.size,0,none⟩) n n]):=by
 have hk:=kp_sets w1 (W.heap.size+1) [.slice ka L.length kc,.slice (some ⟨W.heap.size,0,none⟩) n n] 0;have hb:=hk.below Q1.size (fun k q=>by omega);have ha:At w1 (W.heap.size+1) #[.slice none 0 0,.slice none 0 0]:=at_past (at_past (At.next W _ _ _) (bl_drew _)) q1;exact⟨At.setAll (cs:=[.slice none 0 0,.slice none 0 0]) ha _ rfl,((((cr_new W n).past (bl_alloc _ _)).past (bl_drew _)).past q1).keep hk (by omega),q0.below (hk.below hB (fun k q=>by omega)),Q1.trans hb,by omega,Nat.le_refl _,by omega⟩
theorem reg5 (hW:B≤W.heap.size)(q1:Below (W.alloc taO).drew.heap.size (W.alloc taO).drew w1):Reg B n L ka kc W.heap.size w1.heap.size W ((w1.setCells W.heap.size 0 [.slice ka L.length kc,.slice (some ⟨w1.heap.size,0,none⟩) n n]).alloc (rwO n)):=by
 have hk:=kp_sets w1 W.heap.size [.slice ka L.length kc,.slice (some ⟨w1.heap.size,0,none⟩) n n] 0;have hb:=hk.below Q1.size (fun k q=>by omega);have ha:At w1 W.heap.size #[.slice none 0 0,.slice none 0 0]:=at_past (at_past (At.new W _ _) (bl_drew _)) q1;have hs:(w1.setCells W.heap.size 0 [.slice ka L.length kc,.slice (some ⟨w1.heap.size,0,none⟩) n n]).heap.size=w1.heap.size:=setCells_size _ _ _ _;have hr:=cr_new (w1.setCells W.heap.size 0 [.slice ka L.length kc,.slice (some ⟨w1.heap.size,0,none⟩) n n]) n;rw[hs]at hr;have hlt:=ha.1;exact⟨at_past (At.setAll (cs:=[.slice none 0 0,.slice none 0 0]) ha _ rfl) (bl_alloc _ _),hr,(q0.below (hk.below hB (fun k q=>by omega))).below ((bl_alloc _ _).mono (by rw[hs];exact hB)),(Q1.trans hb).trans ((bl_alloc _ _).mono (by rw[hs];exact Q1.size)),Nat.le_refl _,Q1.size,by omega⟩
theorem reg6 (hW:B≤W.heap.size)(q1:Below ((W.alloc taO).alloc (rwO n)).drew.heap.size ((W.alloc taO).alloc (rwO n)).drew w1):Reg B n L ka kc W.heap.size (W.heap.size+1) W (w1.setCells W.heap.size 0 [.slice ka L.length kc,.slice (some ⟨W.heap.size+1,0,none⟩) n n]):=by
 have hk:=kp_sets w1 W.heap.size [.slice ka L.length kc,.slice (some ⟨W.heap.size+1,0,none⟩) n n] 0;have hb:=hk.below Q1.size (fun k q=>by omega);have ha:At w1 W.heap.size #[.slice none 0 0,.slice none 0 0]:=at_past (at_past (at_past (At.new W _ _) (bl_alloc _ _)) (bl_drew _)) q1;exact⟨At.setAll (cs:=[.slice none 0 0,.slice none 0 0]) ha _ rfl,(((cr_next W _ n).past (bl_drew _)).past q1).keep hk (by omega),q0.below (hk.below hB (fun k q=>by omega)),Q1.trans hb,Nat.le_refl _,by omega,by omega⟩
end
end Bd
end Go.Proofs.YthlpjlnehonpdaaGreatDoor
