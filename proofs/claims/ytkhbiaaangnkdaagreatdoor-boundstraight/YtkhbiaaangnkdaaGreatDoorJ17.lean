import Derived.Test.YtkhbiaaangnkdaaGreatDoorJ15
import Derived.Test.YtkhbiaaangnkdaaGreatDoorJ16
import Derived.Test.YtkhbiaaangnkdaaGreatDoorJTBase
namespace Go.Proofs.YtkhbiaaangnkdaaGreatDoor
namespace Bd
open Go.RowKit
open F (folB Rch rchB rchB_iff thB wyF wayN)
def cll:Ins:=⟨31,0,0,0,1⟩
def hlt:Ins:=⟨27,0,0,0,0⟩
def rti:Ins:=⟨32,0,0,0,0⟩
def mnL (n:Nat):List Ins:=List.replicate n cll++[hlt]
def cdL (L:List Ins):List Ins:=L++[rti]
def stP (L:List Ins)(n:Nat):PImg:=⟨[],[⟨[],mnL n⟩,⟨[],cdL L⟩],[⟨0,0,[],[]⟩,⟨1,0,[],[]⟩],1⟩
def StI (i:Ins):Prop:=i=⟨29,1,0,0,0⟩∨∃b:Nat,b<8∧i=⟨3,1,b,2,0⟩
theorem StI.op {i:Ins}(h:StI i):i.op=29∨i.op=3:=by
 rcases h with rfl|⟨b,_,rfl⟩
 ·exact .inl rfl
 ·exact .inr rfl
theorem StI.rt {i:Ins}(h:StI i):i.right=0:=by
 rcases h with rfl|⟨b,hb,rfl⟩
 ·kernel_rfl
 ·rcases(by omega:b=0∨b=1∨b=2∨b=3∨b=4∨b=5∨b=6∨b=7)with rfl|rfl|rfl|rfl|rfl|rfl|rfl|rfl<;>kernel_rfl
theorem cll_rt:cll.right=0:=by kernel_rfl
theorem hlt_rt:hlt.right=0:=by kernel_rfl
theorem rti_rt:rti.right=0:=by kernel_rfl
theorem mn_mem {n:Nat}{i:Ins}(h:i∈mnL n):i=cll∨i=hlt:=by
 rcases List.mem_append.1 h with h|h
 ·exact .inl (List.eq_of_mem_replicate h)
 ·exact .inr (List.mem_singleton.1 h)
theorem cd_mem {L:List Ins}{i:Ins}(h:i∈cdL L):i∈L∨i=rti:=by
 rcases List.mem_append.1 h with h|h
 ·exact .inl h
 ·exact .inr (List.mem_singleton.1 h)
theorem mn_len (n:Nat):(mnL n).length=n+1:=by unfold mnL;simp
theorem cd_len (L:List Ins):(cdL L).length=L.length+1:=by unfold cdL;simp
def sW (w:Ins→Int):List Ins→Int
 |[]=>0
 |i::l=>w i+sW w l
section
variable {w:Ins→Int}
theorem sW_nn (hw:∀i,0≤w i∧w i≤1000):∀L:List Ins,0≤sW w L∧sW w L≤1000*(L.length:Int)
 |[]=>⟨Int.le_refl _,Int.le_refl _⟩
 |i::l=>by
  have h1:=sW_nn hw l;have h2:=hw i;rw[List.length_cons];unfold sW;omega
theorem sW_app:∀A B:List Ins,sW w (A++B)=sW w A+sW w B
 |[],B=>by show sW w B=0+sW w B;omega
 |i::A,B=>by
  show w i+sW w (A++B)=w i+sW w A+sW w B;rw[sW_app A B];omega
theorem sW_all {k:Int}:∀A:List Ins,(∀i∈A,w i=k)→sW w A=A.length*k
 |[],_=>by show(0:Int)=((0:Nat):Int)*k;simp
 |i::A,h=>by
  show w i+sW w A=((A.length+1:Nat):Int)*k;rw[sW_all A (fun x hx=>h x (.tail _ hx)),h i (.head _),Int.natCast_add,Int.add_mul];show k+_=_+1*k;omega
end
def Lin (L:List Ins):Prop:=∀pc (h:pc<L.length),(pc+1<L.length→wayN L[pc].op=0)∧(pc+1=L.length→L[pc].op=27∨L[pc].op=32)
theorem lin_snoc {A:List Ins}{x:Ins}(hA:∀i∈A,wayN i.op=0)(hx:x.op=27∨x.op=32):Lin (A++[x]):=fun pc h=>by
 have hl:(A++[x]).length=A.length+1:=by simp
 rw[hl]at h;rw[hl];refine⟨fun q=>?_,fun q=>?_⟩
 ·rw[List.getElem_append_left (by omega)];exact hA _ (List.getElem_mem _)
 ·rw[List.getElem_append_right (by omega)];simpa using hx
theorem lin_mn (n:Nat):Lin (mnL n):=lin_snoc (fun i h=>by rw[List.eq_of_mem_replicate h];rfl) (.inl rfl)
theorem lin_cd {L:List Ins}(h:∀i∈L,StI i):Lin (cdL L):=lin_snoc (fun i hi=>by rcases(h i hi).op with e|e<;>rw[e]<;>rfl) (.inr rfl)
theorem filter_no {p:Nat→Bool}{n:Nat}(h:∀q,q<n→p q=false):(List.range n).filter p=[]:=List.filter_eq_nil_iff.2 fun q hq=>by rw[h q (List.mem_range.1 hq)];exact Bool.false_ne_true
theorem filter_one {p:Nat→Bool}{k:Nat}(hk:p k=true)(h:∀q,q≠k→p q=false):∀n,k<n→(List.range n).filter p=[k]
 |0,h0=>absurd h0 (Nat.not_lt_zero k)
 |n+1,hn=>by
  rw[List.range_succ,List.filter_append];by_cases e:k=n
  ·subst e;rw[filter_no fun q hq=>h q (by omega)];simp[hk]
  ·rw[filter_one hk h n (by omega)];simp[h n (fun q=>e q.symm)]
theorem nxN_lin {L:List Ins}(hL:Lin L){pc:Nat}(h:pc<L.length):nxN L pc=if pc+1<L.length then [pc+1]else []:=by
 obtain⟨h1,h2⟩:=hL pc h;have hg:L[pc]?=some L[pc]:=List.getElem?_eq_getElem h;have ht:thB L.length pc=true:=by unfold thB;simp;omega
 unfold nxN;rw[if_pos ht];by_cases q:pc+1<L.length
 ·have hw:=h1 q;rw[if_pos q,filter_one (k:=pc+1) (by unfold folB;rw[hg];simp[wyF,hw,q]) (fun x hx=>by unfold folB;rw[hg];simp[wyF,hw,hx]) L.length q];have:ovB L pc=false:=by unfold ovB;rw[decide_eq_false (by omega)];rfl
  rw[if_neg (by rw[this];exact Bool.false_ne_true)]
  rfl
 ·have e:pc+1=L.length:=by omega
  have ho:=h2 e;have hw:wayN L[pc].op=4:=by rcases ho with o|o<;>rw[o]<;>rfl
  rw[if_neg q,filter_no (fun x _=>by unfold folB;rw[hg];simp[wyF,hw])];have:ovB L pc=false:=by unfold ovB;rw[hg];rcases ho with o|o<;>simp[o]
  rw[if_neg (by rw[this];exact Bool.false_ne_true)]
  rfl
section
variable {L:List Ins} {cF:Nat→Int} {w:Ins→Int} (hL:Lin L) (hw:∀i,0≤w i∧w i≤1000) (hc:∀pc (h:pc<L.length),cF pc=w L[pc]) (hl:L.length≤400)
include hL hw hc hl
theorem sum_lin:∀d pc,pc+d+1=L.length→evF (nxN L) (wyS cF) (d+1) pc=some (sW w (L.drop pc))
 |0,pc,e=>by
  have hp:pc<L.length:=by omega
  rw[evF_put (vs:=[]) (by rw[nxN_lin hL hp,if_neg (by omega)];rfl)];unfold wyS;rw[hc pc hp,List.drop_eq_getElem_cons hp,List.drop_eq_nil_of_le (by omega)];have:=hw L[pc];show some (IntKind.u64.wrap (w L[pc]+mxL []))=some (w L[pc]+0);rw[show mxL []=0 from rfl,wrapU _ (by omega)]
 |d+1,pc,e=>by
  have hp:pc<L.length:=by omega
  have ih:=sum_lin d (pc+1) (by omega);rw[evF_put (vs:=[sW w (L.drop (pc+1))]) (by rw[nxN_lin hL hp,if_pos (by omega)];show [_]=[_];rw[ih])];unfold wyS;rw[hc pc hp,List.drop_eq_getElem_cons hp];have:=hw L[pc];have h2:=sW_nn hw (L.drop (pc+1));rw[List.length_drop]at h2;have hm:mxL [sW w (L.drop (pc+1))]=sW w (L.drop (pc+1)):=by show max 0 _=_;omega
  rw[hm,wrapU _ (by omega)]
  rfl
theorem sumS_lin (h0:0<L.length):sumS L cF 0=some (sW w L):=by
 obtain⟨d,hd⟩:∃d,L.length=d+1:=⟨L.length - 1,by omega⟩;have:=sum_lin hL hw hc hl d 0 (by omega);rw[List.drop_zero]at this;unfold sumS ev;rw[List.length_range];exact evF_le _ _ (by omega) this
end
def wS (k:Int)(i:Ins):Int:=if i.op=31 then 1+k else 1
def wI (u:Int)(i:Ins):Int:=if i.op=29 then 1 else if i.op=31 then u else 0
theorem wS_in {k:Int}(h:0≤k∧k≤900)(i:Ins):0≤wS k i∧wS k i≤1000:=by unfold wS;split<;>omega
theorem wI_in {u:Int}(h:0≤u∧u≤900)(i:Ins):0≤wI u i∧wI u i≤1000:=by
 unfold wI
 split
 ·omega
 ·split<;>omega
theorem stF_is {L:List Ins}{sg:Nat→Int}(hm:∀i∈L,i.op=31→i.m=1)(hk:0≤sg 1∧sg 1≤900)(pc:Nat)(h:pc<L.length):stF L sg pc=wS (sg 1) L[pc]:=by
 unfold stF caF wS;rw[List.getElem?_eq_getElem h];dsimp only;by_cases o:L[pc].op=31
 ·rw[if_pos o,if_pos o,hm _ (List.getElem_mem h) o];show IntKind.u64.wrap (1+sg 1)=1+sg 1;exact wrapU _ (by omega)
 ·rw[if_neg o,if_neg o];exact wrapU _ (by omega)
theorem inF_is {L:List Ins}{ig:Nat→Int}(hm:∀i∈L,i.op=31→i.m=1)(pc:Nat)(h:pc<L.length):inF L ig pc=wI (ig 1) L[pc]:=by
 unfold inF caF wI;rw[List.getElem?_eq_getElem h];dsimp only;by_cases o:L[pc].op=29
 ·rw[if_pos o,if_pos o]
 ·rw[if_neg o,if_neg o];by_cases o:L[pc].op=31
  ·rw[if_pos o,if_pos o,hm _ (List.getElem_mem h) o]
   rfl
  ·rw[if_neg o,if_neg o]
def insN (L:List Ins):Int:=sW (wI 0) L
theorem insN_in (L:List Ins):0≤insN L∧insN L≤L.length:=by
 unfold insN
 induction L with
 |nil=>exact⟨Int.le_refl _,Int.le_refl _⟩
 |cons i l ih=>
  have:0≤wI 0 i∧wI 0 i≤1:=by
   unfold wI
   split
   ·omega
   ·split<;>omega
  show 0≤wI 0 i+sW (wI 0) l∧wI 0 i+sW (wI 0) l≤((l.length+1:Nat):Int);omega
section
variable {L:List Ins} {n:Nat} (hL:∀i∈L,StI i) (hl:L.length≤30) (hn:n≤5)
include hL
theorem cd_noc:∀i∈cdL L,i.op≠31:=fun i hi=>by
 rcases cd_mem hi with h|rfl
 ·rcases(hL i h).op with e|e<;>rw[e]<;>decide
 ·decide
theorem nx1:nxG (stP L n) 1=[]:=calL_none (cd_noc hL)
include hl
theorem ct1:ctF (stP L n) 1 []=some ⟨L.length+1,0,insN L⟩:=by
 have hm:∀i∈cdL L,i.op=31→i.m=1:=fun i hi o=>absurd o (cd_noc hL i hi)
 have hlen:=cd_len L;unfold ctF;rw[nx1 hL];rw[show gcode (stP L n) 1=cdL L from rfl,show(gent (stP L n) 1).toNat=0 from rfl];rw[sumS_lin (w:=wS 0) (lin_cd hL) (wS_in (by omega)) (fun pc h=>stF_is (sg:=sF (rowF [] [])) hm ⟨Int.le_refl _,by decide⟩ pc h) (by omega) (by omega)];rw[sumS_lin (w:=wI 0) (lin_cd hL) (wI_in (by omega)) (fun pc h=>inF_is (ig:=iF (rowF [] [])) hm pc h) (by omega) (by omega)];have e1:sW (wS 0) (cdL L)=L.length+1:=by
  rw[sW_all (k:=1) (cdL L) (fun i _=>by unfold wS;split<;>rfl),hlen];omega
 have e2:sW (wI 0) (cdL L)=insN L:=by
  unfold cdL;rw[sW_app];show insN L+(0+0)=insN L;omega
 rw[e1,e2];dsimp only;rw[if_neg (by omega)]
 rfl
theorem ev1 (k:Nat):evF (nxG (stP L n)) (ctF (stP L n)) (k+1) 1=some ⟨L.length+1,0,insN L⟩:=by
 rw[evF_put (vs:=[]) (by rw[nx1 hL];rfl)];exact ct1 hL hl
omit hL hl
theorem nx0:∀x∈nxG (stP L n) 0,x=1:=fun x hx=>by
 obtain⟨pc,h1,rfl⟩:=List.mem_map.1 hx;obtain⟨h2,h3⟩:=List.mem_filter.1 h1;have hp:pc<(mnL n).length:=List.mem_range.1 h2;have hg:(mnL n)[pc]?=some (mnL n)[pc]:=List.getElem?_eq_getElem hp;unfold calB at h3;show imF (mnL n) pc=1;unfold imF;rw[show gcode (stP L n) 0=mnL n from rfl,hg]at h3;rw[hg];simp only[Bool.and_eq_true,beq_iff_eq]at h3;rcases mn_mem (List.getElem_mem hp)with e|e
 ·rw[e];rfl
 ·rw[e]at h3;exact absurd h3.2 (by decide)
theorem nx0_in (h:0<n):1∈nxG (stP L n) 0:=by
 obtain⟨k,rfl⟩:∃k,n=k+1:=⟨n - 1,by omega⟩;have hg:(mnL (k+1))[0]?=some cll:=by unfold mnL;rw[List.replicate_succ];rfl
 have hl:0<(mnL (k+1)).length:=by rw[mn_len];omega
 refine List.mem_map.2 ⟨0,List.mem_filter.2 ⟨List.mem_range.2 hl,?_⟩,?_⟩
 ·unfold calB;rw[show gcode (stP L (k+1)) 0=mnL (k+1)from rfl,hg,show gent (stP L (k+1)) 0=0 from rfl,rchB_iff.2 (Rch.base (by simp) hl (by decide))]
  rfl
 ·show imF (mnL (k+1)) 0=1;unfold imF;rw[hg];rfl
theorem nx0_no:nxG (stP L 0) 0=[]:=calL_none fun i hi=>by
 rcases mn_mem (n:=0) hi with rfl|rfl
 ·cases hi with
  |tail _ h=>cases h
 ·decide
theorem mc_same:∀(vs:List Cst),(∀x∈vs,x.c=0)→∀a:Int,(vs=[]∨a=1∨a=0)→vs.foldl (fun a d=>max a (IntKind.u64.wrap (d.c+1))) a=if vs=[]then a else 1
 |[],_,a,_=>by rw[if_pos rfl];rfl
 |x::vs,h,a,ha=>by
  rw[if_neg (by simp),List.foldl_cons,h x (.head _)];have e:max a (IntKind.u64.wrap (0+1))=1:=by
   rw[wrapU _ (by omega)];rcases ha with q|q|q
   ·cases q
   ·omega
   ·omega
  rw[e,mc_same vs (fun y hy=>h y (.tail _ hy)) 1 (.inr (.inl rfl))]
  split<;>rfl
include hL hl hn
theorem ev0:evF (nxG (stP L n)) (ctF (stP L n)) 2 0=some ⟨n*((L.length:Int)+2)+1,if n=0 then 0 else 1,n*insN L⟩:=by
 have hi:=insN_in L;have hN:∀x∈nxG (stP L n) 0,evF (nxG (stP L n)) (ctF (stP L n)) 1 x=some ⟨L.length+1,0,insN L⟩:=fun x hx=>by
  rw[nx0 x hx];exact ev1 hL hl 0
 obtain⟨v,hv⟩:∃v:Cst,v=⟨L.length+1,0,insN L⟩:=⟨_,rfl⟩;rw[←hv]at hN;have hmap:(nxG (stP L n) 0).map (evF (nxG (stP L n)) (ctF (stP L n)) 1)=((nxG (stP L n) 0).map fun _=>v).map some:=by
  rw[List.map_map];exact List.map_congr_left fun x hx=>hN x hx
 rw[evF_put hmap];have hrow:(n=0∧nxG (stP L n) 0=[])∨(0<n∧nxG (stP L n) 0≠[]∧rowF (nxG (stP L n) 0) ((nxG (stP L n) 0).map fun _=>v) 1=some v):=by
  by_cases h0:n=0
  ·subst h0;exact .inl ⟨rfl,nx0_no⟩
  ·have h1:=nx0_in (L:=L) (n:=n) (by omega);exact .inr ⟨by omega,fun q=>(by rw[q]at h1;cases h1),rowF_at hmap h1 (hN 1 h1)⟩
 have hs:0≤sF (rowF (nxG (stP L n) 0) ((nxG (stP L n) 0).map fun _=>v)) 1∧sF (rowF (nxG (stP L n) 0) ((nxG (stP L n) 0).map fun _=>v)) 1≤900∧(n:Int)*(1+sF (rowF (nxG (stP L n) 0) ((nxG (stP L n) 0).map fun _=>v)) 1)=n*((L.length:Int)+2):=by
  rcases hrow with⟨h0,h1⟩|⟨h0,h1,h2⟩
  ·rw[h1,h0];exact⟨Int.le_refl _,(by show(0:Int)≤900;decide),by simp⟩
  ·unfold sF;rw[h2,hv];dsimp only;exact⟨by omega,by omega,by rw[show (1:Int)+(L.length+1)=L.length+2 by omega]⟩
 have hu:0≤iF (rowF (nxG (stP L n) 0) ((nxG (stP L n) 0).map fun _=>v)) 1∧iF (rowF (nxG (stP L n) 0) ((nxG (stP L n) 0).map fun _=>v)) 1≤900∧(n:Int)*iF (rowF (nxG (stP L n) 0) ((nxG (stP L n) 0).map fun _=>v)) 1=n*insN L:=by
  rcases hrow with⟨h0,h1⟩|⟨h0,h1,h2⟩
  ·rw[h1,h0];exact⟨Int.le_refl _,(by show(0:Int)≤900;decide),by simp⟩
  ·unfold iF;rw[h2,hv];dsimp only;exact⟨by omega,by omega,rfl⟩
 have hm:mcL ((nxG (stP L n) 0).map fun _=>v)=if n=0 then 0 else 1:=by
  unfold mcL;rw[mc_same _ (fun x hx=>by obtain⟨_,_,rfl⟩:=List.mem_map.1 hx;rw[hv]) 0 (.inr (.inr rfl))];rcases hrow with⟨h0,h1⟩|⟨h0,h1,h2⟩
  ·rw[h1,if_pos h0];rfl
  ·rw[if_neg (fun q=>h1 (List.map_eq_nil_iff.1 q)),if_neg (by omega)]
 have hc:∀i∈mnL n,i.op=31→i.m=1:=fun i hi o=>by
  rcases mn_mem hi with rfl|rfl
  ·rfl
  ·exact absurd o (by decide)
 have hlen:=mn_len n;unfold ctF;rw[show gcode (stP L n) 0=mnL n from rfl,show(gent (stP L n) 0).toNat=0 from rfl,hm];clear hm hrow hmap hN hv;generalize rowF (nxG (stP L n) 0) ((nxG (stP L n) 0).map fun _=>v)=R at*;rw[sumS_lin (w:=wS (sF R 1)) (lin_mn n) (wS_in ⟨hs.1,hs.2.1⟩) (fun pc h=>stF_is hc ⟨hs.1,hs.2.1⟩ pc h) (by omega) (by omega)];rw[sumS_lin (w:=wI (iF R 1)) (lin_mn n) (wI_in ⟨hu.1,hu.2.1⟩) (fun pc h=>inF_is hc pc h) (by omega) (by omega)];have e1:sW (wS (sF R 1)) (mnL n)=n*((L.length:Int)+2)+1:=by
  unfold mnL;rw[sW_app,sW_all (k:=1+sF R 1) _ (fun i hi=>by rw[List.eq_of_mem_replicate hi];rfl),List.length_replicate,hs.2.2]
  rfl
 have e2:sW (wI (iF R 1)) (mnL n)=n*insN L:=by
  unfold mnL;rw[sW_app,sW_all (k:=iF R 1) _ (fun i hi=>by rw[List.eq_of_mem_replicate hi];rfl),List.length_replicate,hu.2.2];exact Int.add_zero _
 have hb:(n:Int)*((L.length:Int)+2)≤5*32:=Int.mul_le_mul (by omega) (by omega) (by omega) (by omega);rw[e1,e2];dsimp only;rw[if_neg (by omega)]
 rfl
end
theorem codeF_of {c g:Int}:∀L:List Ins,(∀i∈L,i.right=0∧tgtB i.op i.m c g=true)→codeF c g L=0
 |[],_=>rfl
 |i::l,h=>by
  unfold codeF;rw[if_pos (h i (.head _)).1,if_pos (h i (.head _)).2];exact codeF_of l fun x hx=>h x (.tail _ hx)
theorem st_right {L:List Ins}{n:Nat}(hL:∀i∈L,StI i)(hl:L.length≤30)(hn:n≤5):(stP L n).right=0:=by
 have h1:codeR (mnL n) 2=0:=by
  unfold codeR;rw[if_neg (by rw[mn_len];omega)];refine codeF_of _ fun i hi=>?_
  rcases mn_mem hi with rfl|rfl
  ·exact⟨cll_rt,rfl⟩
  ·exact⟨hlt_rt,rfl⟩
 have h2:codeR (cdL L) 2=0:=by
  unfold codeR;rw[if_neg (by rw[cd_len];omega)];refine codeF_of _ fun i hi=>?_
  rcases cd_mem hi with h|rfl
  ·refine⟨(hL i h).rt,?_⟩;unfold tgtB;rcases(hL i h).op with e|e<;>rw[e]<;>rfl
  ·exact⟨rti_rt,rfl⟩
 have h3:compsR 2 [⟨[],mnL n⟩,⟨[],cdL L⟩]=0:=by simp[compsR,rootsR,h1,h2]
 have h4:gatesR [⟨[],mnL n⟩,⟨[],cdL L⟩] [⟨0,0,[],[]⟩,⟨1,0,[],[]⟩]=0:=by simp[gatesR,hasI,typesR,mn_len,cd_len]
 show(if countsB 0 2 2 1 then(if regsR [] 0=0 then(if compsR 2 [⟨[],mnL n⟩,⟨[],cdL L⟩]=0 then gatesR [⟨[],mnL n⟩,⟨[],cdL L⟩] [⟨0,0,[],[]⟩,⟨1,0,[],[]⟩]else compsR 2 [⟨[],mnL n⟩,⟨[],cdL L⟩])else regsR [] 0)else 42)=(0:Int);rw[h3,h4]
 rfl
theorem st_rng {L:List Ins}{n:Nat}(hL:∀i∈L,StI i)(hl:L.length≤30)(hn:n≤5):(stP L n).Rng:=by
 refine⟨⟨show 0≤maxG by decide,fun r q=>by cases q⟩,⟨show 2≤maxG by decide,fun c q=>?_⟩,⟨show 2≤maxG by decide,fun g q=>?_⟩,show(-9223372036854775808:Int)≤1 by decide,show(1:Int)<9223372036854775808 by decide⟩
 ·rcases List.mem_cons.1 q with rfl|q
  ·refine⟨show 0≤maxG by decide,?_,fun i hi=>?_,fun k q=>by cases q⟩
   ·show(mnL n).length≤maxI;rw[mn_len];unfold maxI;omega
   ·rcases mn_mem hi with rfl|rfl<;>decide
  ·obtain rfl:=List.mem_singleton.1 q;refine⟨show 0≤maxG by decide,?_,fun i hi=>?_,fun k q=>by cases q⟩
   ·show(cdL L).length≤maxI;rw[cd_len];unfold maxI;omega
   ·rcases cd_mem hi with h|rfl
    ·rcases(hL i h).op with e|e<;>rw[e]<;>decide
    ·decide
 ·rcases List.mem_cons.1 q with rfl|q
  ·exact⟨⟨by decide,by decide⟩,⟨by decide,by decide⟩,by decide,by decide,fun k q=>(by cases q),fun k q=>(by cases q)⟩
  ·obtain rfl:=List.mem_singleton.1 q;exact⟨⟨by decide,by decide⟩,⟨by decide,by decide⟩,by decide,by decide,fun k q=>(by cases q),fun k q=>(by cases q)⟩
theorem gate_st {L:List Ins}{n:Nat}(hL:∀i∈L,StI i)(hl:L.length≤30)(hn:n≤5):
 gtV (if hgB (stP L n) 0=true then ev (nxG (stP L n)) (ctF (stP L n)) (List.range (stP L n).gates.length) (0:Int).toNat else none)=.agg #[.bool true,.int .u64 (n*((L.length:Int)+2)+1),.int .u64 (if n=0 then 0 else 1),.int .u64 (n*insN L)]∧
 gtV (if hgB (stP L n) 1=true then ev (nxG (stP L n)) (ctF (stP L n)) (List.range (stP L n).gates.length) (1:Int).toNat else none)=.agg #[.bool true,.int .u64 ((L.length:Int)+1),.int .u64 0,.int .u64 (insN L)]:=by
 have h0:hgB (stP L n) 0=true:=by unfold hgB;rw[st_right hL hl hn];rfl
 have h1:hgB (stP L n) 1=true:=by unfold hgB;rw[st_right hL hl hn];rfl
 rw[if_pos h0,if_pos h1];refine⟨?_,?_⟩
 ·show gtV (evF (nxG (stP L n)) (ctF (stP L n)) 2 0)=_;rw[ev0 hL hl hn]
  rfl
 ·show gtV (evF (nxG (stP L n)) (ctF (stP L n)) 2 1)=_;rw[ev1 hL hl 1]
  rfl
end Bd
set_option maxRecDepth 100000
set_option maxHeartbeats 40000000
namespace T
open Go.RowKit
theorem get_any (S:Nat→Prop)(a addr:Nat)(b:Nat→UInt8)(w:World)(h:PgIn S w a b)(ha:addr<65536):
 Calls Tryz.prog 172 #[.pointer (some ⟨a,0,none⟩),.int .u64 addr] w fun x w'=>x=.returned (bv (b addr))∧w'=w:=by
 obtain⟨pg,h⟩:=h;have h1:=(h.box (addr/1024) (by omega)).1
 cases e:pg (addr/1024)with
 |none=>
  rw[e]at h1;have hz:=h.zero (addr/1024) (by omega) e (addr%1024) (by omega);rw[show addr/1024*1024+addr%1024=addr by omega]at hz;rw[hz];replace h:=Hid.mk h;simp only[ptr,Option.map_none]at h1;go_enter Tryz.func172,Tryz.ntmps172;go_wp2_with fail;go_ret;exact⟨rfl,rfl⟩
 |some k=>
  rw[e]at h1;have h2:=((h.page (addr/1024) k (by omega) e).2.2 (addr%1024) (by omega)).1;rw[show addr/1024*1024+addr%1024=addr by omega]at h2;replace h:=Hid.mk h;simp only[ptr,Option.map_some]at h1;unfold bv at*;go_enter Tryz.func172,Tryz.ntmps172;go_wp2_with fail;go_ret;exact⟨rfl,rfl⟩
theorem Pg.put {S:Nat→Prop}{w:World}{a:Nat}{pg:Nat→Option Nat}{b:Nat→UInt8}(h:Pg S w a pg b)(addr k:Nat)(v:UInt8)(ha:addr<65536)(e:pg (addr/1024)=some k):
 Pg S (w.setCell ⟨k,addr%1024,none⟩ (bv v)) a pg (upd b addr v):=by
 have hp:=h.page _ k (by omega) e;have hka:k≠a:=fun q=>h.no (q▸hp.1)
 refine⟨by simpa using h.lt,h.no,fun k' q=>by simpa using h.own k' q,fun i hi=>⟨?_,?_⟩,fun i k' hi he=>?_,fun i hi he j hj=>?_,h.inj⟩
 ·rw[cso (fun q=>absurd q hka)];exact(h.box i hi).1
 ·simpa using(h.box i hi).2
 ·obtain⟨g1,g2,g3⟩:=h.page i k' hi he;refine⟨g1,by simpa using g2,fun j hj=>⟨?_,by simpa using(g3 j hj).2⟩⟩;by_cases hq:k=k'∧addr%1024=j
  ·obtain⟨rfl,rfl⟩:=hq;have hi':i=addr/1024:=h.inj i (addr/1024) k hi (by omega) he e;rw[World.cell?_setCell_same _ _ _ (g3 _ hj).1];have:i*1024+addr%1024=addr:=by omega
   simp[upd,this]
  ·rw[cso (fun q r=>hq ⟨q,r⟩),(g3 j hj).1];have:i*1024+j≠addr:=by
    intro q;have e1:i=addr/1024:=by omega
    subst e1;rw[e]at he;exact hq ⟨by simpa using he,by omega⟩
   simp[upd,this]
 ·have:i*1024+j≠addr:=by
   intro q;have e1:i=addr/1024:=by omega
   subst e1;rw[e]at he;simp at he
  simp[upd,this,h.zero i hi he j hj]
theorem Pg.put_fr {S:Nat→Prop}{w:World}{a:Nat}{pg:Nat→Option Nat}{b:Nat→UInt8}(h:Pg S w a pg b)(addr k:Nat)(v:Value)(ha:addr<65536)(e:pg (addr/1024)=some k):
 Fr S S w (w.setCell ⟨k,addr%1024,none⟩ v) a:=by
 have hp:=h.page _ k (by omega) e;have hka:k≠a:=fun q=>h.no (q▸hp.1)
 exact⟨fun _ q=>q,fun _ q=>.inl q,Kp.set w _ _ (.inr hp.1),fun o _=>⟨cso (fun q=>absurd q hka),by simp⟩⟩
theorem Pg.lay {S:Nat→Prop}{w:World}{a:Nat}{pg:Nat→Option Nat}{b:Nat→UInt8}(h:Pg S w a pg b)(i0:Nat)(t:TypeId)(hi0:i0<64)(e:pg i0=none):
 Pg (fun k=>S k∨k=w.heap.size) ((w.alloc (.cells (Array.replicate 1024 (.int .u8 0)) t)).setCell ⟨a,i0,none⟩ (.pointer (some ⟨w.heap.size,0,none⟩))) a (fun i=>if i=i0 then some w.heap.size else pg i) b:=by
 have hlt:=h.lt;have hB:Below w.heap.size w (w.alloc (.cells (Array.replicate 1024 (.int .u8 0)) t)):=(Below.refl _ w).alloc (Nat.le_refl _) _;have hna:w.heap.size≠a:=by omega
 have hbox:∀i,i<64→(w.alloc (.cells (Array.replicate 1024 (.int .u8 0)) t)).cell? ⟨a,i,none⟩=some (ptr (pg i)):=fun i hi=>(hB.cell (p:=⟨a,i,none⟩) hlt).trans (h.box i hi).1
 refine⟨by simp;omega,fun q=>?_,fun k q=>?_,fun i hi=>⟨?_,?_⟩,fun i k hi he=>?_,fun i hi he j hj=>?_,fun i j k hi hj e1 e2=>?_⟩
 ·rcases q with q|q
  ·exact h.no q
  ·omega
 ·rcases q with q|q
  ·have:=h.own k q;simp;omega
  ·subst q;simp
 ·by_cases hq:i=i0
  ·subst hq;rw[World.cell?_setCell_same _ _ _ (hbox i hi)];simp[ptr]
  ·rw[cso (fun _ q=>hq q.symm),hbox i hi];simp[hq]
 ·have:=(hB.frozen (p:=⟨a,i,none⟩) hlt).trans (h.box i hi).2;simpa using this
 ·by_cases hq:i=i0
  ·subst hq;simp at he;subst he;refine⟨.inr rfl,by simp,fun j hj=>⟨?_,?_⟩⟩
   ·rw[cso (fun q=>absurd q.symm hna)];rw[World.cell?_alloc_new];simp[hj,bv,h.zero i hi e j hj]
   ·have:=(At.new w (Array.replicate 1024 (.int .u8 0)) t).2.2 j;rw[World.frozen?_setCell];exact this
  ·simp only[hq,if_false]at he;obtain⟨g1,g2,g3⟩:=h.page i k hi he;refine⟨.inl g1,by simp;omega,fun j hj=>⟨?_,?_⟩⟩
   ·rw[cso (fun(q:a=k)=>absurd (q▸g1) h.no)];exact(hB.cell (p:=⟨k,j,none⟩) g2).trans (g3 j hj).1
   ·have:=(hB.frozen (p:=⟨k,j,none⟩) g2).trans (g3 j hj).2;simpa using this
 ·by_cases hq:i=i0
  ·subst hq;simp at he
  ·simp only[hq,if_false]at he;exact h.zero i hi he j hj
 ·by_cases q1:i=i0<;>by_cases q2:j=i0
  ·omega
  ·simp only[q1,q2,if_true,if_false]at e1 e2;have:=(h.page j k hj e2).2.1;simp at e1;omega
  ·simp only[q1,q2,if_true,if_false]at e1 e2;have:=(h.page i k hi e1).2.1;simp at e2;omega
  ·simp only[q1,q2,if_false]at e1 e2;exact h.inj i j k hi hj e1 e2
theorem Pg.lay_fr {S:Nat→Prop}{w:World}{a:Nat}{pg:Nat→Option Nat}{b:Nat→UInt8}(h:Pg S w a pg b)(i0:Nat)(o:Obj)(v:Value)(hi0:i0<64):
 Fr S (fun k=>S k∨k=w.heap.size) w ((w.alloc o).setCell ⟨a,i0,none⟩ v) a:=by
 have hB:Below w.heap.size w (w.alloc o):=(Below.refl _ w).alloc (Nat.le_refl _) _;refine⟨fun _ q=>.inl q,fun k q=>?_,(Kp.alloc _ w o).trans (Kp.set (S:=fun k=>k=a) _ _ _ rfl) (fun k q=>.inl (.inl q)),fun x hx=>⟨?_,?_⟩⟩
 ·rcases q with q|q
  ·exact .inl q
  ·exact .inr (by omega)
 ·rw[cso (fun _=>by omega)];exact hB.cell (p:=⟨a,x,none⟩) h.lt
 ·simpa using hB.frozen (p:=⟨a,x,none⟩) h.lt
theorem set_any (S:Nat→Prop)(a addr:Nat)(b:Nat→UInt8)(v:UInt8)(w:World)(h:PgIn S w a b)(ha:addr<65536):
 Calls Tryz.prog 132 #[.pointer (some ⟨a,0,none⟩),.int .u64 addr,bv v] w fun x w'=>x=.returned (.tuple #[])∧∃S',PgIn S' w' a (upd b addr v)∧Fr S S' w w' a:=by
 obtain⟨pg,h⟩:=h;have h1:=(h.box (addr/1024) (by omega)).1;have f1:=(h.box (addr/1024) (by omega)).2
 cases e:pg (addr/1024)with
 |none=>
  have hl:=h.lay (addr/1024) 250 (by omega) e;have hf:=h.lay_fr (addr/1024) (.cells (Array.replicate 1024 (.int .u8 0)) 250) (.pointer (some ⟨w.heap.size,0,none⟩)) (by omega);have hp:=hl.put addr w.heap.size v ha (by simp);have hg:=hf.trans (hl.put_fr addr w.heap.size (bv v) ha (by simp));rw[e]at h1;have hlt:=h.lt;replace h:=Hid.mk h;replace hl:=Hid.mk hl;replace hf:=Hid.mk hf;simp only[ptr,Option.map_none]at h1;have pz:=page_zero;have sz:(w.setCell ⟨a,addr/1024,none⟩ (.pointer (some ⟨w.heap.size,0,none⟩))).heap.size=w.heap.size:=by simp
  have ew:(w.alloc (.cells (Array.replicate 1024 (.int .u8 0)) 250)).setCell ⟨a,addr/1024,none⟩ (.pointer (some ⟨w.heap.size,0,none⟩))=(w.setCell ⟨a,addr/1024,none⟩ (.pointer (some ⟨w.heap.size,0,none⟩))).alloc (.cells (Array.replicate 1024 (.int .u8 0)) 250):=World.setCell_alloc_past _ _ _ _ hlt;have hat:=At.at_ (w.setCell ⟨a,addr/1024,none⟩ (.pointer (some ⟨w.heap.size,0,none⟩))) (Array.replicate 1024 (.int .u8 0)) 250 sz;have c9:=hat.2.1 (addr%1024);have f9:=hat.2.2 (addr%1024);rw[show (Array.replicate 1024 (Value.int .u8 0))[addr%1024]?=some (.int .u8 0)by rw[Array.getElem?_replicate,if_pos (by omega)]]at c9;rw[ew,World.setCell_alloc_at _ _ _ _ _ sz.symm]at hp hg;unfold bv at hp hg ⊢;replace hat:=Hid.mk hat;replace ew:=Hid.mk ew;replace hp:=Hid.mk hp;replace hg:=Hid.mk hg;go_enter Tryz.func132,Tryz.ntmps132;go_wp2_with fail;go_end0;exact⟨rfl,_,⟨_,hp.out⟩,hg.out⟩
 |some k=>
  rw[e]at h1;have h2:=((h.page (addr/1024) k (by omega) e).2.2 (addr%1024) (by omega));have hp:=h.put addr k v ha e;have hf:=h.put_fr addr k (bv v) ha e;obtain⟨h2,f2⟩:=h2;unfold bv at h2 hp hf ⊢;replace h:=Hid.mk h;replace hp:=Hid.mk hp;replace hf:=Hid.mk hf;simp only[ptr,Option.map_some]at h1;go_enter Tryz.func132,Tryz.ntmps132;go_wp2_with fail;go_end0;exact⟨rfl,S,⟨pg,hp.out⟩,hf.out⟩
def leB (b:Nat→UInt8)(addr:Nat):Nat→Nat
 |0=>0
 |k+1=>leB b addr k+(b (addr+k)).toNat*2^(8*k)
def putB (b:Nat→UInt8)(addr n:Nat):Nat→Nat→UInt8
 |0=>b
 |k+1=>upd (putB b addr n k) (addr+k) (UInt8.ofNat (n/2^(8*k)%256))
theorem leB_lt (b:Nat→UInt8)(addr k:Nat):leB b addr k<2^(8*k):=by
 induction k with
 |zero=>simp[leB]
 |succ k ih=>
  have h:=(b (addr+k)).toNat_lt;have h1:(b (addr+k)).toNat*2^(8*k)≤255*2^(8*k):=Nat.mul_le_mul_right _ (by omega);have h2:2^(8*(k+1))=256*2^(8*k):=by rw[show 8*(k+1)=8+8*k by omega,Nat.pow_add]
  rw[leB,h2];omega
theorem or_add (a b k:Nat)(ha:a<2^k):a |||(b*2^k)=a+b*2^k:=by
 rw[Nat.mul_comm b,Nat.or_comm,←Nat.two_pow_add_eq_or_of_lt ha,Nat.add_comm]
theorem or_shift (x b k:Nat)(h1:x<2^k)(hb:b<256)(hk:k≤56):bits .or .u64 (x:Int) (IntKind.u64.wrap ((b:Int)*2^k))=((x+b*2^k:Nat):Int):=by
 have hpk:2^k≤2^56:=Nat.pow_le_pow_right (by omega) hk;have hm:b*2^k≤255*2^56:=Nat.mul_le_mul (by omega) hpk;have ho:=or_add x b k h1;have e:(b:Int)*2^k=((b*2^k:Nat):Int):=by simp
 rw[e,IntKind.wrap_u64];generalize b*2^k=q at*;have hq:(q:Int)%18446744073709551616=q:=by omega
 rw[hq,u64_or (x:Int) q (by omega) (by omega) (by omega) (by omega),Int.toNat_natCast,Int.toNat_natCast,ho]
theorem number_any (S:Nat→Prop)(a addr size:Nat)(b:Nat→UInt8)(w:World)(h:PgIn S w a b)(ha:addr+size≤65536)(hs:size≤8):
 Calls Tryz.prog 167 #[.pointer (some ⟨a,0,none⟩),.int .u64 addr,.int .u64 size] w fun x w'=>x=.returned (.int .u64 (leB b addr size))∧w'=w:=by
 have hG:=fun j (hj:j<65536)=>get_any S a j b w h hj
 replace h:=Hid.mk h;go_enter Tryz.func167,Tryz.ntmps167;go_wp2_with fail;go_loopw [7,10] (fun v i wr=>∃j:Nat,v=.int .u64 (leB b addr j)∧i=.int .u64 j∧j≤size∧wr=w) (fun _ i _=>size - (intOf i).toNat)
 case atStart=>exact⟨0,rfl,rfl,by omega,rfl⟩
 case round=>
  obtain⟨j,rfl,rfl,hj,rfl⟩:=hrel;by_cases hlt:j<size
  ·have jl:(j:Int)<size:=by omega
   have hg:=hG (addr+j) (by omega);have hb:=(b (addr+j)).toNat_lt;have hrg:=leB_lt b addr j;have hor:=or_shift _ _ (8*j) hrg hb (by omega);have hnx:leB b addr (j+1)=leB b addr j+(b (addr+j)).toNat*2^(8*j):=rfl;rw[←hnx]at hor;unfold bv at hg;generalize hy:leB b addr (j+1)=y at*;generalize leB b addr j=x at*;generalize (b (addr+j)).toNat=c at*;have m0:IntKind.u64.wrap ((addr:Int)+j)=((addr+j:Nat):Int):=by rw[IntKind.wrap_u64];omega
   have m1:IntKind.u64.wrap (8*(j:Int))=8*j:=by rw[IntKind.wrap_u64];omega
   have m2:(0:Int)≤8*(j:Int):=by omega
   have m3:(8*(j:Int))≤64:=by omega
   have m4:IntKind.u64.wrap (c:Int)=c:=by rw[IntKind.wrap_u64];omega
   replace hrg:=Hid.mk hrg;replace hor:=Hid.mk hor;replace hy:=Hid.mk hy;clear hnx hG;go_wp2_with fail;refine hg.mono ?_;rintro x w1 ⟨rfl,rfl⟩;go_wp2_with fail;exact⟨⟨j+1,by rw[hor.out,hy.out],by go_num,by omega,trivial⟩,by simp[intOf];omega⟩
  ·have jl:¬(j:Int)<size:=by omega
   have:j=size:=by omega
   subst this;go_wp2_with fail;go_ret;exact⟨rfl,rfl⟩
theorem setNumber_any (S:Nat→Prop)(a addr size n:Nat)(b:Nat→UInt8)(w:World)(h:PgIn S w a b)(ha:addr+size≤65536)(hs:size≤8):
 Calls Tryz.prog 135 #[.pointer (some ⟨a,0,none⟩),.int .u64 addr,.int .u64 size,.int .u64 n] w fun x w'=>x=.returned (.tuple #[])∧∃S',PgIn S' w' a (putB b addr n size)∧Fr S S' w w' a:=by
 replace h:=Hid.mk h;go_enter Tryz.func135,Tryz.ntmps135;go_wp2_with fail;go_loopw [10] (fun i wr=>∃j:Nat,i=.int .u64 j∧j≤size∧∃S',PgIn S' wr a (putB b addr n j)∧Fr S S' w wr a) (fun i _=>size - (intOf i).toNat)
 case atStart=>exact⟨0,rfl,by omega,S,h.out,Fr.refl S w a⟩
 case round=>
  obtain⟨j,rfl,hj,S',h1,hf⟩:=hrel;by_cases hlt:j<size
  ·have jl:(j:Int)<size:=by omega
   have hk:=fun W q=>set_any S' a (addr+j) (putB b addr n j) (UInt8.ofNat (n/2^(8*j)%256)) W q (by omega)
   have hnx:putB b addr n (j+1)=upd (putB b addr n j) (addr+j) (UInt8.ofNat (n/2^(8*j)%256)):=rfl;have e1:bv (UInt8.ofNat (n/2^(8*j)%256))=.int .u8 ((n:Int)/2^(8*j)%256):=by
    have:n/2^(8*j)%256%256=n/2^(8*j)%256:=by omega
    simp[bv,UInt8.toNat_ofNat',this]
   rw[←hnx,e1,Int.natCast_add]at hk;clear e1;have m0:IntKind.u64.wrap ((addr:Int)+j)=((addr+j:Nat):Int):=by rw[IntKind.wrap_u64];omega
   have m1:IntKind.u64.wrap (8*(j:Int))=8*j:=by rw[IntKind.wrap_u64];omega
   have m2:(0:Int)≤8*(j:Int):=by omega
   have m3:(8*(j:Int))≤64:=by omega
   generalize hb1:putB b addr n (j+1)=b1 at*;replace hb1:=Hid.mk hb1;generalize putB b addr n j=b0 at*;clear hnx;replace hf:=Hid.mk hf;replace h1:=Hid.mk h1;go_wp2_with fail;refine(hk _ h1.out).mono ?_;rintro x w1 ⟨rfl,S1,h2,hf2⟩;replace h2:=Hid.mk h2;replace hf2:=Hid.mk hf2;go_wp2_with fail;exact⟨⟨j+1,by go_num,by omega,S1,by rw[hb1.out];exact h2.out,hf.out.trans hf2.out⟩,by simp[intOf];omega⟩
  ·have jl:¬(j:Int)<size:=by omega
   have:j=size:=by omega
   subst this;replace hf:=Hid.mk hf;replace h1:=Hid.mk h1;go_wp2_with fail;go_end0;exact⟨rfl,S',h1.out,hf.out⟩
structure Cp where
 b:Int
 e:Int
 c:Int
 p:Int
 s:Int
def Cp.agg (k:Cp):Value:=.agg #[.int .u64 k.b,.int .u64 k.e,.int .u64 k.c,.int .u8 k.p,.int .i64 k.s]
def Cp.zero:Cp:=⟨0,0,0,0,0⟩
def plTag:Option Cp→Bool
 |none=>false
 |some _=>true
def plCap:Option Cp→Cp
 |none=>Cp.zero
 |some c=>c
def Six (w:World)(k o:Nat)(p:Option Cp):Prop:=
 w.cell? ⟨k,o,none⟩=some (.bool (plTag p))∧w.cell? ⟨k,o+1,none⟩=some (.int .u64 (plCap p).b)∧w.cell? ⟨k,o+1+1,none⟩=some (.int .u64 (plCap p).e)∧w.cell? ⟨k,o+1+1+1,none⟩=some (.int .u64 (plCap p).c)∧w.cell? ⟨k,o+1+1+1+1,none⟩=some (.int .u8 (plCap p).p)∧w.cell? ⟨k,o+1+1+1+1+1,none⟩=some (.int .i64 (plCap p).s)
theorem Six.of_block {w w':World}{k o:Nat}{p:Option Cp}(h:Six w k o p)(hb:w'.heap[k]?=w.heap[k]?):Six w' k o p:=by
 unfold Six at*;simp only[cell_of_block hb];exact h
structure Cg (S:Nat→Prop)(w:World)(a:Nat)(cg:Nat→Option Nat)(t:Nat→Option Cp):Prop where
 lt:a<w.heap.size
 no:¬S a
 own:∀k,S k→k<w.heap.size
 box:∀i,i<64→w.cell? ⟨a,64+i,none⟩=some (ptr (cg i))∧w.frozen? ⟨a,64+i,none⟩=false
 page:∀i k,i<64→cg i=some k→S k∧k<w.heap.size∧(∀j,j<64→Six w k (j*6) (t (i*64+j)))∧∀o,w.frozen? ⟨k,o,none⟩=false
 zero:∀i,i<64→cg i=none→∀j,j<64→t (i*64+j)=none
 inj:∀i j k,i<64→j<64→cg i=some k→cg j=some k→i=j
def CgIn (S:Nat→Prop)(w:World)(a:Nat)(t:Nat→Option Cp):Prop:=∃cg,Cg S w a cg t
theorem Cg.keep {S:Nat→Prop}{w w':World}{a:Nat}{cg:Nat→Option Nat}{t:Nat→Option Cp}(h:Cg S w a cg t)(hs:w.heap.size≤w'.heap.size)
 (hb:∀o,64≤o→w'.cell? ⟨a,o,none⟩=w.cell? ⟨a,o,none⟩∧w'.frozen? ⟨a,o,none⟩=w.frozen? ⟨a,o,none⟩)(hk:∀k,S k→k<w.heap.size→w'.heap[k]?=w.heap[k]?):Cg S w' a cg t:=
 ⟨Nat.lt_of_lt_of_le h.lt hs,h.no,fun k q=>Nat.lt_of_lt_of_le (h.own k q) hs,fun i hi=>⟨(hb _ (by omega)).1.trans (h.box i hi).1,(hb _ (by omega)).2.trans (h.box i hi).2⟩,
  fun i k hi he=>by
   obtain⟨h1,h2,h3,h4⟩:=h.page i k hi he;exact⟨h1,Nat.lt_of_lt_of_le h2 hs,fun j hj=>(h3 j hj).of_block (hk k h1 h2),fun o=>(frozen_of_block (hk k h1 h2) o).trans (h4 o)⟩,h.zero,h.inj⟩
theorem CgIn.keep {S:Nat→Prop}{w w':World}{a:Nat}{t:Nat→Option Cp}(h:CgIn S w a t)(hs:w.heap.size≤w'.heap.size)
 (hb:∀o,64≤o→w'.cell? ⟨a,o,none⟩=w.cell? ⟨a,o,none⟩∧w'.frozen? ⟨a,o,none⟩=w.frozen? ⟨a,o,none⟩)(hk:∀k,S k→k<w.heap.size→w'.heap[k]?=w.heap[k]?):CgIn S w' a t:=by
 obtain⟨cg,h⟩:=h;exact⟨cg,h.keep hs hb hk⟩
theorem Cg.gr {S:Nat→Prop}{w w':World}{a:Nat}{cg:Nat→Option Nat}{t:Nat→Option Cp}(h:Cg S w a cg t)(hb:Below w.heap.size w w'):Cg S w' a cg t:=
 h.keep hb.size (fun o _=>⟨hb.cell (p:=⟨a,o,none⟩) h.lt,hb.frozen (p:=⟨a,o,none⟩) h.lt⟩) (fun k _ hk=>hb.block k hk)
theorem CgIn.gr {S:Nat→Prop}{w w':World}{a:Nat}{t:Nat→Option Cp}(h:CgIn S w a t)(hb:Below w.heap.size w w'):CgIn S w' a t:=by
 obtain⟨cg,h⟩:=h;exact⟨cg,h.gr hb⟩
theorem PgIn.gr {S:Nat→Prop}{w w':World}{a:Nat}{b:Nat→UInt8}(h:PgIn S w a b)(hb:Below w.heap.size w w'):PgIn S w' a b:=by
 obtain⟨pg,h⟩:=h;exact⟨pg,h.keep hb.size (fun o _=>⟨hb.cell (p:=⟨a,o,none⟩) h.lt,hb.frozen (p:=⟨a,o,none⟩) h.lt⟩) (fun k _ hk=>hb.block k hk)⟩
structure Gf (S S':Nat→Prop)(w w':World)(a:Nat):Prop where
 up:∀k,S k→S' k
 new:∀k,S' k→S k∨w.heap.size≤k
 kp:Kp (fun k=>k=a∨S k) w w'
 rest:∀o,o<64→w'.cell? ⟨a,o,none⟩=w.cell? ⟨a,o,none⟩∧w'.frozen? ⟨a,o,none⟩=w.frozen? ⟨a,o,none⟩
theorem Gf.refl (S:Nat→Prop)(w:World)(a:Nat):Gf S S w w a:=⟨fun _ h=>h,fun _ h=>.inl h,Kp.refl _ w,fun _ _=>⟨rfl,rfl⟩⟩
theorem Gf.trans {S S1 S2:Nat→Prop}{w w1 w2:World}{a:Nat}(h:Gf S S1 w w1 a)(g:Gf S1 S2 w1 w2 a):Gf S S2 w w2 a:=
 ⟨fun k q=>g.up k (h.up k q),fun k q=>by
  rcases g.new k q with r|r
  ·exact h.new k r
  ·exact .inr (Nat.le_trans h.kp.size r),
  h.kp.trans g.kp (fun k q=>by
   rcases q with q|q
   ·exact .inl (.inl q)
   ·rcases h.new k q with r|r
    ·exact .inl (.inr r)
    ·exact .inr r),
  fun o ho=>⟨(g.rest o ho).1.trans (h.rest o ho).1,(g.rest o ho).2.trans (h.rest o ho).2⟩⟩
theorem at_none (S:Nat→Prop)(a addr:Nat)(cg:Nat→Option Nat)(t:Nat→Option Cp)(w:World)(h:Cg S w a cg t)(ha:addr<65536)(e:cg (addr/1024)=none):
 Calls Tryz.prog 133 #[.pointer (some ⟨a,64,none⟩),.int .u64 addr] w fun x w'=>x=.returned (.pointer none)∧w'=w:=by
 have h1:=(h.box (addr/1024) (by omega)).1;rw[e]at h1;simp only[ptr,Option.map_none]at h1;replace h:=Hid.mk h;go_enter Tryz.func133,Tryz.ntmps133;go_wp2_with fail;go_ret;exact⟨rfl,rfl⟩
theorem at_some (S:Nat→Prop)(a addr k:Nat)(cg:Nat→Option Nat)(t:Nat→Option Cp)(w:World)(h:Cg S w a cg t)(ha:addr<65536)(e:cg (addr/1024)=some k):
 Calls Tryz.prog 133 #[.pointer (some ⟨a,64,none⟩),.int .u64 addr] w fun x w'=>x=.returned (.pointer (some ⟨k,addr%1024/16*6,none⟩))∧w'=w:=by
 have h1:=(h.box (addr/1024) (by omega)).1;rw[e]at h1;simp only[ptr,Option.map_some]at h1;have h2:=(h.page _ k (by omega) e).2.2.1 (addr%1024/16) (by omega);unfold Six at h2;obtain⟨c0,c1,c2,c3,c4,c5⟩:=h2;replace h:=Hid.mk h;go_enter Tryz.func133,Tryz.ntmps133;go_wp2_with fail;go_ret;exact⟨rfl,rfl⟩
def updT (t:Nat→Option Cp)(g:Nat)(p:Option Cp):Nat→Option Cp:=fun x=>if x=g then p else t x
def set6 (w:World)(k o:Nat)(p:Option Cp):World:=
 (((((w.setCell ⟨k,o,none⟩ (.bool (plTag p))).setCell ⟨k,o+1,none⟩ (.int .u64 (plCap p).b)).setCell ⟨k,o+1+1,none⟩ (.int .u64 (plCap p).e)).setCell ⟨k,o+1+1+1,none⟩ (.int .u64 (plCap p).c)).setCell ⟨k,o+1+1+1+1,none⟩ (.int .u8 (plCap p).p)).setCell ⟨k,o+1+1+1+1+1,none⟩ (.int .i64 (plCap p).s)
theorem set6_size (w:World)(k o:Nat)(p:Option Cp):(set6 w k o p).heap.size=w.heap.size:=by simp[set6]
theorem set6_other (w:World)(k o k' o':Nat)(p:Option Cp)(h:k=k'→o'<o∨o+6≤o'):(set6 w k o p).cell? ⟨k',o',none⟩=w.cell? ⟨k',o',none⟩:=by
 unfold set6;rw[cso (fun q=>by have:=h q;omega),cso (fun q=>by have:=h q;omega),cso (fun q=>by have:=h q;omega),cso (fun q=>by have:=h q;omega),cso (fun q=>by have:=h q;omega),cso (fun q=>by have:=h q;omega)]
theorem set6_frozen (w:World)(k o k' o':Nat)(p:Option Cp):(set6 w k o p).frozen? ⟨k',o',none⟩=w.frozen? ⟨k',o',none⟩:=by simp[set6]
theorem css {w:World}{k o:Nat}{v u:Value}(h:w.cell? ⟨k,o,none⟩=some u):(w.setCell ⟨k,o,none⟩ v).cell? ⟨k,o,none⟩=some v:=World.cell?_setCell_same w _ v h
theorem set6_six {w:World}{k o:Nat}{q:Option Cp}(h:Six w k o q)(p:Option Cp):Six (set6 w k o p) k o p:=by
 obtain⟨c0,c1,c2,c3,c4,c5⟩:=h;unfold set6;refine⟨?_,?_,?_,?_,?_,?_⟩
 ·rw[cso (fun _=>by omega),cso (fun _=>by omega),cso (fun _=>by omega),cso (fun _=>by omega),cso (fun _=>by omega),css c0]
 ·rw[cso (fun _=>by omega),cso (fun _=>by omega),cso (fun _=>by omega),cso (fun _=>by omega),css ((cso (fun _=>by omega)).trans c1)]
 ·rw[cso (fun _=>by omega),cso (fun _=>by omega),cso (fun _=>by omega),css ((cso (fun _=>by omega)).trans ((cso (fun _=>by omega)).trans c2))]
 ·rw[cso (fun _=>by omega),cso (fun _=>by omega),css ((cso (fun _=>by omega)).trans ((cso (fun _=>by omega)).trans ((cso (fun _=>by omega)).trans c3)))]
 ·rw[cso (fun _=>by omega),css ((cso (fun _=>by omega)).trans ((cso (fun _=>by omega)).trans ((cso (fun _=>by omega)).trans ((cso (fun _=>by omega)).trans c4))))]
 ·rw[css ((cso (fun _=>by omega)).trans ((cso (fun _=>by omega)).trans ((cso (fun _=>by omega)).trans ((cso (fun _=>by omega)).trans ((cso (fun _=>by omega)).trans c5)))))]
theorem set6_kp (S:Nat→Prop)(w:World)(k o:Nat)(p:Option Cp)(h:S k):Kp S w (set6 w k o p):=by
 unfold set6;exact(((((Kp.set w ⟨k,_,none⟩ _ h).trans (Kp.set _ ⟨k,_,none⟩ _ h) (fun _ q=>.inl q)).trans (Kp.set _ ⟨k,_,none⟩ _ h) (fun _ q=>.inl q)).trans (Kp.set _ ⟨k,_,none⟩ _ h) (fun _ q=>.inl q)).trans (Kp.set _ ⟨k,_,none⟩ _ h) (fun _ q=>.inl q)).trans (Kp.set _ ⟨k,_,none⟩ _ h) (fun _ q=>.inl q)
theorem Cg.put {S:Nat→Prop}{w:World}{a:Nat}{cg:Nat→Option Nat}{t:Nat→Option Cp}(h:Cg S w a cg t)(addr k:Nat)(p:Option Cp)(ha:addr<65536)(e:cg (addr/1024)=some k):
 Cg S (set6 w k (addr%1024/16*6) p) a cg (updT t (addr/16) p):=by
 have hp:=h.page _ k (by omega) e;have hka:k≠a:=fun q=>h.no (q▸hp.1)
 refine⟨by rw[set6_size];exact h.lt,h.no,fun k' q=>by rw[set6_size];exact h.own k' q,fun i hi=>⟨?_,?_⟩,fun i k' hi he=>?_,fun i hi he j hj=>?_,h.inj⟩
 ·rw[set6_other _ _ _ _ _ _ (fun q=>absurd q hka)];exact(h.box i hi).1
 ·rw[set6_frozen];exact(h.box i hi).2
 ·obtain⟨g1,g2,g3,g4⟩:=h.page i k' hi he;refine⟨g1,by rw[set6_size];exact g2,fun j hj=>?_,fun o=>by rw[set6_frozen];exact g4 o⟩;by_cases hq:k=k'∧addr%1024/16=j
  ·obtain⟨rfl,rfl⟩:=hq;have hi':i=addr/1024:=h.inj i (addr/1024) k hi (by omega) he e;have:i*64+addr%1024/16=addr/16:=by omega
   simp only[updT,this,if_true];exact set6_six (g3 _ hj) p
  ·have hne:i*64+j≠addr/16:=by
    intro q;have e1:i=addr/1024:=by omega
    subst e1;rw[e]at he;exact hq ⟨by simpa using he,by omega⟩
   simp only[updT,hne,if_false];have g:=g3 j hj;have hh:∀r,r<6→k=k'→j*6+r<addr%1024/16*6∨addr%1024/16*6+6≤j*6+r:=fun r hr q=>by
    have:addr%1024/16≠j:=fun e2=>hq ⟨q,e2⟩
    omega
   refine⟨?_,?_,?_,?_,?_,?_⟩
   ·rw[set6_other _ _ _ _ _ _ (fun q=>by have:=hh 0 (by omega) q;omega)];exact g.1
   ·rw[set6_other _ _ _ _ _ _ (hh 1 (by omega))];exact g.2.1
   ·rw[set6_other _ _ _ _ _ _ (hh 2 (by omega))];exact g.2.2.1
   ·rw[set6_other _ _ _ _ _ _ (hh 3 (by omega))];exact g.2.2.2.1
   ·rw[set6_other _ _ _ _ _ _ (hh 4 (by omega))];exact g.2.2.2.2.1
   ·rw[set6_other _ _ _ _ _ _ (hh 5 (by omega))];exact g.2.2.2.2.2
 ·have hne:i*64+j≠addr/16:=by
   intro q;have e1:i=addr/1024:=by omega
   subst e1;rw[e]at he;simp at he
  simp only[updT,hne,if_false];exact h.zero i hi he j hj
theorem Cg.put_gf {S:Nat→Prop}{w:World}{a:Nat}{cg:Nat→Option Nat}{t:Nat→Option Cp}(h:Cg S w a cg t)(addr k o:Nat)(p:Option Cp)(ha:addr<65536)(e:cg (addr/1024)=some k):
 Gf S S w (set6 w k o p) a:=by
 have hp:=h.page _ k (by omega) e;have hka:k≠a:=fun q=>h.no (q▸hp.1)
 exact⟨fun _ q=>q,fun _ q=>.inl q,set6_kp _ w _ _ _ (.inr hp.1),fun o' _=>⟨set6_other _ _ _ _ _ _ (fun q=>absurd q hka),set6_frozen _ _ _ _ _ _⟩⟩
def zc (r:Nat):Value:=if r=0 then .bool false else if r=4 then .int .u8 0 else if r=5 then .int .i64 0 else .int .u64 0
def capZero:Array Value:=((List.range 384).map fun i=>zc (i%6)).toArray
theorem capPage_zero (w:World):(zeroValue 253).run Tryz.prog w=.ok (.agg capZero) w:=by kernel_rfl
theorem capZero_at (i:Nat)(h:i<384):capZero[i]?=some (zc (i%6)):=by
 simp[capZero,h]
theorem Cg.lay {S:Nat→Prop}{w:World}{a:Nat}{cg:Nat→Option Nat}{t:Nat→Option Cp}(h:Cg S w a cg t)(i0:Nat)(ty:TypeId)(hi0:i0<64)(e:cg i0=none):
 Cg (fun k=>S k∨k=w.heap.size) ((w.setCell ⟨a,64+i0,none⟩ (.pointer (some ⟨w.heap.size,0,none⟩))).alloc (.cells capZero ty)) a (fun i=>if i=i0 then some w.heap.size else cg i) t:=by
 have hlt:=h.lt;have hB:=(Below.refl _ (w.setCell ⟨a,64+i0,none⟩ (.pointer (some ⟨w.heap.size,0,none⟩)))).alloc (Nat.le_refl _) (.cells capZero ty);have sz:(w.setCell ⟨a,64+i0,none⟩ (.pointer (some ⟨w.heap.size,0,none⟩))).heap.size=w.heap.size:=by simp
 rw[sz]at hB;have hat:=At.at_ (w.setCell ⟨a,64+i0,none⟩ (.pointer (some ⟨w.heap.size,0,none⟩))) capZero ty sz;refine⟨by simp;omega,fun q=>?_,fun k q=>?_,fun i hi=>⟨?_,?_⟩,fun i k hi he=>?_,fun i hi he j hj=>?_,fun i j k hi hj e1 e2=>?_⟩
 ·rcases q with q|q
  ·exact h.no q
  ·omega
 ·rcases q with q|q
  ·have:=h.own k q;simp;omega
  ·subst q;simp
 ·rw[hB.cell (p:=⟨a,64+i,none⟩) hlt];by_cases hq:i=i0
  ·subst hq;rw[css (h.box i hi).1];simp[ptr]
  ·rw[cso (fun _=>by omega),(h.box i hi).1];simp[hq]
 ·rw[hB.frozen (p:=⟨a,64+i,none⟩) hlt];simpa using(h.box i hi).2
 ·by_cases hq:i=i0
  ·subst hq;simp at he;subst he;refine⟨.inr rfl,by simp,fun j hj=>?_,fun o=>hat.2.2 o⟩;rw[h.zero i hi e j hj];have hh:∀r,r<6→((w.setCell ⟨a,64+i,none⟩ (.pointer (some ⟨w.heap.size,0,none⟩))).alloc (.cells capZero ty)).cell? ⟨w.heap.size,j*6+r,none⟩=some (zc r):=fun r hr=>by
    rw[hat.2.1,capZero_at _ (by omega),show(j*6+r)%6=r by omega]
   exact⟨hh 0 (by omega),hh 1 (by omega),hh 2 (by omega),hh 3 (by omega),hh 4 (by omega),hh 5 (by omega)⟩
  ·simp only[hq,if_false]at he;obtain⟨g1,g2,g3,g4⟩:=h.page i k hi he;have hka:a≠k:=fun q=>h.no (q▸g1)
   have hbk:((w.setCell ⟨a,64+i0,none⟩ (.pointer (some ⟨w.heap.size,0,none⟩))).alloc (.cells capZero ty)).heap[k]?=w.heap[k]?:=(hB.block k g2).trans (heap_set w ⟨a,64+i0,none⟩ _ k hka);exact⟨.inl g1,by simp;omega,fun j hj=>(g3 j hj).of_block hbk,fun o=>(frozen_of_block hbk o).trans (g4 o)⟩
 ·by_cases hq:i=i0
  ·subst hq;simp at he
  ·simp only[hq,if_false]at he;exact h.zero i hi he j hj
 ·by_cases q1:i=i0<;>by_cases q2:j=i0
  ·omega
  ·simp only[q1,q2,if_true,if_false]at e1 e2;have:=(h.page j k hj e2).2.1;simp at e1;omega
  ·simp only[q1,q2,if_true,if_false]at e1 e2;have:=(h.page i k hi e1).2.1;simp at e2;omega
  ·simp only[q1,q2,if_false]at e1 e2;exact h.inj i j k hi hj e1 e2
theorem Cg.lay_gf {S:Nat→Prop}{w:World}{a:Nat}{cg:Nat→Option Nat}{t:Nat→Option Cp}(h:Cg S w a cg t)(i0:Nat)(o:Obj)(v:Value):
 Gf S (fun k=>S k∨k=w.heap.size) w ((w.setCell ⟨a,64+i0,none⟩ v).alloc o) a:=by
 have hlt:=h.lt;have sz:(w.setCell ⟨a,64+i0,none⟩ v).heap.size=w.heap.size:=by simp
 have hB:=(Below.refl _ (w.setCell ⟨a,64+i0,none⟩ v)).alloc (Nat.le_refl _) o;rw[sz]at hB;refine⟨fun _ q=>.inl q,fun k q=>?_,(Kp.set w ⟨a,64+i0,none⟩ v (.inl rfl)).trans (Kp.alloc (fun k=>k=a∨S k) _ o) (fun k q=>.inl q),fun x hx=>⟨?_,?_⟩⟩
 ·rcases q with q|q
  ·exact .inl q
  ·exact .inr (by omega)
 ·rw[hB.cell (p:=⟨a,x,none⟩) hlt,cso (fun _=>by omega)]
 ·rw[hB.frozen (p:=⟨a,x,none⟩) hlt];simp
theorem held_any (S:Nat→Prop)(a addr:Nat)(t:Nat→Option Cp)(w:World)(h:CgIn S w a t)(ha:addr<65536):
 Calls Tryz.prog 168 #[.pointer (some ⟨a,64,none⟩),.int .u64 addr] w fun x w'=>x=.returned (.tuple #[(plCap (t (addr/16))).agg,.bool (plTag (t (addr/16)))])∧Below w.heap.size w w':=by
 obtain⟨cg,h⟩:=h
 cases e:cg (addr/1024)with
 |none=>
  have hz:=h.zero (addr/1024) (by omega) e (addr%1024/16) (by omega);rw[show addr/1024*64+addr%1024/16=addr/16 by omega]at hz;rw[hz];have hA:=fun W (hB:Below w.heap.size w W)=>at_none S a addr cg t W (h.gr hB) ha e
  replace h:=Hid.mk h;go_enter Tryz.func168,Tryz.ntmps168;go_wp2_with fail;refine(hA _ ((Below.refl _ w).alloc (Nat.le_refl _) _)).mono ?_;rintro x w1 ⟨rfl,rfl⟩;clear hA;go_wp2_with fail;simp[bodyPost,results,Tryz.results168,go_sem,plCap,plTag,Cp.agg,Cp.zero];exact(Below.refl _ w).alloc (Nat.le_refl _) _
 |some k=>
  have h2:=(h.page (addr/1024) k (by omega) e).2.2.1 (addr%1024/16) (by omega);rw[show addr/1024*64+addr%1024/16=addr/16 by omega]at h2;have hlt:=(h.page (addr/1024) k (by omega) e).2.1;have hA:=fun W (hB:Below w.heap.size w W)=>at_some S a addr k cg t W (h.gr hB) ha e
  unfold Six at h2;obtain⟨c0,c1,c2,c3,c4,c5⟩:=h2;generalize t (addr/16)=p at*;generalize plTag p=g at*;unfold Cp.agg;generalize (plCap p).b=v1 at*;generalize (plCap p).e=v2 at*;generalize (plCap p).c=v3 at*;generalize (plCap p).p=v4 at*;generalize (plCap p).s=v5 at*;replace h:=Hid.mk h;go_enter Tryz.func168,Tryz.ntmps168;go_wp2_with fail;refine(hA _ ((Below.refl _ w).alloc (Nat.le_refl _) _)).mono ?_;rintro x w1 ⟨rfl,rfl⟩;clear hA;go_wp2_with fail;go_region;go_wp2_with fail;simp[bodyPost,results,Tryz.results168,go_sem];exact Below.drew ((Below.refl _ w).alloc (Nat.le_refl _) _)
end T
end Go.Proofs.YtkhbiaaangnkdaaGreatDoor
