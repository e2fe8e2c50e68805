import Derived.Test.YthlpjlnehonpdaaGreatDoorK45
import Derived.Test.YthlpjlnehonpdaaGreatDoorK34
namespace Go.Proofs.YthlpjlnehonpdaaGreatDoor
namespace Bd
open Go.RowKit
open F (thB folB cnt Rch)
def tpD (v:Int):Int:=min v 1099511627777
theorem nxN_mem {L:List Ins}{pc:Nat}(hp:pc<L.length)(q:Nat):q∈nxN L pc↔folB L pc q=true∨(ovB L pc=true∧q=L.length):=by
 have ht:thB L.length pc=true:=by unfold thB;simp only[Bool.and_eq_true,decide_eq_true_eq];omega
 unfold nxN;rw[if_pos ht,List.mem_append,List.mem_filter,List.mem_range]
 constructor
 ·rintro(⟨_,h⟩|h)
  ·exact .inl h
  ·split at h
   ·rename_i q1;exact .inr ⟨q1,by simpa using h⟩
   ·cases h
 ·rintro(h|⟨h1,h2⟩)
  ·exact .inl ⟨F.folB_lt h,h⟩
  ·right;rw[if_pos h1,h2];simp
theorem nxN_over (L:List Ins):nxN L L.length=[]:=by
 have ht:thB L.length (L.length:Nat)=false:=by unfold thB;simp
 have ho:ovB L L.length=false:=by unfold ovB;rw[decide_eq_false (by omega)];rfl
 unfold nxN;rw[ht,ho]
 rfl
section
variable {L:List Ins} {cF:Nat→Int} (hc:∀pc,0≤cF pc∧cF pc≤1099511627777) (hl:L.length≤400)
include hc hl
end
section
variable {L:List Ins} {cF dF:Nat→Int} {d0 dn:Nat→Bool} {st ip:Nat→Int} {a:Bool} {p:Nat}
end
section
variable {L:List Ins} {cF dF:Nat→Int} {d0 dn:Nat→Bool} {st ip:Nat→Int} {a:Bool} {p:Nat}
end
theorem sum_congr {L:List Ins}{E:List Int}{cF cF':Nat→Int}(h1:∀q,Rch L E (-1) q→cF q=cF' q)(h2:cF L.length=cF' L.length):∀k q,(Rch L E (-1) q∨q=L.length)→evF (nxN L) (wyS cF) k q=evF (nxN L) (wyS cF') k q
 |0,_,_=>rfl
 |k+1,q,hq=>by
  have ih:(nxN L q).map (evF (nxN L) (wyS cF) k)=(nxN L q).map (evF (nxN L) (wyS cF') k):=by
   refine List.map_congr_left fun c hc=>sum_congr h1 h2 k c ?_
   rcases hq with hq|rfl
   ·rcases(nxN_mem hq.lt c).1 hc with h|⟨_,rfl⟩
    ·exact .inl (Rch.step hq h (by omega))
    ·exact .inr rfl
   ·rw[nxN_over]at hc;cases hc
  have e:cF q=cF' q:=by
   rcases hq with hq|rfl
   ·exact h1 q hq
   ·exact h2
  rw[evF,evF,ih];have:wyS cF q=wyS cF' q:=by funext vs;unfold wyS;rw[e]
  rw[this]
theorem sumS_congr {L:List Ins}{E:List Int}{cF cF':Nat→Int}(h1:∀q,Rch L E (-1) q→cF q=cF' q)(h2:cF L.length=cF' L.length){q:Nat}(hq:Rch L E (-1) q):sumS L cF q=sumS L cF' q:=by
 unfold sumS ev;exact sum_congr h1 h2 _ q (.inl hq)
open F (Rch rchB_iff)
theorem ca_in {L:List Ins}{F:Nat→Option Cst}(hF:∀g v,F g=some v→Fair v)(pc:Nat):0≤caF L (sF F) pc∧caF L (sF F) pc≤1099511627776:=by
 unfold caF sF
 cases L[pc]? with
 |none=>dsimp only;omega
 |some k=>
  dsimp only
  split
  ·cases hq:F k.m.toNat with
   |none=>dsimp only;omega
   |some v=>
    have:=hF _ v hq;have h1:=this.s1;have h2:=this.s2;dsimp only;omega
  ·omega
theorem st_in {L:List Ins}{F:Nat→Option Cst}(hF:∀g v,F g=some v→Fair v)(pc:Nat):0≤stF L (sF F) pc∧stF L (sF F) pc≤1099511627777:=by
 have:=ca_in (L:=L) hF pc;unfold stF;rw[wrapU _ (by omega)];omega
theorem in_in {L:List Ins}{F:Nat→Option Cst}(hF:∀g v,F g=some v→Fair v)(pc:Nat):0≤inF L (iF F) pc∧inF L (iF F) pc≤1099511627777:=by
 unfold inF caF iF
 cases L[pc]? with
 |none=>dsimp only;omega
 |some k=>
  dsimp only
  split
  ·omega
  ·split
   ·cases hq:F k.m.toNat with
    |none=>dsimp only;omega
    |some v=>
     have:=hF _ v hq;have h1:=this.i0;have h2:=this.i1;have h3:=this.s2;dsimp only;omega
   ·omega
theorem st_over (L:List Ins)(sg:Nat→Int):stF L sg L.length=1:=by
 unfold stF caF;rw[List.getElem?_eq_none (Nat.le_refl _)];show IntKind.u64.wrap (1+0)=1;exact wrapU _ (by omega)
theorem in_over (L:List Ins)(ig:Nat→Int):inF L ig L.length=0:=by
 unfold inF caF;rw[List.getElem?_eq_none (Nat.le_refl _)]
structure WayR (L:List Ins)(F:Nat→Option Cst)(e:Nat)(s i:Int)(ok:Bool):Prop where
 yes:ok=true→∃v u,sumS L (stF L (sF F)) e=some v∧s=tpD v∧sumS L (inF L (iF F)) e=some u∧i=tpD u
 no:ok=false→sumS L (stF L (sF F)) e=none
structure Gw (m:PImg)(F:Nat→Option Cst)(n:Int)(g:Nat):Prop where
 fair:∀q v,F q=some v→Fair v
 snd:∀q,q<m.gates.length→∀v,F q=some v→ev (nxG m) (ctF m) (List.range m.gates.length) q=some v
 dn:∀q,q<m.gates.length→∀v,ev (nxG m) (ctF m) (List.range m.gates.length) q=some v→(v.c<n∨(v.c=n∧q<g))→F q=some v
theorem some_all {α β:Type}{F:α→Option β}:∀(l:List α),(∀x∈l,(F x).isSome=true)→∃vs:List β,l.map F=vs.map some
 |[],_=>⟨[],rfl⟩
 |a::l,h=>by
  obtain⟨vs,e⟩:=some_all (F:=F) l (fun x hx=>h x (by simp[hx]));obtain⟨v,hv⟩:=Option.isSome_iff_exists.1 (h a (by simp));exact⟨v::vs,by rw[List.map_cons,List.map_cons,e,hv]⟩
theorem dpV_of {m:PImg}{g:Nat}{v:Int}(h:ev (nxG m) dpF (List.range m.gates.length) g=some v):dpV m g=v:=by unfold dpV;rw[h]
section
variable {m:PImg} {F:Nat→Option Cst} {n:Int} {g:Nat}
theorem call_in {m:PImg}{g:Nat}{pc:Nat}(hr:Rch (gcode m g) [gent m g] (-1) pc){k:Ins}(hk:(gcode m g)[pc]?=some k)(ho:k.op=31):k.m.toNat∈nxG m g:=by
 unfold nxG calL;refine List.mem_map.2 ⟨pc,List.mem_filter.2 ⟨List.mem_range.2 hr.lt,?_⟩,?_⟩
 ·unfold calB;rw[hk,rchB_iff.2 hr];simp[ho]
 ·unfold imF;rw[hk]
theorem entry_rch {m:PImg}(hok:BOk m){g:Nat}(hg:g<m.gates.length):∃e:Nat,gent m g=e∧e<(gcode m g).length∧Rch (gcode m g) [gent m g] (-1) e:=by
 obtain⟨kc,hkc,hgc,he0,he1⟩:=hok.gates g hg;rw[gent_of hg,gcode_of hg hkc hgc];refine⟨m.gates[g].e.toNat,by omega,by omega,Rch.base (by simp;omega) (by omega) (by omega)⟩
theorem Gw.find (h:Gw m F n g)(hok:BOk m)(hg:g<m.gates.length)(hd:dpV m g=n)(hk:∀x∈nxG m g,(F x).isSome=true){e:Nat}(he:gent m g=e){s i:Int}{ok:Bool}(hw:WayR (gcode m g) F e s i ok):
 ev (nxG m) (ctF m) (List.range m.gates.length) g=if ok=true∧s<1099511627777 then some ⟨s,n,i⟩else none:=by
 obtain⟨vs,hvs⟩:=some_all (F:=F) (nxG m g) hk;have hin:=fun x hx=>List.mem_range.1 (nxG_in hok g (List.mem_range.2 hg) x hx)
 have hm:(nxG m g).map (ev (nxG m) (ctF m) (List.range m.gates.length))=vs.map some:=by
  rw[←hvs];refine List.map_congr_left fun x hx=>?_
  obtain⟨v,hv⟩:=Option.isSome_iff_exists.1 (hk x hx);rw[hv,h.snd x (hin x hx) v hv]
 have h1:=ev_known (nxG_in hok) (List.mem_range.2 hg) hm;have hag:=fun v hv=>agree hok (List.mem_range.2 hg) (v:=v) hv
 rw[h1]at hag ⊢;obtain⟨en,e1,e2,e3⟩:=entry_rch hok hg;have ee:en=e:=by omega
 subst ee;have hrow:∀pc k,Rch (gcode m g) [gent m g] (-1) pc→(gcode m g)[pc]?=some k→k.op=31→rowF (nxG m g) vs k.m.toNat=F k.m.toNat:=fun pc k hr hk1 ho=>by
  have hmem:=call_in hr hk1 ho;obtain⟨v,hv⟩:=Option.isSome_iff_exists.1 (hk _ hmem);rw[rowF_at hvs hmem hv,hv]
 have c1:∀q,Rch (gcode m g) [gent m g] (-1) q→stF (gcode m g) (sF (rowF (nxG m g) vs)) q=stF (gcode m g) (sF F) q:=fun q hr=>by
  unfold stF caF
  cases hk1:(gcode m g)[q]? with
  |none=>rfl
  |some k=>
   dsimp only;by_cases ho:k.op=31
   ·rw[if_pos ho,if_pos ho];unfold sF;rw[hrow q k hr hk1 ho]
   ·rw[if_neg ho,if_neg ho]
 have c2:∀q,Rch (gcode m g) [gent m g] (-1) q→inF (gcode m g) (iF (rowF (nxG m g) vs)) q=inF (gcode m g) (iF F) q:=fun q hr=>by
  unfold inF caF
  cases hk1:(gcode m g)[q]? with
  |none=>rfl
  |some k=>
   dsimp only;by_cases h29:k.op=29
   ·rw[if_pos h29,if_pos h29]
   ·rw[if_neg h29,if_neg h29];by_cases ho:k.op=31
    ·rw[if_pos ho,if_pos ho];unfold iF;rw[hrow q k hr hk1 ho]
    ·rw[if_neg ho,if_neg ho]
 have s1:=sumS_congr c1 ((st_over _ _).trans (st_over _ _).symm) e3;have s2:=sumS_congr c2 ((in_over _ _).trans (in_over _ _).symm) e3;unfold ctF at hag ⊢;rw[he,Int.toNat_natCast,s1,s2]at hag ⊢
 cases hb:ok with
 |false=>
  rw[hw.no hb,if_neg (by simp)]
 |true=>
  obtain⟨v,u,w1,w2,w3,w4⟩:=hw.yes hb;rw[w1,w3]at hag ⊢;dsimp only[Option.getD_some]at hag ⊢;by_cases hq:1099511627776<v
  ·rw[if_pos hq,if_neg];rintro⟨_,h2⟩;rw[w2]at h2;unfold tpD at h2;omega
  ·rw[if_neg hq]at hag ⊢;obtain⟨a1,a2⟩:=hag _ rfl;have e4:=dpV_of a1;have a3:=a2.i1;have a4:=a2.i0;have a5:=a2.s1;dsimp only at e4 a3 a4 a5;have e5:s=v:=by rw[w2];unfold tpD;omega
   have e6:i=u:=by rw[w4];unfold tpD;omega
   rw[if_pos ⟨rfl,by omega⟩,e5,e6,←hd,e4]
end
open F (folB Rch rchB_iff)
noncomputable def kC (m:PImg) (g:Nat):Option Cst:=if g<m.gates.length then ev (nxG m) (ctF m) (List.range m.gates.length) g else none
noncomputable def stV (m:PImg) (g pc:Nat):Option Int:=sumS (gcode m g) (stF (gcode m g) (sF (kC m))) pc
noncomputable def inV (m:PImg) (g pc:Nat):Option Int:=sumS (gcode m g) (inF (gcode m g) (iF (kC m))) pc
theorem kC_at {m:PImg}{g:Nat}(hg:g<m.gates.length):kC m g=ev (nxG m) (ctF m) (List.range m.gates.length) g:=if_pos hg
theorem kC_lt {m:PImg}{g:Nat}{v:Cst}(h:kC m g=some v):g<m.gates.length:=by
 unfold kC at h
 split at h
 ·assumption
 ·cases h
theorem kC_fair {m:PImg}(hok:BOk m):∀g v,kC m g=some v→Fair v:=fun g v h=>by
 have hg:=kC_lt h;rw[kC_at hg]at h;exact(agree hok (List.mem_range.2 hg) h).2
theorem gw_all {m:PImg}(hok:BOk m)(n:Int)(g:Nat):Gw m (kC m) n g:=
 ⟨kC_fair hok,fun q hq v h=>by rwa [kC_at hq]at h,fun q hq v h _=>by rwa [kC_at hq]⟩
theorem dp_up {m:PImg}(hok:BOk m){g x:Nat}(hg:g<m.gates.length)(hx:x∈nxG m g){d:Int}(h:ev (nxG m) dpF (List.range m.gates.length) g=some d):∃e,ev (nxG m) dpF (List.range m.gates.length) x=some e∧0≤e∧e+1≤d:=by
 have hgl:=hok.gl;have hall:∀c∈nxG m g,0≤dpV m c∧dpV m c≤1000∧ev (nxG m) dpF (List.range m.gates.length) c=some (dpV m c):=fun c hc=>by
  cases hu:ev (nxG m) dpF (List.range m.gates.length) c with
  |none=>rw[ev_none (nxG_in hok) (List.mem_range.2 hg) hc hu]at h;cases h
  |some u=>
   have hb:=evd_le _ (by rw[List.length_range];omega) c u hu;rw[List.length_range]at hb;rw[dpV_of hu];exact⟨hb.1,by omega,rfl⟩
 have hm:(nxG m g).map (ev (nxG m) dpF (List.range m.gates.length))=((nxG m g).map (dpV m)).map some:=by
  rw[List.map_map];exact List.map_congr_left fun c hc=>(hall c hc).2.2
 have h4:=ev_known (nxG_in hok) (List.mem_range.2 hg) hm;rw[h]at h4;unfold dpF at h4;injection h4 with h4
 have h5:=(mx_dp (l:=dpV m) (nxG m g) (fun c hc=>⟨(hall c hc).1,(hall c hc).2.1⟩)).up x hx;exact⟨dpV m x,(hall x hx).2.2,(hall x hx).1,by omega⟩
theorem code_le {m:PImg}(hok:BOk m){g:Nat}(hg:g<m.gates.length):(gcode m g).length≤400:=by
 obtain⟨k,hk,hc,_,_⟩:=hok.gates g hg;rw[gcode_of hg hk hc];exact(hok.code k hk).1
theorem in_st {L:List Ins}{F:Nat→Option Cst}(hF:∀g v,F g=some v→Fair v)(pc:Nat):0≤inF L (iF F) pc∧inF L (iF F) pc≤stF L (sF F) pc:=by
 have h1:=ca_in (L:=L) hF pc;have h2:=in_in (L:=L) hF pc;have e:stF L (sF F) pc=1+caF L (sF F) pc:=by unfold stF;exact wrapU _ (by omega)
 rw[e];refine⟨h2.1,?_⟩
 cases hk:L[pc]? with
 |none=>
  have e1:inF L (iF F) pc=0:=by unfold inF caF;rw[hk]
  omega
 |some k=>
  have e1:inF L (iF F) pc=if k.op=29 then 1 else if k.op=31 then iF F k.m.toNat else 0:=by unfold inF caF;rw[hk]
  have e2:caF L (sF F) pc=if k.op=31 then sF F k.m.toNat else 0:=by unfold caF;rw[hk]
  rw[e1]
  split
  ·omega
  ·split
   ·rename_i h29 h31
    rw[e2,if_pos h31];unfold iF sF
    cases hq:F k.m.toNat with
    |none=>dsimp only;omega
    |some v=>
     have hv:=hF _ v hq;have:=hv.i1;dsimp only;omega
   ·omega
theorem kC_known {m:PImg}(hok:BOk m){g:Nat}{v:Cst}(h:kC m g=some v):stV m g (gent m g).toNat=some v.s∧inV m g (gent m g).toNat=some v.i∧∀x∈nxG m g,∃u,kC m x=some u∧u.c+1≤v.c:=by
 have hg:=kC_lt h;have hv:=h;rw[kC_at hg]at hv;have hin:=fun x hx=>List.mem_range.1 (nxG_in hok g (List.mem_range.2 hg) x hx)
 have hk:∀x∈nxG m g,(kC m x).isSome=true:=fun x hx=>by
  cases hq:kC m x with
  |some u=>rfl
  |none=>
   rw[kC_at (hin x hx)]at hq;rw[ev_none (nxG_in hok) (List.mem_range.2 hg) hx hq]at hv
   cases hv
 obtain⟨en,e1,e2,e3⟩:=entry_rch hok hg;have hF:=kC_fair hok;have cB:=fun pc=>st_in (L:=gcode m g) hF pc
 have hl:=code_le hok hg;have hag:=agree hok (List.mem_range.2 hg) hv;have hdp:=dpV_of hag.1;rw[e1,Int.toNat_natCast];have hfind:=fun s i ok (hw:WayR (gcode m g) (kC m) en s i ok)=>(gw_all hok (dpV m g) g).find hok hg rfl hk e1 hw
 unfold stV inV
 cases hS:sumS (gcode m g) (stF (gcode m g) (sF (kC m))) en with
 |none=>
  have:=hfind 0 0 false ⟨fun h=>(by cases h),fun _=>hS⟩;rw[if_neg (by simp),hv]at this
  cases this
 |some a=>
  have hS2:=hS;unfold sumS ev at hS2;obtain⟨u,u1,u2,u3⟩:=sum_below cB (fun pc=>in_st (L:=gcode m g) hF pc) _ (by rw[List.length_range];omega) en a hS2;have hU:sumS (gcode m g) (inF (gcode m g) (iF (kC m))) en=some u:=u1;have:=hfind (tpD a) (tpD u) true ⟨fun _=>⟨a,u,hS,rfl,hU,rfl⟩,fun h=>(by cases h)⟩;rw[hv]at this
  split at this
  ·rename_i q
   injection this with this
   subst this;have q2:=q.2;have ea:tpD a=a:=by unfold tpD at q2 ⊢;omega
   have eu:tpD u=u:=by unfold tpD at q2 ⊢;omega
   refine⟨by rw[ea],by rw[hU,eu],fun x hx=>?_⟩;obtain⟨w,hw⟩:=Option.isSome_iff_exists.1 (hk x hx);refine⟨w,hw,?_⟩;rw[kC_at (hin x hx)]at hw;obtain⟨d,d1,d2,d3⟩:=dp_up hok hg hx hag.1;rw[(agree hok (List.mem_range.2 (hin x hx)) hw).1]at d1;injection d1 with d1
   rw[d1];exact d3
  ·cases this
theorem sumS_step {L:List Ins}{cF:Nat→Int}(hc:∀pc,0≤cF pc∧cF pc≤1099511627777)(hl:L.length≤400){pc q:Nat}{a:Int}(hp:pc≤L.length)(h:sumS L cF pc=some a)(hq:q∈nxN L pc):∃b,sumS L cF q=some b∧cF pc+b≤a:=by
 have hU:∀n∈List.range (L.length+1),∀c∈nxN L n,c∈List.range (L.length+1):=fun n _ c h=>nxN_in L n c h
 have hst:=ev_stop (f:=wyS cF) hU pc (List.mem_range.2 (by omega));unfold sumS ev at h ⊢;rw[←hst]at h;obtain⟨vs,h1,rfl⟩:=sum_at hc (by rw[List.length_range];omega) h;obtain⟨x,hx,hcx⟩:=(map_some h1).1 q hq;have:=mxL_mem hx;exact⟨x,hcx,by omega⟩
theorem sumS_ge {L:List Ins}{cF:Nat→Int}(hc:∀pc,0≤cF pc∧cF pc≤1099511627777)(hl:L.length≤400){pc:Nat}{a:Int}(h:sumS L cF pc=some a):cF pc≤a:=by
 unfold sumS ev at h;exact sum_ge hc (by rw[List.length_range];omega) h
structure FrB (m:PImg)(g pc:Nat)(v:Cst)(a b:Int):Prop where
 k:kC m g=some v
 at_:Rch (gcode m g) [gent m g] (-1) pc∨pc=(gcode m g).length
 st:stV m g pc=some a
 inp:inV m g pc=some b
section
variable {m:PImg} {g pc:Nat} {v:Cst} {a b:Int}
theorem FrB.le (h:FrB m g pc v a b):pc≤(gcode m g).length:=by
 rcases h.at_ with q|q
 ·exact Nat.le_of_lt q.lt
 ·omega
theorem FrB.ge (hok:BOk m)(h:FrB m g pc v a b):1≤a∧0≤b:=by
 have hF:=kC_fair hok;have hl:=code_le hok (kC_lt h.k);have h1:=sumS_ge (fun pc=>st_in (L:=gcode m g) hF pc) hl h.st;have h2:=sumS_ge (fun pc=>in_in (L:=gcode m g) hF pc) hl h.inp;have h3:=ca_in (L:=gcode m g) hF pc;have h4:=in_in (L:=gcode m g) hF pc;have e:stF (gcode m g) (sF (kC m)) pc=1+caF (gcode m g) (sF (kC m)) pc:=by unfold stF;exact wrapU _ (by omega)
 omega
theorem FrB.go (hok:BOk m)(h:FrB m g pc v a b){q:Nat}(hq:q∈nxN (gcode m g) pc):∃a' b',FrB m g q v a' b'∧stF (gcode m g) (sF (kC m)) pc+a'≤a∧inF (gcode m g) (iF (kC m)) pc+b'≤b:=by
 have hF:=kC_fair hok;have hl:=code_le hok (kC_lt h.k);obtain⟨a',e1,e2⟩:=sumS_step (fun pc=>st_in (L:=gcode m g) hF pc) hl h.le h.st hq;obtain⟨b',e3,e4⟩:=sumS_step (fun pc=>in_in (L:=gcode m g) hF pc) hl h.le h.inp hq;refine⟨a',b',⟨h.k,?_,e1,e3⟩,e2,e4⟩;rcases h.at_ with r|r
 ·rcases(nxN_mem r.lt q).1 hq with f|⟨_,f⟩
  ·exact .inl (Rch.step r f (by omega))
  ·exact .inr f
 ·subst r;rw[nxN_over]at hq
  cases hq
theorem FrB.call (hok:BOk m)(h:FrB m g pc v a b){i:Ins}(hi:(gcode m g)[pc]?=some i)(ho:i.op=31):∃u,kC m i.m.toNat=some u∧u.c+1≤v.c∧FrB m i.m.toNat (gent m i.m.toNat).toNat u u.s u.i∧stF (gcode m g) (sF (kC m)) pc=1+u.s∧inF (gcode m g) (iF (kC m)) pc=u.i:=by
 have hF:=kC_fair hok;have hr:Rch (gcode m g) [gent m g] (-1) pc:=by
  rcases h.at_ with r|r
  ·exact r
  ·rw[r,List.getElem?_eq_none (Nat.le_refl _)]at hi
   cases hi
 have hx:=call_in hr hi ho;obtain⟨_,_,hc⟩:=kC_known hok h.k;obtain⟨u,hu,hd⟩:=hc _ hx;obtain⟨k1,k2,_⟩:=kC_known hok hu;obtain⟨en,e1,e2,e3⟩:=entry_rch hok (kC_lt hu);have hv:=hF _ u hu;refine⟨u,hu,hd,⟨hu,.inl (by rw[e1,Int.toNat_natCast];rw[←e1];exact e3),k1,k2⟩,?_,?_⟩
 ·unfold stF caF sF;rw[hi];dsimp only;rw[if_pos ho,hu];dsimp only;have:=hv.s1;have:=hv.s2;exact wrapU _ (by omega)
 ·unfold inF caF iF;rw[hi];dsimp only;rw[if_neg (by omega),if_pos ho,hu]
theorem FrB.start (hok:BOk m)(h:kC m g=some v):FrB m g (gent m g).toNat v v.s v.i:=by
 obtain⟨k1,k2,_⟩:=kC_known hok h;obtain⟨en,e1,e2,e3⟩:=entry_rch hok (kC_lt h);exact⟨h,.inl (by rw[e1,Int.toNat_natCast];rw[←e1];exact e3),k1,k2⟩
end
end Bd
set_option maxRecDepth 100000
set_option maxHeartbeats 40000000
namespace C
open Go.RowKit
open T (Sep Ob Kp Mf TgIn boxOb Fm Tc Ed Vl Cp Bx tgOb mRow mRow_idx mRow_tail mRow_at updV flt Vl.row_len Sl Rg rgB rgT RgIn newTagged_any)
theorem new_no70 (m:PImg)(g:Int)(A I:List Nat)(ra ca ga aa ia:Option Addr)(rc cc gc ac ic:Nat)(w:World)(ht:TabIn w)(hm:ImgIn w.heap.size w ra ca ga m)(hr:m.Rng)(hq:m.right=0)(hent:isEnt m g=false):Calls Tryz.prog 20 #[.agg #[.slice ra m.regs.length rc,.slice ca m.comps.length cc,.slice ga m.gates.length gc,.int .i64 m.depth],.int .i64 g,.slice aa A.length ac,.slice ia I.length ic] w fun x w'=>x=.returned (.tuple #[.pointer none,.int .i64 70])∧Bl w w':=by
 have hRt:=ζ (fun X (q:Gr w X)=>imgRight_any m ra ca ga rc cc gc X (ht.gr q) ((hm.below q.below).mono q.below.size) hr);have hP:=pok_of m hq hr;have hEn:=ζ (fun X (q:Bl w X)=>isEntry_any m g ra ca ga m.regs.length rc m.comps.length cc gc m.depth X ((hm.gates.below q).mono q.size) (fun x hx=>by
  obtain⟨k,hk,rfl⟩:=List.getElem_of_mem hx;have:m.gates[k].args.length≤7:=(hP.gates k hk).2.2.2.2.1;omega))
 rw[hent]at hEn;rw[hq]at hRt;clear hm hr ht hP hq hent;go_enter Tryz.func20,Tryz.ntmps20;go_wp2_with fail;refine(hRt.out _ ((Gr.refl w).alloc _)).mono ?_;rintro x W1 ⟨rfl,e1⟩;have g1:=ζ ((Gr.refl w).alloc (.cells #[.slice ra m.regs.length rc,.slice ca m.comps.length cc,.slice ga m.gates.length gc,.int .i64 m.depth] 40) |>.trans e1).below;have a1:=Bl.at_ (Bl.gr e1) (At.new w #[.slice ra m.regs.length rc,.slice ca m.comps.length cc,.slice ga m.gates.length gc,.int .i64 m.depth] 40);have⟨l1,p1,_⟩:=a1;replace a1:=ζ a1;clear e1 hRt;go_wp2_with fail;refine(hEn.out _ g1.out).mono ?_;rintro x W2 ⟨rfl,e1⟩;replace g1:=ζ (Bl.trans g1.out e1);replace a1:=ζ (Bl.at_ e1 a1.out);clear p1 l1 e1 hEn;have⟨l1,p1,_⟩:=a1.out;clear p1;go_wp2_with fail;simp[bodyPost,results,Tryz.results20,go_sem];exact g1.out
theorem ent_lt {m:PImg}{g:Int}(h:isEnt m g=true):0≤g∧g<m.gates.length:=by
 unfold isEnt at h
 split at h
 ·assumption
 ·cases h
theorem run_box (row:Array Value)(W:World):(Instr.box 86 (.agg row)).run Tryz.prog W=.ok (.pointer (some ⟨W.heap.size,0,none⟩)) (W.alloc (.cells row 86)):=rfl
theorem wp_box_mc {o:Oper}{a:Act}{K:Act→World→Prop}{Q:Exit→Act→World→Prop}{w:World}{x:Operand}(ho:o.op=.box 86 x)(row:Array Value)(hx:a.eval x=.agg row)(h:K (a.put o.dst (.pointer (some ⟨w.heap.size,0,none⟩))) (w.alloc (.cells row 86))):o.wp Tryz.prog a w K Q:=by
 unfold Oper.wp execOp;simp only[ho,hx,run_box,Sem.run_bind,Sem.run_pure,Result.andThen_ok];exact h
theorem new_ok (m:PImg)(g:Nat)(A I:List Nat)(ra ca ga aa ia:Option Addr)(rc cc gc ac ic:Nat)(w:World)(ht:TabIn w)(hm:ImgIn w.heap.size w ra ca ga m)(hr:m.Rng)(hq:m.right=0)(hent:isEnt m g=true)(hal:A.length=(argsOf m g).length)(hA:NumIn w aa A)(hI:InS w ia I ic)(hil:I.length≤2000000):
 Calls Tryz.prog 20 #[.agg #[.slice ra m.regs.length rc,.slice ca m.comps.length cc,.slice ga m.gates.length gc,.int .i64 m.depth],.int .i64 g,.slice aa A.length ac,.slice ia I.length ic] w fun x w'=>∃a,x=.returned (.tuple #[.pointer (some ⟨a,0,none⟩),.int .i64 0])∧MIn w.heap.size w' a (bare m) (start m g A I) []∧Below w.heap.size w w':=by
 have hRt:=ζ (fun X (q:Gr w X)=>imgRight_any m ra ca ga rc cc gc X (ht.gr q) ((hm.below q.below).mono q.below.size) hr);have hP:POk (bare m):=pok_of m hq hr;have hEn:=ζ (fun X (q:Bl w X)=>isEntry_any m g ra ca ga m.regs.length rc m.comps.length cc gc m.depth X ((hm.gates.below q).mono q.size) (fun x hx=>by
  obtain⟨k,hk,rfl⟩:=List.getElem_of_mem hx;have:m.gates[k].args.length≤7:=(hP.gates k hk).2.2.2.2.1;omega))
 rw[hent]at hEn;rw[hq]at hRt;obtain⟨_,e2⟩:=ent_lt hent;have hk:g<m.gates.length:=by omega
 rw[argsOf_at m g hk]at hal;have hA7:A.length≤7:=by rw[hal];exact(hP.gates g hk).2.2.2.2.1
 have hCp:=ζ (fun X (q:Bl w X)=>Copy_any (bare m) none ca ga 0 cc gc X ⟨fun i hi=>absurd hi (Nat.not_lt_zero i),(hm.comps.below q).mono q.size,(hm.gates.below q).mono q.size⟩ (fits_of hP));have hNT:=ζ (fun X (q:Bl w X)=>newTagged_any (m.regs.map rgOf) ra rc (.slice ca m.comps.length cc) (.slice ga m.gates.length gc) (.int .i64 m.depth) X (rg_in ((hm.regs.below q).mono q.size) hr.regs.2) (rg_ok hr.regs.2) (by rw[List.length_map];exact hr.regs.1));rw[List.length_map]at hNT;have hIt:=ζ (fun X (q:Bl w X)=>integers_any A aa ac X (hA.bl q) (by omega));have hCl:=ζ (fun X (q:Bl w X)=>clone_in I ia ic X (hI.bl q) hil);obtain⟨b,off,xa,xc,ya,yc,rfl,_,hb,c0,c1,c2,c3,hx,_⟩:=hm.gates g hk;replace c2:w.cell? ⟨b,off+g*4+2,none⟩=some (.slice xa m.gates[g].args.length xc):=c2;have hc2:=ζ (fun X (q:Bl w X)=>(q.cell (p:=⟨b,off+g*4+2,none⟩) hb).trans c2);have gi:(g:Int)<m.gates.length:=by omega
 rw[←hal]at hc2;have hal2:=ζ hal;clear hm hr ht hq hent hx c0 c1 c3 c2 hal hA hI;go_enter Tryz.func20,Tryz.ntmps20;go_wp2_with fail;refine(hRt.out _ ((Gr.refl w).alloc _)).mono ?_;rintro x W1 ⟨rfl,e1⟩;have g1:=ζ ((Gr.refl w).alloc (.cells #[.slice ra m.regs.length rc,.slice ca m.comps.length cc,.slice (some ⟨b,off,none⟩) m.gates.length gc,.int .i64 m.depth] 40) |>.trans e1).below;have a1:=Bl.at_ (Bl.gr e1) (At.new w #[.slice ra m.regs.length rc,.slice ca m.comps.length cc,.slice (some ⟨b,off,none⟩) m.gates.length gc,.int .i64 m.depth] 40);have⟨l1,p1,_⟩:=a1;replace a1:=ζ a1;clear e1 hRt;go_wp2_with fail;refine(hEn.out _ g1.out).mono ?_;rintro x W2 ⟨rfl,e1⟩;replace g1:=ζ (Bl.trans g1.out e1);replace a1:=ζ (Bl.at_ e1 a1.out);clear p1 l1 e1 hEn;have⟨l1,p1,_⟩:=a1.out;have c2:=hc2.out W2 g1.out;have hb2:b<W2.heap.size:=Nat.lt_of_lt_of_le hb g1.out.size;go_wp2_with fail;refine(hCp.out _ g1.out).mono ?_
 rintro x X5 ⟨ra2,rc2,ca2,cc2,ga2,gc2,rfl,hOwn,e1⟩;have gX5:Bl w X5:=Bl.trans g1.out e1;have a5:=ζ (Bl.at_ e1 a1.out);have hlo:w.heap.size≤W2.heap.size:=g1.out.size;have hOwn:=ζ hOwn;clear p1 l1 c2 a1;go_upto_region 9 with fail
 refine wp_world (fun X=>Bl X5 X∧At X X5.heap.size #[.slice ra2 0 rc2,.slice ca2 m.comps.length cc2,.slice ga2 m.gates.length gc2,.int .i64 m.depth]) ?_ ?_
 ·exact⟨(Bl.refl X5).alloc _,At.new X5 _ _⟩
 rintro X ⟨gX,aX⟩;have a0:=Bl.at_ gX a5.out;have gwX:Bl w X:=gX5.trans gX;have hBX:w.heap.size≤X.heap.size:=gwX.size;have hg9:=ζ gwX;have KT:Hz (∀Y,Bl X Y→(Y.cell? ⟨X5.heap.size,0,none⟩=some (.slice ra2 0 rc2)∧Y.cell? ⟨X5.heap.size,1,none⟩=some (.slice ca2 m.comps.length cc2)∧Y.cell? ⟨X5.heap.size,2,none⟩=some (.slice ga2 m.gates.length gc2)∧Y.cell? ⟨X5.heap.size,3,none⟩=some (.int .i64 m.depth))∧Y.cell? ⟨w.heap.size,0,none⟩=some (.slice ra m.regs.length rc)∧Y.cell? ⟨w.heap.size,1,none⟩=some (.slice ca m.comps.length cc)∧Y.cell? ⟨w.heap.size,2,none⟩=some (.slice (some ⟨b,off,none⟩) m.gates.length gc)∧Y.cell? ⟨w.heap.size,3,none⟩=some (.int .i64 m.depth)):=ζ (fun Y q=>⟨⟨(Bl.at_ q aX).2.1 0,(Bl.at_ q aX).2.1 1,(Bl.at_ q aX).2.1 2,(Bl.at_ q aX).2.1 3⟩,(Bl.at_ q a0).2.1 0,(Bl.at_ q a0).2.1 1,(Bl.at_ q a0).2.1 2,(Bl.at_ q a0).2.1 3⟩);have hSep:Hz (Sep w.heap.size X [ouOb w.heap.size (.slice none 0 0) [],tcOb w.heap.size (.slice none 0 0) [],snapOb W2.heap.size X5]):=ζ (sep_void (sep_void (sep_low ((snap_sep W2.heap.size X5).gr gX) hlo) _ _ hBX) _ _ hBX)
 obtain⟨hk1,hk2,hk3,hk4⟩:=hP.kl g hk;have hImg:Hz (∀Y,Bl X5 Y→ImgIn Y.heap.size Y ra2 ca2 ga2 (bare m)):=ζ (fun Y q=>(img_snap hOwn.out (fun k _ hk=>q.block k hk)).into);have hEt:=ζ (fun Y (q:Bl X Y) va (hs:SrcV Y va (intsF A) A.length)=>entered_any (bare m) (.slice ra2 0 rc2) (.int .i64 m.depth) g (eOf (bare m) g) (kOf (bare m) g) A.length (intsF A) ca2 ga2 cc2 gc2 va A.length Y hk (hImg.out Y (gX.trans q)).gates (hImg.out Y (gX.trans q)).comps hk3 hk2 hk1 (fun x hx=>by
  have:=(hP.roots (kOf (bare m) g)).2 x (by rw[rootsOf_at _ _ hk1];exact hx);omega) (by
  have:=(hP.roots (kOf (bare m) g)).1;rw[rootsOf_at _ _ hk1]at this;omega) hs (by omega))
 rw[←rootsOf_at (bare m) _ hk1]at hEt;have hEe:rootsJ ⟨g,eOf (bare m) g,ovF (intsF A) (fun _=>zV) A.length⟩ (rootsOf (bare m) (kOf (bare m) g)) (rootsOf (bare m) (kOf (bare m) g)).length=entF (bare m) g (intsF A) A.length:=rfl;rw[hEe]at hEt;clear hEe;replace hNT:=ζ (fun Y (q:Bl X Y)=>hNT.out Y (gwX.trans q));replace hIt:=ζ (fun Y (q:Bl X Y)=>hIt.out Y (gwX.trans q));replace hCl:=ζ (fun Y (q:Bl X Y)=>hCl.out Y (gwX.trans q));have hfin:Hz (∀(U4:World) SM km i0 i2,Bl X U4→Sep w.heap.size U4 (inOb (.slice i0 I.length i2) (I.map fun x:Nat=>(x:Int))::tgOb SM km (rgB (m.regs.map rgOf) m.regs.length) (rgT (m.regs.map rgOf) m.regs.length)::[ouOb w.heap.size (.slice none 0 0) [],tcOb w.heap.size (.slice none 0 0) [],snapOb W2.heap.size X5])→MIn w.heap.size (U4.alloc (.cells (zrow (.slice ra2 0 rc2) (.slice ca2 m.comps.length cc2) (.slice ga2 m.gates.length gc2) m.depth km (entF (bare m) g (intsF A) A.length) (.slice i0 I.length i2)).toArray 86)) U4.heap.size (bare m) (start m g A I) []):=ζ (fun U4 SM km i0 i2 q hS=>by
  have hB4:w.heap.size≤U4.heap.size:=Nat.le_trans hBX q.size;have h1:=sep_void hS 82 114 hB4;have hat:=At.new U4 (zrow (.slice ra2 0 rc2) (.slice ca2 m.comps.length cc2) (.slice ga2 m.gates.length gc2) m.depth km (entF (bare m) g (intsF A) A.length) (.slice i0 I.length i2)).toArray 86;have h2:=h1.add (bx_ U4.heap.size (zrow (.slice ra2 0 rc2) (.slice ca2 m.comps.length cc2) (.slice ga2 m.gates.length gc2) m.depth km (entF (bare m) g (intsF A) A.length) (.slice i0 I.length i2))) ⟨hat.1,fun o v e=>(hat.2.1 o).trans (by simpa using e),hat.2.2⟩ (fun k e=>by have:k=U4.heap.size:=e;omega) ((Below.refl _ U4).alloc (Nat.le_refl _) _) hB4;refine⟨⟨⟨ra2,rc2,ca2,cc2,ga2,gc2,km,.slice none 0 0,.slice i0 I.length i2,.slice none 0 0,.slice none 0 0,SM,W2.heap.size,X5⟩,?_,hOwn.out⟩,by rw[World.size_alloc];omega⟩;have h3:=sep_perm h2 (List.Perm.cons _ (List.perm_middle (a:=tgOb SM km (rgB (m.regs.map rgOf) m.regs.length) (rgT (m.regs.map rgOf) m.regs.length)) (l₁:=[rowOb w.heap.size 82 114 (.slice none 0 0) 0 [],inOb (.slice i0 I.length i2) (I.map fun x:Nat=>(x:Int))])))
  rw[List.append_nil];exact h3)
 generalize hfE:entF (bare m) g (intsF A) A.length=fE at hEt hfin;replace hfE:=ζ hfE;replace hP:=ζ hP;clear hCp hImg aX a0 gX gX5 gwX a5 hk1 hk2 hk3 hk4 hOwn hlo g1;generalize X5.heap.size=kp at*;generalize hk0:w.heap.size=k0 at*;replace hk0:=ζ hk0;have f0:Bl X X.drew:=(Bl.refl X).drew;refine wp_region_held_drew (S:=(fun X=>(X.cell? ⟨kp,0,none⟩=some (.slice ra2 0 rc2)∧X.cell? ⟨kp,1,none⟩=some (.slice ca2 m.comps.length cc2)∧X.cell? ⟨kp,2,none⟩=some (.slice ga2 m.gates.length gc2)∧X.cell? ⟨kp,3,none⟩=some (.int .i64 m.depth))∧X.cell? ⟨k0,0,none⟩=some (.slice ra m.regs.length rc)∧X.cell? ⟨k0,1,none⟩=some (.slice ca m.comps.length cc)∧X.cell? ⟨k0,2,none⟩=some (.slice (some ⟨b,off,none⟩) m.gates.length gc)∧X.cell? ⟨k0,3,none⟩=some (.int .i64 m.depth))) (by kernel_rfl) (KT.out _ f0) (fun hHeld=>?_);refine xz 0 rfl (h:=xz 1 rfl (h:=xz 3 rfl (h:=xz 4 rfl (h:=xz 5 rfl (h:=xz 8 rfl (h:=?_))))));try simp only[xap]
 refine xrd 2 rfl (fun K hK=>?_);go_simp;refine(hNT.out _ f0).mono ?_;rintro r U1 ⟨SM,rfl,hTg,hSM,e1⟩;have f1:=Bl.trans f0 e1;have hSep1:=ζ ((hSep.out.gr f0).add (tgOb SM _ _ _) hTg (fun k q=>Nat.le_of_lt (hSM k q)) e1 (Nat.le_trans hBX f0.size));replace hTg:=ζ hTg;replace hSM:=ζ hSM;clear hHeld e1;refine hK.out _ _ (KT.out _ f1) (fun hHeld=>?_);clear hK K;try simp only[xap]
 refine xrd 6 rfl (fun K hK=>?_);go_simp;refine(hIt.out _ f1).mono ?_;rintro r U2 ⟨va,rfl,hsrc,e1⟩;have f2:=Bl.trans f1 e1;replace hSep1:=ζ (hSep1.out.gr e1);replace hsrc:=ζ hsrc;clear hHeld e1;refine hK.out _ _ (KT.out _ f2) (fun hHeld=>?_);clear hK K;try simp only[xap]
 refine xrd 7 rfl (fun K hK=>?_);go_simp;refine(hEt.out _ f2 va hsrc.out).mono ?_;rintro r U3 ⟨rfl,e1⟩;have f3:=Bl.trans f2 e1;replace hSep1:=ζ (hSep1.out.gr e1);clear hHeld e1;refine hK.out _ _ (KT.out _ f3) (fun hHeld=>?_);clear hK K;try simp only[xap]
 refine xrd 9 rfl (fun K hK=>?_);go_simp;refine(hCl.out _ f3).mono ?_;rintro r U4 ⟨i0,i2,rfl,hIv,hIn,e1⟩;have f4:=Bl.trans f3 e1;have hSep2:=ζ (hSep1.out.add (inOb _ _) hIv hIn e1 (Nat.le_trans hBX f3.size));clear hHeld e1 hIv hIn;refine hK.out _ _ (KT.out _ f4) (fun hHeld=>?_);clear hK K;try simp only[xap]
 refine xtk 10 rfl (yields_mc (by rfl) _ _ _ _ rfl _ _ _ _ _ _ _ _ _ _ _ _ _ _ fE (by rfl) (by rfl) (by rfl) (by rfl)) ?_;try simp only[xap]
 refine xrd 11 rfl (fun K hK=>?_);rw[if_pos (by rfl)];refine wp_box_mc rfl _ rfl ?_;clear hHeld;refine hK.out _ _ (KT.out _ (f4.alloc _)) (fun hHeld=>?_);clear hK K;try simp only[xap]
 refine xz 12 rfl (h:=xz 13 rfl (h:=?_));try simp only[xap]
 refine xdn ?_ _;clear hHeld;go_wp2_with fail;refine bodyPost_ret (v:=.tuple #[.pointer (some ⟨U4.heap.size,0,none⟩),.int .i64 0]) (by simp[results,Tryz.results20,go_sem]) rfl ⟨U4.heap.size,rfl,?_,?_⟩
 ·have hz:=hfin.out U4 _ _ _ _ f4 hSep2.out;rw[←hk0.out]at hz;exact hz
 ·exact Below.mono ((hg9.out.trans f4).alloc _) (Nat.le_refl _)
open T (Sep Ob Kp Mf TgIn boxOb Fm Tc Ed Vl Cp Bx tgOb mRow mRow_idx mRow_tail mRow_at updV flt Vl.row_len regRow regRow_at regRow_len)
def tl (s:Ms):List Value:=[.int .i64 s.over.e,.int .u64 s.over.v,.int .i64 s.over.f,.int .i64 s.at_.gate,.int .i64 s.at_.pc]
theorem tl_one (s:Ms):(tl s).toArray.all (fun x=>x.oneCell')=true:=by simp[tl,Value.oneCell']
theorem stands_any (B:Nat)(a:Nat)(P:PImg)(s:Ms)(l:List Ob)(w:World)(h:MIn B w a P s l):
 Calls Tryz.prog 22 #[.pointer (some ⟨a,0,none⟩)] w fun x w'=>x=.returned (.agg (tl s).toArray)∧Bl w w':=by
 have hlt:=h.alt;have gV:Bl w (w.alloc (.cells #[.int .i64 0,.int .u64 0,.int .i64 0,.int .i64 0,.int .i64 0] 50)):=(Bl.refl w).alloc _;have KS:Hz (∀X,Bl w X→X.cell? ⟨a,123,none⟩=some (.int .i64 s.over.e)∧X.cell? ⟨a,124,none⟩=some (.int .u64 s.over.v)∧X.cell? ⟨a,125,none⟩=some (.int .i64 s.over.f)∧X.cell? ⟨a,5,none⟩=some (.int .i64 s.at_.gate)∧X.cell? ⟨a,6,none⟩=some (.int .i64 s.at_.pc)):=ζ (fun X q=>by
  obtain⟨k1,k2,k3,k4,k5,_⟩:=(h.gr q).cell;exact⟨k3,k4,k5,k1,k2⟩)
 have hR0:At (w.alloc (.cells #[.int .i64 0,.int .u64 0,.int .i64 0,.int .i64 0,.int .i64 0] 50)) w.heap.size (List.toArray [Value.int .i64 0,.int .u64 0,.int .i64 0,.int .i64 0,.int .i64 0]):=At.new w _ _;replace h:=ζ h;go_enter Tryz.func22,Tryz.ntmps22;go_upto_region 1 with fail
 generalize w.alloc (.cells #[.int .i64 0,.int .u64 0,.int .i64 0,.int .i64 0,.int .i64 0] 50)=V at*;have gD:Bl w V.drew:=gV.drew;have hR1:At V.drew w.heap.size (List.toArray [Value.int .i64 0,.int .u64 0,.int .i64 0,.int .i64 0,.int .i64 0]):=hR0.drew;have hth:=ζ (At.there hR1 0 5 (by decide));have hA8:=ζ (At.setAll hR1 (tl s) rfl);have g9:=gD.sets w.heap.size (Nat.le_refl _) (tl s) 0;have gD2:=g9;replace hR1:=ζ hR1;replace hR0:=ζ hR0;refine wp_region_held_drew (S:=(fun X=>X.cell? ⟨a,123,none⟩=some (.int .i64 s.over.e)∧X.cell? ⟨a,124,none⟩=some (.int .u64 s.over.v)∧X.cell? ⟨a,125,none⟩=some (.int .i64 s.over.f)∧X.cell? ⟨a,5,none⟩=some (.int .i64 s.at_.gate)∧X.cell? ⟨a,6,none⟩=some (.int .i64 s.at_.pc))) (by kernel_rfl) (KS.out _ gD) (fun hHeld=>?_);refine xz 0 rfl (h:=xz 1 rfl (h:=xz 2 rfl (h:=xz 3 rfl (h:=xz 4 rfl (h:=xz 5 rfl (h:=xz 6 rfl (h:=xz 7 rfl (h:=xz 8 rfl (h:=xz 9 rfl (h:=xz 10 rfl (h:=xz 11 rfl (h:=xz 12 rfl (h:=xz 13 rfl (h:=xz 14 rfl (h:=xz 15 rfl (h:=xz 16 rfl (h:=xz 17 rfl (h:=xz 18 rfl (h:=xz 19 rfl (h:=xz 20 rfl (h:=xz 21 rfl (h:=xz 22 rfl (h:=xz 23 rfl (h:=xz 24 rfl (h:=xz 25 rfl (h:=?_))))))))))))))))))))))))))
 try simp only[xap]
 refine xrd 26 rfl (fun K hK=>?_);rw[if_pos (by rfl)];refine wp_store_mid _ _ _ rfl _ _ (List.toArray (tl s)) rfl rfl (show World.there _ _ _ _ from hth.out) (by kernel_rfl) (tl_one s) ?_;clear hHeld;refine hK.out _ _ (KS.out _ gD2) (fun hHeld=>?_);clear hK K;try simp only[Act.put]
 refine xdn ?_ _;clear hHeld;generalize World.setCells _ _ _ _=Y9 at*;have hrun:=run_loadVar_mid (P:=Tryz.prog) Y9 w.heap.size 0 50 (tl s) _ hA8.out.range Tryz.underlying50 rfl (by kernel_rfl);replace g9:=ζ g9;go_wp2_with fail;refine bodyPost_ret (v:=.agg (tl s).toArray) ?_ rfl ⟨rfl,g9.out⟩;exact results_cellE Tryz.results22 _ _ rfl hrun
theorem steps_all (B:Nat)(W0:World)(a:Nat)(P:PImg)(s:Ms)(l:List Ob)(n k:Nat)(most:Int)(hmk:most.toNat=k)(hP:POk P)(h:MIn B W0 a P s l)(ok:Okm P n s)(hn:n+k≤1000000):
 Calls Tryz.prog 21 #[.pointer (some ⟨a,0,none⟩),.int .i64 most] W0 fun x w'=>x=.returned (.tuple #[])∧MIn B w' a P (stepsM P k s) l∧Below B W0 w':=by
 by_cases h0:s.over.e=0
 ·exact steps_any B W0 a P s l n k most hmk hP h ok hn h0
 ·rw[stepsM_end h0 k];exact steps_over B W0 a P s l most h h0
theorem step_any (B:Nat)(W0:World)(a:Nat)(P:PImg)(s:Ms)(l:List Ob)(n:Nat)(hP:POk P)(h:MIn B W0 a P s l)(ok:Okm P n s)(hn:n+1≤1000000):
 Calls Tryz.prog 31 #[.pointer (some ⟨a,0,none⟩)] W0 fun x w'=>x=.returned (.agg (tl (stepsM P 1 s)).toArray)∧MIn B w' a P (stepsM P 1 s) l∧Below B W0 w':=by
 have hS:=ζ (fun X l' (q:MIn B X a P s l')=>steps_all B X a P s l' n 1 1 rfl hP q ok hn);generalize stepsM P 1 s=s1 at*;have hSt:=ζ (fun X l' (q:MIn B X a P s1 l')=>stands_any B a P s1 l' X q);have h2:=ζ (h.new #[.int .i64 0,.int .u64 0,.int .i64 0,.int .i64 0,.int .i64 0] 50);clear h;go_enter Tryz.func31,Tryz.ntmps31;go_upto_region 1 with fail
 refine wp_world (fun W=>MIn B W a P s (boxOb W0.heap.size #[.int .i64 0,.int .u64 0,.int .i64 0,.int .i64 0,.int .i64 0]::l)∧Below B W0 W) h2.out ?_;clear h2;rintro W ⟨h,hB⟩;generalize W0.heap.size=kr at*;replace h:=ζ h;replace hB:=ζ hB;go_wp2_with fail;refine(hS.out _ _ h.out).mono ?_;rintro r X1 ⟨rfl,h1,hB1⟩;replace hB:=ζ (hB.out.trans hB1);replace h:=ζ h1;clear h1 hB1 hS;go_upto_region 4 with fail
 refine wp_region_lit ?_;refine xp fun K hK=>?_
 go_simp;with_reducible refine hK _ _ ?_
 clear hK K;try simp only[xap]
 refine xp fun K hK=>?_
 go_simp;refine(hSt.out _ _ h.out).mono ?_;rintro r X2 ⟨rfl,e1⟩;replace hB:=ζ (hB.out.trans (h.out.bl e1).2);replace h:=ζ (h.out.bl e1).1;clear e1;with_reducible refine hK _ _ ?_
 clear hK K;try simp only[xap]
 have hA:=h.out.there (boxOb kr #[.int .i64 0,.int .u64 0,.int .i64 0,.int .i64 0,.int .i64 0]) (.head _);replace hA:At X2 kr (List.toArray [Value.int .i64 0,.int .u64 0,.int .i64 0,.int .i64 0,.int .i64 0]):=hA;have hth:=ζ (At.there hA 0 5 (by decide));have hA8:=ζ (At.setAll hA (tl s1) rfl);have hsd:=h.out.side (o:=boxOb kr #[.int .i64 0,.int .u64 0,.int .i64 0,.int .i64 0,.int .i64 0]) (o':=boxOb kr (tl s1).toArray) (W':=X2.setCells kr 0 (tl s1)) hA8.out (T.kp_setCells (fun k=>k=kr) kr rfl _ _ X2) (fun k q=>.inl q);replace hA:=ζ hA;replace hsd:=ζ hsd;refine wpList_store_mid rfl _ _ _ rfl _ _ (List.toArray (tl s1)) rfl rfl (show World.there _ _ _ _ from hth.out) (by kernel_rfl) (tl_one _) ?_;try simp only[Act.put]
 generalize World.setCells _ _ _ _=Y9 at*;have hrun:=run_loadVar_mid (P:=Tryz.prog) Y9 kr 0 50 (tl s1) _ hA8.out.range Tryz.underlying50 rfl (by kernel_rfl);go_wp2_with fail;refine bodyPost_ret (v:=.agg (tl s1).toArray) ?_ rfl ⟨rfl,hsd.out.1.drop,hB.out.trans hsd.out.2⟩;exact results_cellE Tryz.results31 _ _ rfl hrun
def spent (s:Ms):Ms:=if s.over.e=0 then s.ended ⟨4,0,0⟩else s
def runM (P:PImg)(fuel:Int)(s:Ms):Ms:=spent (stepsM P (min fuel 100000).toNat s)
theorem run_any (B:Nat)(W0:World)(a:Nat)(P:PImg)(s:Ms)(l:List Ob)(n:Nat)(fuel:Int)(hP:POk P)(h:MIn B W0 a P s l)(ok:Okm P n s)(hn:n+(min fuel 100000).toNat≤1000000):
 Calls Tryz.prog 10 #[.pointer (some ⟨a,0,none⟩),.int .i64 fuel] W0 fun x w'=>x=.returned (.agg (tl (runM P fuel s)).toArray)∧MIn B w' a P (runM P fuel s) l∧Below B W0 w':=by
 have hS:=ζ (fun X l' (q:MIn B X a P s l')=>steps_all B X a P s l' n (min fuel 100000).toNat (min fuel 100000) rfl hP q ok hn);unfold runM;generalize stepsM P (min fuel 100000).toNat s=s1 at*;generalize hmn:min fuel 100000=mn at*;unfold spent;by_cases h0:s1.over.e=0
 ·rw[if_pos h0];generalize hs2:s1.ended ⟨4,0,0⟩=s2;have hSt:=ζ (fun X l' (q:MIn B X a P s2 l')=>stands_any B a P s2 l' X q);replace h0:=ζ h0;replace hs2:=ζ hs2;have h2:=ζ (h.new #[.int .i64 0,.int .u64 0,.int .i64 0,.int .i64 0,.int .i64 0] 50);clear h;go_enter Tryz.func10,Tryz.ntmps10;go_upto_region 1 with fail
  refine wp_world (fun W=>MIn B W a P s (boxOb W0.heap.size #[.int .i64 0,.int .u64 0,.int .i64 0,.int .i64 0,.int .i64 0]::l)∧Below B W0 W) h2.out ?_;clear h2;rintro W ⟨h,hB⟩;generalize W0.heap.size=kr at*;replace h:=ζ h;replace hB:=ζ hB;go_wp2_with fail;refine(hS.out _ _ h.out).mono ?_;rintro r X1 ⟨rfl,h1,hB1⟩;replace hB:=ζ (hB.out.trans hB1);obtain⟨_,_,c3,c4,c5,fr⟩:=h1.cell;rw[h0.out]at c3;have hlt:=h1.alt;have hov:=h1.setOver ⟨4,0,0⟩;rw[hs2.out]at hov;replace hov:=ζ hov;clear h1 hB1 hS h;go_upto_region 6 with fail
  replace hB:=ζ (hB.out.trans hov.out.2);have h:=ζ hov.out.1;clear hov c3 c4 c5 fr hlt;generalize World.setCell (World.setCell (World.setCell _ _ _) _ _) _ _=X3 at*;refine wp_region_lit ?_;refine xp fun K hK=>?_
  go_simp;with_reducible refine hK _ _ ?_
  clear hK K;try simp only[xap]
  refine xp fun K hK=>?_
  go_simp;refine(hSt.out _ _ h.out).mono ?_;rintro r X2 ⟨rfl,e1⟩;replace hB:=ζ (hB.out.trans (h.out.bl e1).2);replace h:=ζ (h.out.bl e1).1;clear e1;with_reducible refine hK _ _ ?_
  clear hK K;try simp only[xap]
  have hA:=h.out.there (boxOb kr #[.int .i64 0,.int .u64 0,.int .i64 0,.int .i64 0,.int .i64 0]) (.head _);replace hA:At X2 kr (List.toArray [Value.int .i64 0,.int .u64 0,.int .i64 0,.int .i64 0,.int .i64 0]):=hA;have hth:=ζ (At.there hA 0 5 (by decide));have hA8:=ζ (At.setAll hA (tl s2) rfl);have hsd:=h.out.side (o:=boxOb kr #[.int .i64 0,.int .u64 0,.int .i64 0,.int .i64 0,.int .i64 0]) (o':=boxOb kr (tl s2).toArray) (W':=X2.setCells kr 0 (tl s2)) hA8.out (T.kp_setCells (fun k=>k=kr) kr rfl _ _ X2) (fun k q=>.inl q);replace hA:=ζ hA;replace hsd:=ζ hsd;refine wpList_store_mid rfl _ _ _ rfl _ _ (List.toArray (tl s2)) rfl rfl (show World.there _ _ _ _ from hth.out) (by kernel_rfl) (tl_one _) ?_;try simp only[Act.put]
  generalize World.setCells _ _ _ _=Y9 at*;have hrun:=run_loadVar_mid (P:=Tryz.prog) Y9 kr 0 50 (tl s2) _ hA8.out.range Tryz.underlying50 rfl (by kernel_rfl);go_wp2_with fail;refine bodyPost_ret (v:=.agg (tl s2).toArray) ?_ rfl ⟨rfl,hsd.out.1.drop,hB.out.trans hsd.out.2⟩;exact results_cellE Tryz.results10 _ _ rfl hrun
 ·rw[if_neg h0];have hSt:=ζ (fun X l' (q:MIn B X a P s1 l')=>stands_any B a P s1 l' X q);have h0':(s1.over.e==0)=false:=by simpa using h0
  have h2:=ζ (h.new #[.int .i64 0,.int .u64 0,.int .i64 0,.int .i64 0,.int .i64 0] 50);clear h;go_enter Tryz.func10,Tryz.ntmps10;go_upto_region 1 with fail
  refine wp_world (fun W=>MIn B W a P s (boxOb W0.heap.size #[.int .i64 0,.int .u64 0,.int .i64 0,.int .i64 0,.int .i64 0]::l)∧Below B W0 W) h2.out ?_;clear h2;rintro W ⟨h,hB⟩;generalize W0.heap.size=kr at*;replace h:=ζ h;replace hB:=ζ hB;go_wp2_with fail;refine(hS.out _ _ h.out).mono ?_;rintro r X1 ⟨rfl,h1,hB1⟩;replace hB:=ζ (hB.out.trans hB1);have c3:=h1.cell.2.2.1;have hlt:=h1.alt;replace h:=ζ h1;clear h1 hB1 hS;generalize s1.over.e=e9 at h0' c3 h0;go_upto_region 6 with fail
  clear c3 h0' h0 hlt;refine wp_region_lit ?_;refine xp fun K hK=>?_
  go_simp;with_reducible refine hK _ _ ?_
  clear hK K;try simp only[xap]
  refine xp fun K hK=>?_
  go_simp;refine(hSt.out _ _ h.out).mono ?_;rintro r X2 ⟨rfl,e1⟩;replace hB:=ζ (hB.out.trans (h.out.bl e1).2);replace h:=ζ (h.out.bl e1).1;clear e1;with_reducible refine hK _ _ ?_
  clear hK K;try simp only[xap]
  have hA:=h.out.there (boxOb kr #[.int .i64 0,.int .u64 0,.int .i64 0,.int .i64 0,.int .i64 0]) (.head _);replace hA:At X2 kr (List.toArray [Value.int .i64 0,.int .u64 0,.int .i64 0,.int .i64 0,.int .i64 0]):=hA;have hth:=ζ (At.there hA 0 5 (by decide));have hA8:=ζ (At.setAll hA (tl s1) rfl);have hsd:=h.out.side (o:=boxOb kr #[.int .i64 0,.int .u64 0,.int .i64 0,.int .i64 0,.int .i64 0]) (o':=boxOb kr (tl s1).toArray) (W':=X2.setCells kr 0 (tl s1)) hA8.out (T.kp_setCells (fun k=>k=kr) kr rfl _ _ X2) (fun k q=>.inl q);replace hA:=ζ hA;replace hsd:=ζ hsd;refine wpList_store_mid rfl _ _ _ rfl _ _ (List.toArray (tl s1)) rfl rfl (show World.there _ _ _ _ from hth.out) (by kernel_rfl) (tl_one _) ?_;try simp only[Act.put]
  generalize World.setCells _ _ _ _=Y9 at*;have hrun:=run_loadVar_mid (P:=Tryz.prog) Y9 kr 0 50 (tl s1) _ hA8.out.range Tryz.underlying50 rfl (by kernel_rfl);go_wp2_with fail;refine bodyPost_ret (v:=.agg (tl s1).toArray) ?_ rfl ⟨rfl,hsd.out.1.drop,hB.out.trans hsd.out.2⟩;exact results_cellE Tryz.results10 _ _ rfl hrun
end C
end Go.Proofs.YthlpjlnehonpdaaGreatDoor
