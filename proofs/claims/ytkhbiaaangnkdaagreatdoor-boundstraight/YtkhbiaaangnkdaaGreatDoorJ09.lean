import Derived.Test.YtkhbiaaangnkdaaGreatDoorJ08
import Derived.Lib.MinMax
import Derived.Test.YtkhbiaaangnkdaaGreatDoorJ03
namespace Go.Proofs.YtkhbiaaangnkdaaGreatDoor
set_option maxRecDepth 100000
set_option maxHeartbeats 40000000
namespace Bd
open Go.RowKit
open T (Kp)
open F (thB nxtI folB IOwn own_slice)
theorem cost_f1 (kn:Bool)(s C i:Int)(w:World):(Instr.field 42 (.agg #[.bool kn,.int .u64 s,.int .u64 C,.int .u64 i]) 1).run Tryz.prog w=.ok (.int .u64 s) w:=by kernel_rfl
theorem cost_f3 (kn:Bool)(s C i:Int)(w:World):(Instr.field 42 (.agg #[.bool kn,.int .u64 s,.int .u64 C,.int .u64 i]) 3).run Tryz.prog w=.ok (.int .u64 i) w:=by kernel_rfl
theorem ca_any (L:List Ins)(ca:Option Addr)(cc:Nat)(ka:Option Addr)(n kc:Nat)(sg ig:Nat→Int)(pc:Nat)(w:World)(hL:LIn w.heap.size w ca L)(hc:CostIn w.heap.size w ka n sg ig)(hk:CallOk L n):
 Calls Tryz.prog 46 #[tlA ca L cc ka n kc,.int .i64 pc] w fun e w'=>(∃kn C,e=.returned (.agg #[.bool kn,.int .u64 (caF L sg pc),.int .u64 C,.int .u64 (caF L ig pc)]))∧Below w.heap.size w w':=by
 by_cases hp:pc<L.length
 ·have eg:=List.getElem?_eq_getElem hp;by_cases ho:L[pc].op=31
  ·obtain⟨m0,m1⟩:=hk L[pc] (List.getElem_mem hp) ho;rcases hc with hc|⟨b,rfl,_,hb,hc⟩
   ·omega
   ·obtain⟨kn,C,h0,h1,h2,h3⟩:=hc L[pc].m.toNat (by omega);have e1:∀s:Nat→Int,caF L s pc=s L[pc].m.toNat:=fun s=>by unfold caF;rw[eg];show(if L[pc].op=31 then _ else _)=_;rw[if_pos ho]
    rw[e1 sg,e1 ig];exact(called_yes L ca cc b n kc pc w hL hp ho L[pc].m.toNat (by omega) (by omega) hb kn _ C _ h0 h1 h2 h3).mono (by rintro x w' ⟨rfl,q⟩;exact⟨⟨kn,C,rfl⟩,q⟩)
  ·have e1:∀s:Nat→Int,caF L s pc=0:=fun s=>by unfold caF;rw[eg];show(if L[pc].op=31 then _ else _)=_;rw[if_neg ho]
   rw[e1 sg,e1 ig];exact(called_no L ca cc ka n kc pc w hL (fun k q=>by rw[eg]at q;injection q with q;rw[←q];exact ho)).mono (by rintro x w' ⟨rfl,q⟩;exact⟨⟨false,0,rfl⟩,q⟩)
 ·have eg:L[pc]?=none:=List.getElem?_eq_none (by omega);have e1:∀s:Nat→Int,caF L s pc=0:=fun s=>by unfold caF;rw[eg]
  rw[e1 sg,e1 ig];exact(called_no L ca cc ka n kc pc w hL (fun k q=>by rw[eg]at q;cases q)).mono (by rintro x w' ⟨rfl,q⟩;exact⟨⟨false,0,rfl⟩,q⟩)
theorem steps_any (L:List Ins)(ca:Option Addr)(cc:Nat)(ka:Option Addr)(n kc:Nat)(sg ig:Nat→Int)(pc:Nat)(w:World)(hL:LIn w.heap.size w ca L)(hc:CostIn w.heap.size w ka n sg ig)(hk:CallOk L n):
 Calls Tryz.prog 26 #[tlA ca L cc ka n kc,.int .i64 pc] w fun e w'=>e=.returned (.int .u64 (stF L sg pc))∧Below w.heap.size w w':=by
 have hC:=ζ (fun W (q:Below w.heap.size w W)=>ca_any L ca cc ka n kc sg ig pc W ((hL.below q).mono q.size) (by
  rcases hc with h|⟨b,e,hB,hl,h⟩
  ·exact .inl h
  ·rcases CostIn.below (.inr ⟨b,e,hB,hl,h⟩) q with h|⟨b,e,hB,hl,h⟩
   ·exact .inl h
   ·exact .inr ⟨b,e,Nat.lt_of_lt_of_le hB q.size,hl,h⟩) hk)
 unfold stF;generalize caF L sg pc=s at*;generalize caF L ig pc=i at*;unfold tlA at*;replace hL:=ζ hL;replace hc:=ζ hc;replace hk:=ζ hk;go_enter Tryz.func26,Tryz.ntmps26;go_wp2_with(go_at_call 46;refine(hC.out _ ((Below.refl _ _).alloc (Nat.le_refl _) _)).mono ?_;rintro r W1 ⟨⟨kn,C,rfl⟩,q1⟩;replace q1:=ζ q1;have hf1:=cost_f1 kn s C i W1;have hf3:=cost_f3 kn s C i W1);go_ret;exact⟨rfl,((Below.refl _ _).alloc (Nat.le_refl _) _).trans (q1.out.mono (by simp))⟩
theorem inputs_any (L:List Ins)(ca:Option Addr)(cc:Nat)(ka:Option Addr)(n kc:Nat)(sg ig:Nat→Int)(pc:Nat)(w:World)(hL:LIn w.heap.size w ca L)(hc:CostIn w.heap.size w ka n sg ig)(hk:CallOk L n):
 Calls Tryz.prog 27 #[tlA ca L cc ka n kc,.int .i64 pc] w fun e w'=>e=.returned (.int .u64 (inF L ig pc))∧Below w.heap.size w w':=by
 have hC:=ζ (fun W (q:Below w.heap.size w W)=>ca_any L ca cc ka n kc sg ig pc W ((hL.below q).mono q.size) (by
  rcases hc with h|⟨b,e,hB,hl,h⟩
  ·exact .inl h
  ·rcases CostIn.below (.inr ⟨b,e,hB,hl,h⟩) q with h|⟨b,e,hB,hl,h⟩
   ·exact .inl h
   ·exact .inr ⟨b,e,Nat.lt_of_lt_of_le hB q.size,hl,h⟩) hk)
 by_cases hp:pc<L.length
 ·have eg:=List.getElem?_eq_getElem hp;obtain⟨b,off,rfl,hb0,hb,five⟩:=hL pc hp;have c0:=five.1;have q4:(pc:Int)<(L.length:Int):=by omega
  by_cases ho:L[pc].op=29
  ·have e1:inF L ig pc=1:=by unfold inF;rw[eg];show(if L[pc].op=29 then _ else _)=_;rw[if_pos ho]
   rw[e1];rw[ho]at c0;unfold tlA at*;clear five hC;replace hL:=ζ hL;replace hc:=ζ hc;replace hk:=ζ hk;clear e1 ho eg;go_enter Tryz.func27,Tryz.ntmps27;go_wp2_with fail;go_ret;exact⟨rfl,(Below.refl _ _).alloc (Nat.le_refl _) _⟩
  ·have e1:inF L ig pc=caF L ig pc:=by unfold inF;rw[eg];show(if L[pc].op=29 then _ else _)=_;rw[if_neg ho]
   rw[e1];have e2:(L[pc].op==29)=false:=by simpa using ho
   clear five e1 ho eg;generalize L[pc].op=op at*;generalize caF L sg pc=s at*;generalize caF L ig pc=i at*;unfold tlA at*;replace hL:=ζ hL;replace hc:=ζ hc;replace hk:=ζ hk;go_enter Tryz.func27,Tryz.ntmps27;go_wp2_with(go_at_call 46;refine(hC.out _ ((Below.refl _ _).alloc (Nat.le_refl _) _)).mono ?_;rintro r W1 ⟨⟨kn,C,rfl⟩,q1⟩;replace q1:=ζ q1;have hf1:=cost_f1 kn s C i W1;have hf3:=cost_f3 kn s C i W1);go_ret;exact⟨rfl,((Below.refl _ _).alloc (Nat.le_refl _) _).trans (q1.out.mono (by simp))⟩
 ·have eg:L[pc]?=none:=List.getElem?_eq_none (by omega);have e1:inF L ig pc=caF L ig pc:=by unfold inF;rw[eg]
  rw[e1];have q4:¬(pc:Int)<(L.length:Int):=by omega
  have q5:(L.length:Int)≤(pc:Int):=by omega
  clear e1 eg;generalize caF L sg pc=s at*;generalize caF L ig pc=i at*;unfold tlA at*;replace hL:=ζ hL;replace hc:=ζ hc;replace hk:=ζ hk;go_enter Tryz.func27,Tryz.ntmps27;go_wp2_with(go_at_call 46;refine(hC.out _ ((Below.refl _ _).alloc (Nat.le_refl _) _)).mono ?_;rintro r W1 ⟨⟨kn,C,rfl⟩,q1⟩;replace q1:=ζ q1;have hf1:=cost_f1 kn s C i W1;have hf3:=cost_f3 kn s C i W1);go_ret;exact⟨rfl,((Below.refl _ _).alloc (Nat.le_refl _) _).trans (q1.out.mono (by simp))⟩
open F (thB nxtI folB IOwn own_slice own_nin)
def mxL (l:List Int):Int:=l.foldl max 0
theorem mxL_snoc (l:List Int)(x:Int):mxL (l++[x])=max (mxL l) x:=by unfold mxL;rw[List.foldl_append];rfl
def wyS (cF:Nat→Int)(pc:Nat)(vs:List Int):Option Int:=some (IntKind.u64.wrap (cF pc+mxL vs))
structure TEnv (B kt kc:Nat)(ca:Option Addr)(cc:Nat)(ka:Option Addr)(n kcc:Nat)(L:List Ins)(sg ig:Nat→Int)(cv:Value)(w:World):Prop where
 t:At w kt #[.slice ca L.length cc,.slice ka n kcc]
 c:At w kc #[cv]
 l:LIn B w ca L
 k:CostIn B w ka n sg ig
 le:B≤w.heap.size
theorem costIn_mono {B B':Nat}{w:World}{ka:Option Addr}{n:Nat}{sg ig:Nat→Int}(h:CostIn B w ka n sg ig)(hb:B≤B'):CostIn B' w ka n sg ig:=by
 rcases h with h|⟨b,e,hB,hl,h⟩
 ·exact .inl h
 ·exact .inr ⟨b,e,Nat.lt_of_lt_of_le hB hb,hl,h⟩
theorem TEnv.keep {B kt kc:Nat}{ca:Option Addr}{cc:Nat}{ka:Option Addr}{n kcc:Nat}{L:List Ins}{sg ig:Nat→Int}{cv:Value}{w w':World}{b:Nat}(h:TEnv B kt kc ca cc ka n kcc L sg ig cv w)(hk:Kp (fun k=>k=b) w w')(hb:B≤b)(h1:kt≠b)(h2:kc≠b):TEnv B kt kc ca cc ka n kcc L sg ig cv w':=by
 have hB:Below B w w':=hk.below h.le (fun k q=>by omega);exact⟨at_keep h.t hk h1,at_keep h.c hk h2,h.l.below hB,h.k.below hB,Nat.le_trans h.le hB.size⟩
theorem own_kp' {S:Nat→Prop}{w w1:World}{base:Nat}{v:Value}{xs:List Int}(h:IOwn w base v xs)(hb:Kp S w w1)(hk:∀g,v.ownBlock=some g→¬S g):IOwn w1 base v xs:=by
 refine⟨h.1,?_⟩;rcases h.2 with h2|⟨g,cap,cur,hv,hbg,hg,rest⟩
 ·exact .inl h2
 ·have hlt:g<w.heap.size:=(Array.getElem?_eq_some_iff.1 hg).1;exact .inr ⟨g,cap,cur,hv,hbg,(hb.block g hlt (hk g (by rw[hv];rfl))).trans hg,rest⟩
structure Asked {α:Type}(p:Pl)(enc:Option α→Value)(nx:Nat→List Nat)(f:Nat→List α→Option α)(U:List Nat)(S:Nat→Prop)(M:Nat→Option (Option α))(nn:Nat)(N:List Nat)(lo:Nat)(v:Value)(w:World)(j:Nat)(vs:List α)(wr:World):Prop where
 a:Aft p enc nx f U S M nn w wr
 e:(N.take j).map (ev nx f U)=vs.map some
 v:IOwn wr lo v (N.map (fun q:Nat=>(q:Int)))
section
variable {α:Type} {p:Pl} {enc:Option α→Value} {nx:Nat→List Nat} {f:Nat→List α→Option α} {U:List Nat} {S:Nat→Prop} {M:Nat→Option (Option α)} {nn:Nat} {N:List Nat} {lo:Nat} {v:Value} {w wr w2:World} {j:Nat} {vs:List α}
theorem aft_below (h:Aft p enc nx f U S M nn w wr)(hb:Below wr.heap.size wr w2):Aft p enc nx f U S M nn w w2:=by
 obtain⟨M',nn',h1,h2,h3,h4,h5⟩:=h;exact⟨M',nn',h1.below hb,h2,h3,h4,h5.trans (Kp.of_below hb) (fun k q=>.inl q)⟩
theorem Asked.kp (h:Asked p enc nx f U S M nn N lo v w j vs wr):Kp (fun k=>k=p.b) w wr:=by
 obtain⟨M',nn',h1,h2,h3,h4,h5⟩:=h.a;exact h5
theorem Asked.next (h:Asked p enc nx f U S M nn N lo v w j vs wr)(hj:j<N.length)(x:α)(hx:ev nx f U N[j]=some x)(hlo:p.b<lo){M':Nat→Option (Option α)}{nn':Nat}(h3:More M M')(h4:nn'+2*left U M'≤nn+2*left U M)(h5:Kp (fun k=>k=p.b) w wr)
 (g:Aft p enc nx f U S M' nn' wr w2):Asked p enc nx f U S M nn N lo v w (j+1) (vs++[x]) w2:=by
 obtain⟨M2,n2,g1,g2,g3,g4,g5⟩:=g;refine⟨⟨M2,n2,g1,g2,h3.trans g3,by omega,h5.trans g5 (fun k q=>.inl q)⟩,?_,?_⟩
 ·rw[List.take_succ_eq_append_getElem hj,List.map_append,h.e,List.map_append];simp[hx]
 ·exact own_kp' h.v g5 (fun k hk=>by have:=(h.v.lt k hk).1;omega)
end
theorem wrapU (x:Int)(h:0≤x∧x<18446744073709551616):IntKind.u64.wrap x=x:=by rw[IntKind.wrap_u64];omega
theorem findu_any (B kt kc:Nat)(ca:Option Addr)(cc:Nat)(ka:Option Addr)(n kcc:Nat)(L:List Ins)(sg ig:Nat→Int)(cf:Nat)(hcf:cf=26∨cf=27)(cF:Nat→Int)(p:Pl)(hp:p.qf=77)(hn:L.length<1000)(hbB:B≤p.b)(hkt:kt≠p.b)(hkc:kc≠p.b)
 (hcount:∀(w:World) (pc:Nat),TEnv B kt kc ca cc ka n kcc L sg ig (.func (.func cf) #[] #[]) w→Calls Tryz.prog cf #[tlA ca L cc ka n kcc,.int .i64 pc] w fun e w'=>e=.returned (.int .u64 (cF pc))∧Below w.heap.size w w')(d:Nat):
 AskC (TEnv B kt kc ca cc ka n kcc L sg ig (.func (.func cf) #[] #[])) p encu tupu (nxN L) (wyS cF) (List.range (L.length+1)) d→FindC 44 #[pv kt,pv kc] (TEnv B kt kc ca cc ka n kcc L sg ig (.func (.func cf) #[] #[])) p encu tupu (nxN L) (wyS cF) (List.range (L.length+1)) d:=by
 intro hask w m S M nn hE hR hS hA hm hl hb;have hU:∀x∈List.range (L.length+1),∀c∈nxN L x,c∈List.range (L.length+1):=fun x _=>nxN_in L x
 have hqv:p.qv=.func (.func 77) #[] #[.pointer (some ⟨p.kA,0,none⟩),.pointer (some ⟨p.kF,0,none⟩),.pointer (some ⟨p.kQ,0,none⟩)]:=by unfold Pl.qv pv;rw[hp]
 show Calls Tryz.prog 44 #[.int .i64 m,p.qv,.pointer (some ⟨kt,0,none⟩),.pointer (some ⟨kc,0,none⟩)] w _;rw[hqv];have hm2:m<1001:=by rw[List.mem_range]at hm;omega
 have hNx:=ζ (fun W (q:Below w.heap.size w W)=>next_any L ca cc ka n kcc m W (((hE.l.mono hE.le).below q).mono q.size) (by omega) (by omega));have hNl:(nxN L m).length≤2000:=by
  unfold nxN;rw[List.length_append];have h1:(if thB L.length m=true then(List.range L.length).filter (folB L m)else []).length≤L.length:=by
   split
   ·have:=List.length_filter_le (folB L m) (List.range L.length)
    rwa [List.length_range]at this
   ·simp
  have h2:(if ovB L m=true then [L.length]else []).length≤1:=by split<;>simp
  omega
 have hq:=ζ (fun W (e:TEnv B kt kc ca cc ka n kcc L sg ig (.func (.func cf) #[] #[]) W) (M':Nat→Option (Option Int)) (nn':Nat) (h1:Rem p encu W nn' M') (h2:Memo (nxN L) (wyS cF) (List.range (L.length+1)) (fun x=>S x∨x=m) M') (h3:More M M') (h4:nn'+2*left (List.range (L.length+1)) M'≤nn+2*left (List.range (L.length+1)) M) (c:Nat) (hc:c∈nxN L m)=>hask W c (fun x=>S x∨x=m) M' nn' e h1 h2 (fun q hq=>by
  rcases hq with hq|hq
  ·exact(hA q hq).trans (anc_child hc)
  ·subst hq;exact anc_child hc) (nxN_in L m c hc) (Nat.le_trans (left_more h3) hl) (by omega))
 rw[hp]at hq;unfold pv at hq;have k0:w.cell? ⟨kt,0,none⟩=some (.slice ca L.length cc):=hE.t.2.1 0;have k1:w.cell? ⟨kt,1,none⟩=some (.slice ka n kcc):=hE.t.2.1 1;have evd:∀vs:List Int,(nxN L m).map (ev (nxN L) (wyS cF) (List.range (L.length+1)))=vs.map some→ev (nxN L) (wyS cF) (List.range (L.length+1)) m=some (IntKind.u64.wrap (cF m+mxL vs)):=fun vs h=>ev_known hU hm h
 have evn:∀c,c∈nxN L m→ev (nxN L) (wyS cF) (List.range (L.length+1)) c=none→ev (nxN L) (wyS cF) (List.range (L.length+1)) m=none:=fun c hc h=>ev_none hU hm hc h
 have hstart:Aft p encu (nxN L) (wyS cF) (List.range (L.length+1)) (fun x=>S x∨x=m) M nn w w:=⟨M,nn,hR,hS,More.refl M,Nat.le_refl _,Kp.refl _ _⟩;have hEk:=ζ (fun W (q:Kp (fun k=>k=p.b) w W)=>hE.keep q hbB hkt hkc);have hpb:=hR.m.lt;replace hcount:=ζ hcount;replace hE:=ζ hE;replace hS:=ζ hS;replace hR:=ζ hR;replace hA:=ζ hA;replace hU:=ζ hU;replace hm:=ζ hm;replace hstart:=ζ hstart;replace evd:=ζ evd;replace evn:=ζ evn;clear hask hqv hb hl;generalize hN:nxN L m=N at*;generalize hev:ev (nxN L) (wyS cF) (List.range (L.length+1))=evv at*;generalize List.range (L.length+1)=U at*;unfold tlA at*;go_enter Tryz.func44,Tryz.ntmps44;go_upto_region 3 with(go_at_call 45;refine(hNx.out _ (Below.refl _ _)).mono ?_;rintro r W1 ⟨v,rfl,y1,y2⟩;obtain⟨va,vc,rfl⟩:=own_slice y1;rw[List.length_map]at y1;replace y1:=ζ y1;replace y2:=ζ y2)
 clear k0 k1;go_loopw [8,17] (fun rv iv wr=>∃(j:Nat) (vs:List Int),rv=.int .u64 (mxL vs)∧iv=.int .i64 j∧j≤N.length∧Hz (Asked p encu (nxN L) (wyS cF) U (fun x=>S x∨x=m) M nn N w.heap.size (.slice va N.length vc) w j vs wr)) (fun _ iv _=>N.length - (intOf iv).toNat)
 case atStart=>exact⟨0,[],rfl,rfl,by omega,ζ ⟨aft_below hstart.out y2.out,rfl,y1.out⟩⟩
 case round=>
  obtain⟨j,vs,rfl,rfl,hj,hk⟩:=hrel;have hkp:=hk.out.kp;have hEr:=hEk.out wr hkp;by_cases hlt:j<N.length
  ·obtain⟨b,off,ena,_,hb2,hc⟩:=own_nin hk.out.v j (by rw[List.length_map];exact hlt);subst ena;rw[List.getElem_map]at hc;have hi1:(j:Int)<N.length:=by omega
   obtain⟨M',nn',r1,r2,r3,r4,r5⟩:=hk.out.a;have hmem:N[j]∈N:=List.getElem_mem hlt;have hcall:=hq.out wr hEr M' nn' r1 r2 r3 r4 N[j] hmem;have hnx:=fun x (hx:ev (nxN L) (wyS cF) U N[j]=some x) w2 (g:Aft p encu (nxN L) (wyS cF) U (fun x=>S x∨x=m) M' nn' wr w2)=>hk.out.next hlt x hx hpb r3 r4 r5 g
   have hn2:=fun w2 (g:Aft p encu (nxN L) (wyS cF) U (fun x=>S x∨x=m) M' nn' wr w2)=>(show Aft p encu (nxN L) (wyS cF) U (fun x=>S x∨x=m) M nn w w2 by
    obtain⟨M2,n2,g1,g2,g3,g4,g5⟩:=g;exact⟨M2,n2,g1,g2,r3.trans g3,by omega,r5.trans g5 (fun k q=>.inl q)⟩)
   have hev2:ev (nxN L) (wyS cF) U N[j]=evv N[j]:=by rw[hev]
   (try rw[hev2]at hcall)
   rw[hev2]at hnx;have hno:=evn.out N[j] hmem;clear hev2 hmem r1 r2 r5;generalize N[j]=c at*;replace hnx:=ζ hnx;replace hn2:=ζ hn2;replace hk:=ζ hk.out;replace hkp:=ζ hkp;replace hEr:=ζ hEr;replace r3:=ζ r3;replace r4:=ζ r4;have hij:IntKind.i64.wrap ((j:Int)+1)=((j+1:Nat):Int):=by rw[IntKind.wrap_i64];omega
   have hij2:wrap64 ((j:Int)+1)=((j+1:Nat):Int):=by unfold wrap64;omega
   cases hcv:evv c with
   |none=>
    have hem:=hno hcv;rw[hcv]at hcall;unfold tupu at hcall;replace hno:=ζ hno;replace hcall:=ζ hcall;go_wp2_with(go_at_call 77;refine hcall.out.mono ?_;rintro r w2 ⟨rfl,g⟩;replace g:=ζ g);refine bodyPost_ret (v:=.tuple #[.int .u64 0,.bool false]) (by simp[results,Tryz.results44,go_sem]) rfl ?_;refine⟨?_,hn2.out _ g.out⟩;rw[hem];rfl
   |some x=>
    rw[hcv]at hcall;unfold tupu at hcall;replace hno:=ζ hno;replace hcall:=ζ hcall;replace hcv:=ζ hcv;go_wp2_with(go_at_call 77;refine hcall.out.mono ?_;rintro r w2 ⟨rfl,g⟩;replace g:=ζ g);clear hij hij2;go_roundw
    case rel=>exact⟨j+1,vs++[x],by rw[mxL_snoc],by simp,by omega,ζ (hnx.out x hcv.out _ g.out)⟩
    case measure=>simp only[intOf];omega
  ·have hje:j=N.length:=by omega
   subst hje;have hi2:¬(N.length:Int)<N.length:=by omega
   have hres:=evd.out vs (by rw[←hk.out.e,List.take_of_length_le (Nat.le_refl _),←hev]);have k0:wr.cell? ⟨kt,0,none⟩=some (.slice ca L.length cc):=hEr.t.2.1 0;have k1:wr.cell? ⟨kt,1,none⟩=some (.slice ka n kcc):=hEr.t.2.1 1;have k2:wr.cell? ⟨kc,0,none⟩=some (.func (.func cf) #[] #[]):=hEr.c.2.1 0;have hcc:=hcount.out wr m hEr;generalize cF m=cm at*;generalize mxL vs=mv at*;have haf:=ζ hk.out.a;replace hk:=ζ hk.out;replace hcc:=ζ hcc;replace hEr:=ζ hEr;replace hkp:=ζ hkp;replace hres:=ζ hres;rcases hcf with rfl|rfl
   all_goals
    go_wp2_with(refine hcc.out.mono ?_;rintro r w2 ⟨rfl,g⟩;replace g:=ζ g);refine bodyPost_ret (v:=.tuple #[.int .u64 (IntKind.u64.wrap (cm+mv)),.bool true]) (by simp[results,Tryz.results44,go_sem]) rfl ?_;refine⟨?_,aft_below haf.out g.out⟩;rw[hres.out];rfl
theorem left_all {α:Type}(U:List Nat):left U (fun _=>(none:Option (Option α)))=U.length:=by unfold left;simp
theorem memo_none {α:Type}(nx:Nat→List Nat)(f:Nat→List α→Option α)(U:List Nat):Memo nx f U (fun _=>False) (fun _=>none):=⟨fun _ _ h=>(by cases h),fun _ h=>(by cases h)⟩
def sumS (L:List Ins)(cF:Nat→Int)(m:Nat):Option Int:=ev (nxN L) (wyS cF) (List.range (L.length+1)) m
theorem most_steps (L:List Ins)(ca:Option Addr)(cc:Nat)(ka:Option Addr)(n kc:Nat)(sg ig:Nat→Int)(m:Nat)(w:World)(hL:LIn w.heap.size w ca L)(hc:CostIn w.heap.size w ka n sg ig)(hk:CallOk L n)(hm:m≤L.length)(hn:L.length<1000):
 Calls Tryz.prog 25 #[tlA ca L cc ka n kc,.int .i64 m,.func (.func 26) #[] #[]] w fun e w'=>e=.returned (tupu (sumS L (stF L sg) m))∧Below w.heap.size w w':=by
 have hcount:∀(kt kc2:Nat) (W:World) (pc:Nat),TEnv w.heap.size kt kc2 ca cc ka n kc L sg ig (.func (.func 26) #[] #[]) W→Calls Tryz.prog 26 #[tlA ca L cc ka n kc,.int .i64 pc] W fun e w'=>e=.returned (.int .u64 (stF L sg pc))∧Below W.heap.size W w':=
  fun kt kc2 W pc e=>steps_any L ca cc ka n kc sg ig pc W (e.l.mono e.le) (costIn_mono e.k e.le) hk
 have hask:∀(W W1:World) (p:Pl),Below w.heap.size w W→At W w.heap.size #[.slice ca L.length cc,.slice ka n kc]→At W (w.heap.size+1) #[.func (.func 26) #[] #[]]→p.qf=77→p.fv=.func (.func 44) #[] #[pv w.heap.size,pv (w.heap.size+1)]→Rem p encu W1 0 (fun _=>none)→Below W.heap.size W W1→W.heap.size≤p.b→
  Calls Tryz.prog 77 #[.int .i64 m,.pointer (some ⟨p.kA,0,none⟩),.pointer (some ⟨p.kF,0,none⟩),.pointer (some ⟨p.kQ,0,none⟩)] W1 fun r w'=>r=.returned (tupu (sumS L (stF L sg) m))∧Below w.heap.size w w':=by
  intro W W1 p hB aT aC hp hf hR hB1 hpb;have n1:w.heap.size≠p.b:=by have:=aT.1;omega
  have n2:w.heap.size+1≠p.b:=by have:=aC.1;omega
  have n3:w.heap.size≤p.b:=by have:=hB.size;omega
  have hE1:TEnv w.heap.size w.heap.size (w.heap.size+1) ca cc ka n kc L sg ig (.func (.func 26) #[] #[]) W1:=by
   have h2:=hB.trans (hB1.mono hB.size);exact⟨at_keep aT (Kp.of_below (S:=fun _=>False) hB1) id,at_keep aC (Kp.of_below (S:=fun _=>False) hB1) id,hL.below h2,hc.below h2,h2.size⟩
  have hA:=asku_any w.heap.size (w.heap.size+1) (TEnv w.heap.size w.heap.size (w.heap.size+1) ca cc ka n kc L sg ig (.func (.func 26) #[] #[])) p hp hf (fun X X' e q=>e.keep q n3 n1 n2) (nxN L) (wyS (stF L sg)) (List.range (L.length+1)) (fun x hx=>by rw[List.mem_range]at hx;omega)
   (fun d=>findu_any w.heap.size w.heap.size (w.heap.size+1) ca cc ka n kc L sg ig 26 (.inl rfl) (stF L sg) p hp hn n3 n1 n2 (hcount _ _) d) (L.length+1)
  have h:=hA W1 m (fun _=>False) (fun _=>none) 0 hE1 hR (memo_none _ _ _) (fun _ h=>h.elim) (List.mem_range.2 (by omega)) (by rw[left_all,List.length_range];exact Nat.le_refl _) (by rw[left_all,List.length_range];omega);rw[hp]at h;refine h.mono ?_;rintro r w' ⟨e1,M',nn',g1,g2,g3,g4,g5⟩;exact⟨e1,(hB.trans (hB1.mono hB.size)).trans (g5.below (Nat.le_trans hB.size hB1.size) (fun k q=>by omega))⟩
 have hmf:∀(fn:Fn) (first cap:Array Value) (w:World),(Instr.makeFunc fn first cap).run Tryz.prog w=.ok (.func fn first cap) w:=fun _ _ _ _=>rfl
 have hRm:=ζ (fun W=>remu_any w.heap.size (w.heap.size+1) W);generalize sumS L (stF L sg) m=res at*;replace hask:=ζ hask;replace hcount:=ζ hcount;replace hL:=ζ hL;replace hc:=ζ hc;replace hk:=ζ hk;unfold tlA pv at*;have aT:=(At.new w #[.slice ca L.length cc,.slice ka n kc] 96).alloc (.cells #[.func (.func 26) #[] #[]] 100);have aC:=At.new (w.alloc (.cells #[.slice ca L.length cc,.slice ka n kc] 96)) #[.func (.func 26) #[] #[]] 100;have e1:(w.alloc (.cells #[.slice ca L.length cc,.slice ka n kc] 96)).heap.size=w.heap.size+1:=by simp
 rw[e1]at aC;have hB:Below w.heap.size w ((w.alloc (.cells #[.slice ca L.length cc,.slice ka n kc] 96)).alloc (.cells #[.func (.func 26) #[] #[]] 100)):=((Below.refl _ w).alloc (Nat.le_refl _) _).alloc (by simp) _;replace aT:=ζ aT;replace aC:=ζ aC;replace hB:=ζ hB;clear e1;go_enter Tryz.func25,Tryz.ntmps25;go_upto_region 1 with fail
 refine wp_world (fun W=>At W w.heap.size #[.slice ca L.length cc,.slice ka n kc]∧At W (w.heap.size+1) #[.func (.func 26) #[] #[]]∧Below w.heap.size w W) ⟨aT.out,aC.out,hB.out⟩ ?_;clear aT aC hB;rintro W ⟨aT,aC,hB⟩;replace aT:=ζ aT;replace aC:=ζ aC;replace hB:=ζ hB;go_upto_region 2 with(go_at_call 43;refine(hRm.out _).mono ?_;rintro r W1 ⟨p,rfl,hp,hf,hR,hB1,hpb⟩;have hqv:p.qv=.func (.func 77) #[] #[.pointer (some ⟨p.kA,0,none⟩),.pointer (some ⟨p.kF,0,none⟩),.pointer (some ⟨p.kQ,0,none⟩)]:=(by unfold Pl.qv pv;rw[hp]);rw[hqv];have hcl:=ζ (hask.out W W1 p hB.out aT.out aC.out hp hf hR hB1 hpb);clear hqv hp hf hR hB1 hpb)
 cases res with
 |some v=>
  unfold tupu at hcl;go_wp2_with(go_at_call 77;refine hcl.out.mono ?_;rintro r W2 ⟨rfl,g⟩;replace g:=ζ g);refine bodyPost_ret (v:=.tuple #[.int .u64 v,.bool true]) (by simp[results,Tryz.results25,go_sem]) rfl ?_;exact⟨rfl,g.out⟩
 |none=>
  unfold tupu at hcl;go_wp2_with(go_at_call 77;refine hcl.out.mono ?_;rintro r W2 ⟨rfl,g⟩;replace g:=ζ g);refine bodyPost_ret (v:=.tuple #[.int .u64 0,.bool false]) (by simp[results,Tryz.results25,go_sem]) rfl ?_;exact⟨rfl,g.out⟩
theorem most_inputs (L:List Ins)(ca:Option Addr)(cc:Nat)(ka:Option Addr)(n kc:Nat)(sg ig:Nat→Int)(m:Nat)(w:World)(hL:LIn w.heap.size w ca L)(hc:CostIn w.heap.size w ka n sg ig)(hk:CallOk L n)(hm:m≤L.length)(hn:L.length<1000):
 Calls Tryz.prog 25 #[tlA ca L cc ka n kc,.int .i64 m,.func (.func 27) #[] #[]] w fun e w'=>e=.returned (tupu (sumS L (inF L ig) m))∧Below w.heap.size w w':=by
 have hcount:∀(kt kc2:Nat) (W:World) (pc:Nat),TEnv w.heap.size kt kc2 ca cc ka n kc L sg ig (.func (.func 27) #[] #[]) W→Calls Tryz.prog 27 #[tlA ca L cc ka n kc,.int .i64 pc] W fun e w'=>e=.returned (.int .u64 (inF L ig pc))∧Below W.heap.size W w':=
  fun kt kc2 W pc e=>inputs_any L ca cc ka n kc sg ig pc W (e.l.mono e.le) (costIn_mono e.k e.le) hk
 have hask:∀(W W1:World) (p:Pl),Below w.heap.size w W→At W w.heap.size #[.slice ca L.length cc,.slice ka n kc]→At W (w.heap.size+1) #[.func (.func 27) #[] #[]]→p.qf=77→p.fv=.func (.func 44) #[] #[pv w.heap.size,pv (w.heap.size+1)]→Rem p encu W1 0 (fun _=>none)→Below W.heap.size W W1→W.heap.size≤p.b→
  Calls Tryz.prog 77 #[.int .i64 m,.pointer (some ⟨p.kA,0,none⟩),.pointer (some ⟨p.kF,0,none⟩),.pointer (some ⟨p.kQ,0,none⟩)] W1 fun r w'=>r=.returned (tupu (sumS L (inF L ig) m))∧Below w.heap.size w w':=by
  intro W W1 p hB aT aC hp hf hR hB1 hpb;have n1:w.heap.size≠p.b:=by have:=aT.1;omega
  have n2:w.heap.size+1≠p.b:=by have:=aC.1;omega
  have n3:w.heap.size≤p.b:=by have:=hB.size;omega
  have hE1:TEnv w.heap.size w.heap.size (w.heap.size+1) ca cc ka n kc L sg ig (.func (.func 27) #[] #[]) W1:=by
   have h2:=hB.trans (hB1.mono hB.size);exact⟨at_keep aT (Kp.of_below (S:=fun _=>False) hB1) id,at_keep aC (Kp.of_below (S:=fun _=>False) hB1) id,hL.below h2,hc.below h2,h2.size⟩
  have hA:=asku_any w.heap.size (w.heap.size+1) (TEnv w.heap.size w.heap.size (w.heap.size+1) ca cc ka n kc L sg ig (.func (.func 27) #[] #[])) p hp hf (fun X X' e q=>e.keep q n3 n1 n2) (nxN L) (wyS (inF L ig)) (List.range (L.length+1)) (fun x hx=>by rw[List.mem_range]at hx;omega)
   (fun d=>findu_any w.heap.size w.heap.size (w.heap.size+1) ca cc ka n kc L sg ig 27 (.inr rfl) (inF L ig) p hp hn n3 n1 n2 (hcount _ _) d) (L.length+1)
  have h:=hA W1 m (fun _=>False) (fun _=>none) 0 hE1 hR (memo_none _ _ _) (fun _ h=>h.elim) (List.mem_range.2 (by omega)) (by rw[left_all,List.length_range];exact Nat.le_refl _) (by rw[left_all,List.length_range];omega);rw[hp]at h;refine h.mono ?_;rintro r w' ⟨e1,M',nn',g1,g2,g3,g4,g5⟩;exact⟨e1,(hB.trans (hB1.mono hB.size)).trans (g5.below (Nat.le_trans hB.size hB1.size) (fun k q=>by omega))⟩
 have hmf:∀(fn:Fn) (first cap:Array Value) (w:World),(Instr.makeFunc fn first cap).run Tryz.prog w=.ok (.func fn first cap) w:=fun _ _ _ _=>rfl
 have hRm:=ζ (fun W=>remu_any w.heap.size (w.heap.size+1) W);generalize sumS L (inF L ig) m=res at*;replace hask:=ζ hask;replace hcount:=ζ hcount;replace hL:=ζ hL;replace hc:=ζ hc;replace hk:=ζ hk;unfold tlA pv at*;have aT:=(At.new w #[.slice ca L.length cc,.slice ka n kc] 96).alloc (.cells #[.func (.func 27) #[] #[]] 100);have aC:=At.new (w.alloc (.cells #[.slice ca L.length cc,.slice ka n kc] 96)) #[.func (.func 27) #[] #[]] 100;have e1:(w.alloc (.cells #[.slice ca L.length cc,.slice ka n kc] 96)).heap.size=w.heap.size+1:=by simp
 rw[e1]at aC;have hB:Below w.heap.size w ((w.alloc (.cells #[.slice ca L.length cc,.slice ka n kc] 96)).alloc (.cells #[.func (.func 27) #[] #[]] 100)):=((Below.refl _ w).alloc (Nat.le_refl _) _).alloc (by simp) _;replace aT:=ζ aT;replace aC:=ζ aC;replace hB:=ζ hB;clear e1;go_enter Tryz.func25,Tryz.ntmps25;go_upto_region 1 with fail
 refine wp_world (fun W=>At W w.heap.size #[.slice ca L.length cc,.slice ka n kc]∧At W (w.heap.size+1) #[.func (.func 27) #[] #[]]∧Below w.heap.size w W) ⟨aT.out,aC.out,hB.out⟩ ?_;clear aT aC hB;rintro W ⟨aT,aC,hB⟩;replace aT:=ζ aT;replace aC:=ζ aC;replace hB:=ζ hB;go_upto_region 2 with(go_at_call 43;refine(hRm.out _).mono ?_;rintro r W1 ⟨p,rfl,hp,hf,hR,hB1,hpb⟩;have hqv:p.qv=.func (.func 77) #[] #[.pointer (some ⟨p.kA,0,none⟩),.pointer (some ⟨p.kF,0,none⟩),.pointer (some ⟨p.kQ,0,none⟩)]:=(by unfold Pl.qv pv;rw[hp]);rw[hqv];have hcl:=ζ (hask.out W W1 p hB.out aT.out aC.out hp hf hR hB1 hpb);clear hqv hp hf hR hB1 hpb)
 cases res with
 |some v=>
  unfold tupu at hcl;go_wp2_with(go_at_call 77;refine hcl.out.mono ?_;rintro r W2 ⟨rfl,g⟩;replace g:=ζ g);refine bodyPost_ret (v:=.tuple #[.int .u64 v,.bool true]) (by simp[results,Tryz.results25,go_sem]) rfl ?_;exact⟨rfl,g.out⟩
 |none=>
  unfold tupu at hcl;go_wp2_with(go_at_call 77;refine hcl.out.mono ?_;rintro r W2 ⟨rfl,g⟩;replace g:=ζ g);refine bodyPost_ret (v:=.tuple #[.int .u64 0,.bool false]) (by simp[results,Tryz.results25,go_sem]) rfl ?_;exact⟨rfl,g.out⟩
end Bd
open Go.RowKit
theorem gr_size {w W:World}(h:Gr w W):w.heap.size≤W.heap.size:=h.below.size
theorem Gr.cell {w W:World}(h:Gr w W){k:Nat}(hk:k<w.heap.size)(o:Nat):W.cell? ⟨k,o,none⟩=w.cell? ⟨k,o,none⟩:=h.below.cell (p:=⟨k,o,none⟩) hk
theorem retI {k:IntKind}{a b:Int}(h:a=b):Ending.returned (.int k a)=.returned (.int k b):=by rw[h]
def W64 (x:Int):Prop:=0≤x∧x<18446744073709551616
def B8 (x:Int):Prop:=0≤x∧x<256
def J64 (x:Int):Prop:= -9223372036854775808≤x∧x<9223372036854775808
structure PTyp where
 cap:Bool
 b:Int
 e:Int
 lo:Int
 hi:Int
 p:Int
 s:Int
structure PSlot where
 t:PTyp
 c:Int
structure PReg where
 b:Int
 n:Int
 data:List UInt8
 slots:List PSlot
structure PRoot where
 r:Int
 b:Int
 e:Int
 c:Int
 p:Int
 s:Int
structure PComp where
 roots:List PRoot
 code:List Ins
structure PGate where
 c:Int
 e:Int
 args:List PTyp
 res:List PTyp
structure PImg where
 regs:List PReg
 comps:List PComp
 gates:List PGate
 depth:Int
def PTyp.vals (t:PTyp):List Value:=[.bool t.cap,.int .u64 t.b,.int .u64 t.e,.int .u64 t.lo,.int .u64 t.hi,.int .u8 t.p,.int .i64 t.s]
def PSlot.vals (k:PSlot):List Value:=k.t.vals++[.int .u64 k.c]
def PRoot.vals (k:PRoot):List Value:=[.int .i64 k.r,.int .u64 k.b,.int .u64 k.e,.int .u64 k.c,.int .u8 k.p,.int .i64 k.s]
def PTyp.Rng (t:PTyp):Prop:=W64 t.b∧W64 t.e∧W64 t.lo∧W64 t.hi∧B8 t.p∧J64 t.s
def PSlot.Rng (k:PSlot):Prop:=k.t.Rng∧W64 k.c
def PRoot.Rng (k:PRoot):Prop:=J64 k.r∧W64 k.b∧W64 k.e∧W64 k.c∧B8 k.p∧J64 k.s
def hasB (h p:Int):Bool:=bits .andNot .u8 p h==0
def rightB (b e p s:Int):Bool:=decide (b≤e)&&decide (e≤4294967296)&&hasB 127 p&&decide (0≤s)&&decide (s≤15)
theorem right_false {b e p s:Int}(h:¬(b≤e∧e≤4294967296∧hasB 127 p=true∧0≤s∧s≤15)):false=rightB b e p s:=by
 symm;rw[Bool.eq_false_iff];intro k
 simp only[rightB,Bool.and_eq_true,decide_eq_true_eq]at k;exact h ⟨k.1.1.1.1,k.1.1.1.2,k.1.1.2,k.1.2,k.2⟩
theorem right_last {b e p s:Int}(h1:b≤e)(h2:e≤4294967296)(h3:hasB 127 p=true)(h4:0≤s):decide (s≤15)=rightB b e p s:=by simp[rightB,h1,h2,h3,h4]
def dataB (b e p s:Int):Bool:=rightB b e p s&&(bits .and .u8 p 16==0)
def PTyp.right (t:PTyp):Bool:=if t.cap then dataB t.b t.e t.p t.s&&decide (t.lo≤t.hi)else t.b==0&&t.e==0&&t.lo==0&&t.hi==0&&t.p==0&&t.s==0
def inLH (lo hi c:Int):Bool:=decide (lo≤c)&&decide (c≤hi)
def PSlot.right (k:PSlot):Bool:=k.t.cap&&k.t.right&&inLH k.t.lo k.t.hi k.c
def placeB (b n f:Int):Bool:=b%16==0&&n%16==0&&!(n==0)&&decide (f≤b)&&decide (b<65536)&&decide (n≤65536 - b)
def endsNought (d:List UInt8):Bool:=match d.getLast? with|some x=>x==0|none=>false
def contentB (n:Int)(d:List UInt8)(k:Nat):Bool:=if 0<k then d.isEmpty&&(n==16*(k:Int))else decide ((d.length:Int)≤n)&&!endsNought d
def slotsR:List PSlot→Bool
 |[]=>true
 |k::l=>k.right&&slotsR l
def regsR:List PReg→Int→Int
 |[],_=>0
 |r::l,f=>if placeB r.b r.n f&&contentB r.n r.data r.slots.length then(if slotsR r.slots then regsR l (r.b+r.n)else 45)else 43
def rootsR:List PRoot→Int→Bool
 |[],_=>true
 |k::l,f=>if f<k.r∧k.r<16∧dataB k.b k.e k.p k.s=true then rootsR l k.r else false
def tgtB (op m:Int)(code gates:Int):Bool:=if 20≤op∧op≤25 then decide (m<code)else if op=31 then decide (m<gates)else true
def codeF (code gates:Int):List Ins→Int
 |[]=>0
 |k::l=>if k.right=0 then(if tgtB k.op k.m code gates then codeF code gates l else 48)else k.right
def codeR (L:List Ins)(gates:Int):Int:=if L.length<1∨400<L.length then 42 else codeF L.length gates L
def compsR (gates:Int):List PComp→Int
 |[]=>0
 |c::l=>if rootsR c.roots 7 then(if codeR c.code gates=0 then compsR gates l else codeR c.code gates)else 46
def typesR:List PTyp→Bool
 |[]=>true
 |t::l=>t.right&&typesR l
def hasI (L:List PComp)(c e:Int):Bool:=if 0≤c∧c<L.length∧0≤e then(match L[c.toNat]? with|some k=>decide (e<k.code.length)|none=>false)else false
def gatesR (L:List PComp):List PGate→Int
 |[]=>0
 |g::l=>if hasI L g.c g.e&&decide (g.args.length≤7)&&decide (g.res.length≤7)then(if typesR g.args&&typesR g.res then gatesR L l else 44)else 47
def countsB (a b c:Nat)(d:Int):Bool:=decide (a≤8)&&decide (1≤b)&&decide (b≤4)&&decide (1≤c)&&decide (c≤16)&&decide (1≤d)&&decide (d≤16)
def PImg.right (m:PImg):Int:=
 if countsB m.regs.length m.comps.length m.gates.length m.depth then
  (if regsR m.regs 0=0 then(if compsR m.gates.length m.comps=0 then gatesR m.comps m.gates else compsR m.gates.length m.comps)else regsR m.regs 0)
 else 42
def FIn {α:Type}(n:Nat)(vals:α→List Value)(B:Nat)(w:World)(a:Option Addr)(L:List α):Prop:=
 ∀i (h:i<L.length),∃b off:Nat,a=some ⟨b,off,none⟩∧b<B∧b<w.heap.size∧∀j,j<n→w.cell? ⟨b,off+i*n+j,none⟩=(vals L[i])[j]?
theorem FIn.below {α:Type}{n:Nat}{vals:α→List Value}{B:Nat}{w w1:World}{a:Option Addr}{L:List α}(h:FIn n vals B w a L)(hb:Below B w w1):FIn n vals B w1 a L:=fun i hi=>by
 obtain⟨b,off,ha,h1,h2,h3⟩:=h i hi;exact⟨b,off,ha,h1,Nat.lt_of_lt_of_le h2 hb.size,fun j hj=>(hb.cell (p:=⟨b,_,none⟩) h1).trans (h3 j hj)⟩
theorem FIn.mono {α:Type}{n:Nat}{vals:α→List Value}{B B':Nat}{w:World}{a:Option Addr}{L:List α}(h:FIn n vals B w a L)(hb:B≤B'):FIn n vals B' w a L:=fun i hi=>by
 obtain⟨b,off,ha,h1,h2,h3⟩:=h i hi;exact⟨b,off,ha,Nat.lt_of_lt_of_le h1 hb,h2,h3⟩
theorem FIn.nil {α:Type}(n:Nat)(vals:α→List Value)(B:Nat)(w:World)(a:Option Addr):FIn n vals B w a []:=fun i hi=>by simp at hi
def maxG:Nat:=140737488355328
def PReg.Rng (r:PReg):Prop:=W64 r.b∧W64 r.n∧r.data.length≤maxG∧r.slots.length≤maxG∧∀k∈r.slots,k.Rng
def PComp.Rng (c:PComp):Prop:=c.roots.length≤maxG∧c.code.length≤maxI∧OpsIn c.code∧∀k∈c.roots,k.Rng
def PGate.Rng (g:PGate):Prop:=J64 g.c∧J64 g.e∧g.args.length≤maxG∧g.res.length≤maxG∧(∀k∈g.args,k.Rng)∧(∀k∈g.res,k.Rng)
structure PImg.Rng (m:PImg):Prop where
 regs:m.regs.length≤maxG∧∀r∈m.regs,r.Rng
 comps:m.comps.length≤maxG∧∀c∈m.comps,c.Rng
 gates:m.gates.length≤maxG∧∀g∈m.gates,g.Rng
 depth:J64 m.depth
def RegIn (B:Nat)(w:World)(a:Option Addr)(L:List PReg):Prop:=∀i (h:i<L.length),∃(b off:Nat) (sa:Option Addr) (sc:Nat),a=some ⟨b,off,none⟩∧b<B∧b<w.heap.size∧
 w.cell? ⟨b,off+i*4,none⟩=some (.int .u64 L[i].b)∧w.cell? ⟨b,off+i*4+1,none⟩=some (.int .u64 L[i].n)∧w.cell? ⟨b,off+i*4+1+1,none⟩=some (.string (str L[i].data))∧w.cell? ⟨b,off+i*4+1+1+1,none⟩=some (.slice sa L[i].slots.length sc)∧FIn 8 PSlot.vals B w sa L[i].slots
def CompIn (B:Nat)(w:World)(a:Option Addr)(L:List PComp):Prop:=∀i (h:i<L.length),∃(b off:Nat) (ra:Option Addr) (rc:Nat) (ka:Option Addr) (kc:Nat),a=some ⟨b,off,none⟩∧b<B∧b<w.heap.size∧
 w.cell? ⟨b,off+i*2,none⟩=some (.slice ra L[i].roots.length rc)∧w.cell? ⟨b,off+i*2+1,none⟩=some (.slice ka L[i].code.length kc)∧FIn 6 PRoot.vals B w ra L[i].roots∧LIn B w ka L[i].code
def GateIn (B:Nat)(w:World)(a:Option Addr)(L:List PGate):Prop:=∀i (h:i<L.length),∃(b off:Nat) (xa:Option Addr) (xc:Nat) (ya:Option Addr) (yc:Nat),a=some ⟨b,off,none⟩∧b<B∧b<w.heap.size∧
 w.cell? ⟨b,off+i*4,none⟩=some (.int .i64 L[i].c)∧w.cell? ⟨b,off+i*4+1,none⟩=some (.int .i64 L[i].e)∧w.cell? ⟨b,off+i*4+1+1,none⟩=some (.slice xa L[i].args.length xc)∧w.cell? ⟨b,off+i*4+1+1+1,none⟩=some (.slice ya L[i].res.length yc)∧FIn 7 PTyp.vals B w xa L[i].args∧FIn 7 PTyp.vals B w ya L[i].res
theorem RegIn.below {B:Nat}{w w1:World}{a:Option Addr}{L:List PReg}(h:RegIn B w a L)(hb:Below B w w1):RegIn B w1 a L:=fun i hi=>by
 obtain⟨b,off,sa,sc,ha,h1,h2,c0,c1,c2,c3,hs⟩:=h i hi;exact⟨b,off,sa,sc,ha,h1,Nat.lt_of_lt_of_le h2 hb.size,(hb.cell (p:=⟨b,_,none⟩) h1).trans c0,(hb.cell (p:=⟨b,_,none⟩) h1).trans c1,(hb.cell (p:=⟨b,_,none⟩) h1).trans c2,(hb.cell (p:=⟨b,_,none⟩) h1).trans c3,hs.below hb⟩
theorem CompIn.below {B:Nat}{w w1:World}{a:Option Addr}{L:List PComp}(h:CompIn B w a L)(hb:Below B w w1):CompIn B w1 a L:=fun i hi=>by
 obtain⟨b,off,ra,rc,ka,kc,ha,h1,h2,c0,c1,hr,hk⟩:=h i hi;exact⟨b,off,ra,rc,ka,kc,ha,h1,Nat.lt_of_lt_of_le h2 hb.size,(hb.cell (p:=⟨b,_,none⟩) h1).trans c0,(hb.cell (p:=⟨b,_,none⟩) h1).trans c1,hr.below hb,hk.below hb⟩
theorem GateIn.below {B:Nat}{w w1:World}{a:Option Addr}{L:List PGate}(h:GateIn B w a L)(hb:Below B w w1):GateIn B w1 a L:=fun i hi=>by
 obtain⟨b,off,xa,xc,ya,yc,ha,h1,h2,c0,c1,c2,c3,hx,hy⟩:=h i hi;exact⟨b,off,xa,xc,ya,yc,ha,h1,Nat.lt_of_lt_of_le h2 hb.size,(hb.cell (p:=⟨b,_,none⟩) h1).trans c0,(hb.cell (p:=⟨b,_,none⟩) h1).trans c1,(hb.cell (p:=⟨b,_,none⟩) h1).trans c2,(hb.cell (p:=⟨b,_,none⟩) h1).trans c3,hx.below hb,hy.below hb⟩
theorem RegIn.mono {B B':Nat}{w:World}{a:Option Addr}{L:List PReg}(h:RegIn B w a L)(hb:B≤B'):RegIn B' w a L:=fun i hi=>by
 obtain⟨b,off,sa,sc,ha,h1,h2,c0,c1,c2,c3,hs⟩:=h i hi;exact⟨b,off,sa,sc,ha,Nat.lt_of_lt_of_le h1 hb,h2,c0,c1,c2,c3,hs.mono hb⟩
theorem CompIn.mono {B B':Nat}{w:World}{a:Option Addr}{L:List PComp}(h:CompIn B w a L)(hb:B≤B'):CompIn B' w a L:=fun i hi=>by
 obtain⟨b,off,ra,rc,ka,kc,ha,h1,h2,c0,c1,hr,hk⟩:=h i hi;exact⟨b,off,ra,rc,ka,kc,ha,Nat.lt_of_lt_of_le h1 hb,h2,c0,c1,hr.mono hb,hk.mono hb⟩
theorem GateIn.mono {B B':Nat}{w:World}{a:Option Addr}{L:List PGate}(h:GateIn B w a L)(hb:B≤B'):GateIn B' w a L:=fun i hi=>by
 obtain⟨b,off,xa,xc,ya,yc,ha,h1,h2,c0,c1,c2,c3,hx,hy⟩:=h i hi;exact⟨b,off,xa,xc,ya,yc,ha,Nat.lt_of_lt_of_le h1 hb,h2,c0,c1,c2,c3,hx.mono hb,hy.mono hb⟩
structure ImgIn (B:Nat)(w:World)(ra ca ga:Option Addr)(m:PImg):Prop where
 regs:RegIn B w ra m.regs
 comps:CompIn B w ca m.comps
 gates:GateIn B w ga m.gates
theorem ImgIn.below {B:Nat}{w w1:World}{ra ca ga:Option Addr}{m:PImg}(h:ImgIn B w ra ca ga m)(hb:Below B w w1):ImgIn B w1 ra ca ga m:=⟨h.regs.below hb,h.comps.below hb,h.gates.below hb⟩
theorem ImgIn.mono {B B':Nat}{w:World}{ra ca ga:Option Addr}{m:PImg}(h:ImgIn B w ra ca ga m)(hb:B≤B'):ImgIn B' w ra ca ga m:=⟨h.regs.mono hb,h.comps.mono hb,h.gates.mono hb⟩
end Go.Proofs.YtkhbiaaangnkdaaGreatDoor
