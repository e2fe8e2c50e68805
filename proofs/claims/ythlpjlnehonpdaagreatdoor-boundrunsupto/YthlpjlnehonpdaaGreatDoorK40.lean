import Derived.Test.YthlpjlnehonpdaaGreatDoorK39
import Derived.Test.YthlpjlnehonpdaaGreatDoorK35
import Derived.Laws.MakeOwn
namespace Go.Proofs.YthlpjlnehonpdaaGreatDoor
set_option maxRecDepth 100000
set_option maxHeartbeats 40000000
namespace Bd
open Go.RowKit
open T (Kp)
open F (thB nxtI folB IOwn own_slice own_nin)
def gcode (m:PImg)(g:Nat):List Ins:=match m.gates[g]? with
 |none=>[]
 |some x=>match m.comps[x.c.toNat]? with
  |none=>[]
  |some k=>k.code
def gent (m:PImg)(g:Nat):Int:=match m.gates[g]? with
 |none=>0
 |some x=>x.e
noncomputable def nxG (m:PImg) (g:Nat):List Nat:=calL (gcode m g) (gent m g)
theorem gcode_of {m:PImg}{g k:Nat}(hg:g<m.gates.length)(hk:k<m.comps.length)(hc:m.gates[g].c=k):gcode m g=m.comps[k].code:=by
 unfold gcode;rw[List.getElem?_eq_getElem hg];show(match m.comps[m.gates[g].c.toNat]? with|none=>[]|some k=>k.code)=_;rw[hc,Int.toNat_natCast,List.getElem?_eq_getElem hk]
theorem gent_of {m:PImg}{g:Nat}(hg:g<m.gates.length):gent m g=m.gates[g].e:=by
 unfold gent;rw[List.getElem?_eq_getElem hg]
theorem nxG_of {m:PImg}{g k:Nat}(hg:g<m.gates.length)(hk:k<m.comps.length)(hc:m.gates[g].c=k):nxG m g=calL m.comps[k].code m.gates[g].e:=by
 unfold nxG;rw[gcode_of hg hk hc,gent_of hg]
theorem nxG_in {m:PImg}(hb:BOk m):∀g∈List.range m.gates.length,∀c∈nxG m g,c∈List.range m.gates.length:=by
 intro g hg c hc;rw[List.mem_range]at hg ⊢;obtain⟨k,hk,h1,_⟩:=hb.gates g hg;rw[nxG_of hg hk h1]at hc;exact calL_in (hb.code k hk).2 c hc
structure IEnv (B km:Nat)(m:PImg)(ra:Option Addr)(rc:Nat)(ca:Option Addr)(cc:Nat)(ga:Option Addr)(gc:Nat)(w:World):Prop where
 i:At w km #[.slice ra m.regs.length rc,.slice ca m.comps.length cc,.slice ga m.gates.length gc,.int .i64 m.depth]
 m:ImgIn B w ra ca ga m
 le:B≤w.heap.size
section
variable {B km:Nat} {m:PImg} {ra:Option Addr} {rc:Nat} {ca:Option Addr} {cc:Nat} {ga:Option Addr} {gc:Nat} {w w':World}
theorem IEnv.keep {b:Nat}(h:IEnv B km m ra rc ca cc ga gc w)(hk:Kp (fun k=>k=b) w w')(hb:B≤b)(h1:km≠b):IEnv B km m ra rc ca cc ga gc w':=by
 have hB:Below B w w':=hk.below h.le (fun k q=>by omega);exact⟨at_keep h.i hk h1,h.m.below hB,Nat.le_trans h.le hB.size⟩
theorem IEnv.below (h:IEnv B km m ra rc ca cc ga gc w)(hk:Below w.heap.size w w'):IEnv B km m ra rc ca cc ga gc w':=
 ⟨at_keep h.i (Kp.of_below (S:=fun _=>False) hk) id,h.m.below (hk.mono h.le),Nat.le_trans h.le hk.size⟩
end
def dpL (l:List Int):Int:=l.foldl (fun a d=>max a (wrap64 (d+1))) 0
theorem dpL_snoc (l:List Int)(x:Int):dpL (l++[x])=max (dpL l) (wrap64 (x+1)):=by unfold dpL;rw[List.foldl_append];rfl
def dpF (_:Nat)(vs:List Int):Option Int:=some (dpL vs)
theorem deepOf_any (B km:Nat)(m:PImg)(ra:Option Addr)(rc:Nat)(ca:Option Addr)(cc:Nat)(ga:Option Addr)(gc:Nat)(hok:BOk m)(p:Pl)(hp:p.qf=51)(hbB:B≤p.b)(hkm:km≠p.b)(d:Nat)
 (hask:AskC (IEnv B km m ra rc ca cc ga gc) p enci tupi (nxG m) dpF (List.range m.gates.length) d)
 (w:World)(n:Nat)(S:Nat→Prop)(M:Nat→Option (Option Int))(nn:Nat)(hE:IEnv B km m ra rc ca cc ga gc w)(hR:Rem p enci w nn M)(hS:Memo (nxG m) dpF (List.range m.gates.length) (fun x=>S x∨x=n) M)(hA:∀q,S q→Anc (nxG m) dpF q n)(hn:n∈List.range m.gates.length)(hl:left (List.range m.gates.length) M≤d)(hb:nn+2*left (List.range m.gates.length) M≤1000000):
 Calls Tryz.prog 25 #[imA m ra rc ca cc ga gc,.int .i64 n,p.qv] w fun r w'=>r=.returned (tupi (ev (nxG m) dpF (List.range m.gates.length) n))∧Aft p enci (nxG m) dpF (List.range m.gates.length) (fun x=>S x∨x=n) M nn w w':=by
 have hU:=nxG_in hok;have hqv:p.qv=.func (.func 51) #[] #[.pointer (some ⟨p.kA,0,none⟩),.pointer (some ⟨p.kF,0,none⟩),.pointer (some ⟨p.kQ,0,none⟩)]:=by unfold Pl.qv pv;rw[hp]
 rw[hqv];have hn2:=List.mem_range.1 hn;obtain⟨k,hk,hgc,hgr⟩:=hok.gates n hn2;obtain⟨hcl,hco⟩:=hok.code k hk;have hNx:=ζ (fun W (q:Below w.heap.size w W)=>calledBy_any m ra ca ga rc cc gc n k hn2 hk hgc (by omega) hco W (((hE.m.mono hE.le).below q).mono q.size));have hNl:(nxG m n).length≤2000:=by
  rw[nxG_of hn2 hk hgc];have:=calL_len m.comps[k].code m.gates[n].e;omega
 rw[←nxG_of hn2 hk hgc]at hNx;have hq:=ζ (fun W (e:IEnv B km m ra rc ca cc ga gc W) (M':Nat→Option (Option Int)) (nn':Nat) (h1:Rem p enci W nn' M') (h2:Memo (nxG m) dpF (List.range m.gates.length) (fun x=>S x∨x=n) M') (h3:More M M') (h4:nn'+2*left (List.range m.gates.length) M'≤nn+2*left (List.range m.gates.length) M) (c:Nat) (hc:c∈nxG m n)=>hask W c (fun x=>S x∨x=n) M' nn' e h1 h2 (fun q hq=>by
  rcases hq with hq|hq
  ·exact(hA q hq).trans (anc_child hc)
  ·subst hq;exact anc_child hc) (hU n hn c hc) (Nat.le_trans (left_more h3) hl) (by omega))
 rw[hp]at hq;unfold pv at hq;have evd:∀vs:List Int,(nxG m n).map (ev (nxG m) dpF (List.range m.gates.length))=vs.map some→ev (nxG m) dpF (List.range m.gates.length) n=some (dpL vs):=fun vs h=>ev_known hU hn h
 have evn:∀c,c∈nxG m n→ev (nxG m) dpF (List.range m.gates.length) c=none→ev (nxG m) dpF (List.range m.gates.length) n=none:=fun c hc h=>ev_none hU hn hc h
 have hstart:Aft p enci (nxG m) dpF (List.range m.gates.length) (fun x=>S x∨x=n) M nn w w:=⟨M,nn,hR,hS,More.refl M,Nat.le_refl _,Kp.refl _ _⟩;have hEk:=ζ (fun W (q:Kp (fun k=>k=p.b) w W)=>hE.keep q hbB hkm);have hpb:=hR.m.lt;replace hE:=ζ hE;replace hS:=ζ hS;replace hR:=ζ hR;replace hA:=ζ hA;replace hU:=ζ hU;replace hn:=ζ hn;replace hstart:=ζ hstart;replace evd:=ζ evd;replace evn:=ζ evn;clear hask hqv hb hl hgc hcl hco hgr hk hok;generalize hN:nxG m n=N at*;generalize hev:ev (nxG m) dpF (List.range m.gates.length)=evv at*;generalize List.range m.gates.length=U at*;unfold imA at*;go_enter Tryz.func25,Tryz.ntmps25;go_upto_region 1 with fail
 refine wp_world (fun W=>At W w.heap.size #[.slice ra m.regs.length rc,.slice ca m.comps.length cc,.slice ga m.gates.length gc,.int .i64 m.depth]∧Below w.heap.size w W) ⟨At.new w _ _,(Below.refl _ _).alloc (Nat.le_refl _) _⟩ ?_;rintro W ⟨A0,hB⟩;have k0:W.cell? ⟨w.heap.size,0,none⟩=some (.slice ra m.regs.length rc):=A0.2.1 0;have k1:W.cell? ⟨w.heap.size,1,none⟩=some (.slice ca m.comps.length cc):=A0.2.1 1;have k2:W.cell? ⟨w.heap.size,2,none⟩=some (.slice ga m.gates.length gc):=A0.2.1 2;have k3:W.cell? ⟨w.heap.size,3,none⟩=some (.int .i64 m.depth):=A0.2.1 3;have hWs:=hB.size;replace hB:=ζ hB;clear A0;go_upto_region 3 with(go_at_call 34;refine(hNx.out _ hB.out).mono ?_;rintro r W1 ⟨v,rfl,y1,y2⟩;obtain⟨va,vc,rfl⟩:=own_slice y1;rw[List.length_map]at y1;replace y1:=ζ y1;replace y2:=ζ y2)
 clear k0 k1 k2 k3;have hBB:Hz (Below w.heap.size w W1):=ζ (hB.out.trans (y2.out.mono hWs));have hlo:p.b<W.heap.size:=by omega
 go_loopw [8,17] (fun rv iv wr=>∃(j:Nat) (vs:List Int),rv=.int .i64 (dpL vs)∧iv=.int .i64 j∧j≤N.length∧Hz (Asked p enci (nxG m) dpF U (fun x=>S x∨x=n) M nn N W.heap.size (.slice va N.length vc) w j vs wr)) (fun _ iv _=>N.length - (intOf iv).toNat)
 case atStart=>exact⟨0,[],rfl,rfl,by omega,ζ ⟨aft_below hstart.out hBB.out,rfl,y1.out⟩⟩
 case round=>
  obtain⟨j,vs,rfl,rfl,hj,hk⟩:=hrel;have hkp:=hk.out.kp;have hEr:=hEk.out wr hkp;by_cases hlt:j<N.length
  ·obtain⟨b,off,ena,_,hb2,hc⟩:=own_nin hk.out.v j (by rw[List.length_map];exact hlt);subst ena;rw[List.getElem_map]at hc;have hi1:(j:Int)<N.length:=by omega
   obtain⟨M',nn',r1,r2,r3,r4,r5⟩:=hk.out.a;have hmem:N[j]∈N:=List.getElem_mem hlt;have hcall:=hq.out wr hEr M' nn' r1 r2 r3 r4 N[j] hmem;have hnx:=fun x (hx:ev (nxG m) dpF U N[j]=some x) w2 (g:Aft p enci (nxG m) dpF U (fun x=>S x∨x=n) M' nn' wr w2)=>hk.out.next hlt x hx hlo r3 r4 r5 g
   have hn2:=fun w2 (g:Aft p enci (nxG m) dpF U (fun x=>S x∨x=n) M' nn' wr w2)=>(show Aft p enci (nxG m) dpF U (fun x=>S x∨x=n) M nn w w2 by
    obtain⟨M2,n2,g1,g2,g3,g4,g5⟩:=g;exact⟨M2,n2,g1,g2,r3.trans g3,by omega,r5.trans g5 (fun k q=>.inl q)⟩)
   have hev2:ev (nxG m) dpF U N[j]=evv N[j]:=by rw[hev]
   (try rw[hev2]at hcall)
   rw[hev2]at hnx;have hno:=evn.out N[j] hmem;clear hev2 hmem r1 r2 r5;generalize N[j]=c at*;replace hnx:=ζ hnx;replace hn2:=ζ hn2;replace hk:=ζ hk.out;replace hkp:=ζ hkp;replace hEr:=ζ hEr;replace r3:=ζ r3;replace r4:=ζ r4;have hij:IntKind.i64.wrap ((j:Int)+1)=((j+1:Nat):Int):=by rw[IntKind.wrap_i64];omega
   have hij2:wrap64 ((j:Int)+1)=((j+1:Nat):Int):=by unfold wrap64;omega
   cases hcv:evv c with
   |none=>
    have hem:=hno hcv;rw[hcv]at hcall;unfold tupi at hcall;replace hno:=ζ hno;replace hcall:=ζ hcall;go_wp2_with(go_at_call 51;refine hcall.out.mono ?_;rintro r w2 ⟨rfl,g⟩;replace g:=ζ g);refine bodyPost_ret (v:=.tuple #[.int .i64 0,.bool false]) (by simp[results,Tryz.results25,go_sem]) rfl ?_;refine⟨?_,hn2.out _ g.out⟩;rw[hem];rfl
   |some x=>
    rw[hcv]at hcall;unfold tupi at hcall;replace hno:=ζ hno;replace hcall:=ζ hcall;replace hcv:=ζ hcv;go_wp2_with(go_at_call 51;refine hcall.out.mono ?_;rintro r w2 ⟨rfl,g⟩;replace g:=ζ g);clear hij hij2;go_roundw
    case rel=>exact⟨j+1,vs++[x],by rw[dpL_snoc],by simp,by omega,ζ (hnx.out x hcv.out _ g.out)⟩
    case measure=>simp only[intOf];omega
  ·have hje:j=N.length:=by omega
   subst hje;have hi2:¬(N.length:Int)<N.length:=by omega
   have hres:=evd.out vs (by rw[←hk.out.e,List.take_of_length_le (Nat.le_refl _),←hev]);generalize dpL vs=mv at*;have haf:=ζ hk.out.a;replace hk:=ζ hk.out;replace hEr:=ζ hEr;replace hkp:=ζ hkp;replace hres:=ζ hres;go_wp2_with fail;refine bodyPost_ret (v:=.tuple #[.int .i64 mv,.bool true]) (by simp[results,Tryz.results25,go_sem]) rfl ?_;refine⟨?_,haf.out⟩;rw[hres.out];rfl
theorem findi_any (B km:Nat)(m:PImg)(ra:Option Addr)(rc:Nat)(ca:Option Addr)(cc:Nat)(ga:Option Addr)(gc:Nat)(hok:BOk m)(p:Pl)(hp:p.qf=51)(hbB:B≤p.b)(hkm:km≠p.b)(d:Nat):
 AskC (IEnv B km m ra rc ca cc ga gc) p enci tupi (nxG m) dpF (List.range m.gates.length) d→FindC 24 #[pv km] (IEnv B km m ra rc ca cc ga gc) p enci tupi (nxG m) dpF (List.range m.gates.length) d:=by
 intro hask w n S M nn hE hR hS hA hm hl hb;have hD:=deepOf_any B km m ra rc ca cc ga gc hok p hp hbB hkm d hask w n S M nn hE hR hS hA hm hl hb;have hqv:p.qv=.func (.func 51) #[] #[.pointer (some ⟨p.kA,0,none⟩),.pointer (some ⟨p.kF,0,none⟩),.pointer (some ⟨p.kQ,0,none⟩)]:=by unfold Pl.qv pv;rw[hp]
 show Calls Tryz.prog 24 #[.int .i64 n,p.qv,.pointer (some ⟨km,0,none⟩)] w _;rw[hqv]at hD ⊢;have k0:w.cell? ⟨km,0,none⟩=some (.slice ra m.regs.length rc):=hE.i.2.1 0;have k1:w.cell? ⟨km,1,none⟩=some (.slice ca m.comps.length cc):=hE.i.2.1 1;have k2:w.cell? ⟨km,2,none⟩=some (.slice ga m.gates.length gc):=hE.i.2.1 2;have k3:w.cell? ⟨km,3,none⟩=some (.int .i64 m.depth):=hE.i.2.1 3;unfold imA at hD;clear hask hE hR hS hA hm hl hb hqv hok;generalize ev (nxG m) dpF (List.range m.gates.length) n=res at*;generalize List.range m.gates.length=U at*
 cases res with
 |some v=>
  unfold tupi at hD ⊢;replace hD:=ζ hD;go_enter Tryz.func24,Tryz.ntmps24;go_wp2_with(go_at_call 25;refine hD.out.mono ?_;rintro r W2 ⟨rfl,g⟩;replace g:=ζ g);refine bodyPost_ret (v:=.tuple #[.int .i64 v,.bool true]) (by simp[results,Tryz.results24,go_sem]) rfl ?_;exact⟨rfl,g.out⟩
 |none=>
  unfold tupi at hD ⊢;replace hD:=ζ hD;go_enter Tryz.func24,Tryz.ntmps24;go_wp2_with(go_at_call 25;refine hD.out.mono ?_;rintro r W2 ⟨rfl,g⟩;replace g:=ζ g);refine bodyPost_ret (v:=.tuple #[.int .i64 0,.bool false]) (by simp[results,Tryz.results24,go_sem]) rfl ?_;exact⟨rfl,g.out⟩
structure Cst where
 s:Int
 c:Int
 i:Int
def tupc:Option Cst→Value
 |some v=>.tuple #[.agg #[.bool true,.int .u64 v.s,.int .u64 v.c,.int .u64 v.i],.bool true]
 |none=>.tuple #[.agg #[.bool false,.int .u64 0,.int .u64 0,.int .u64 0],.bool false]
def encc:Option Cst→Value
 |some v=>.agg #[.bool true,.int .u64 v.s,.int .u64 v.c,.int .u64 v.i,.bool true]
 |none=>.agg #[.bool false,.int .u64 0,.int .u64 0,.int .u64 0,.bool false]
theorem hitc_some (p:Pl)(hp:p.qf=32)(n:Nat)(hn:n<4611686018427387904)(M:Nat→Option (Option Cst))(nn:Nat)(v:Cst)(hM:M n=some (some v))(w:World)(hR:Rem p encc w nn M)(Q:World→Prop)(hQ:∀w',Rem p encc w' nn M→Kp (fun k=>k=p.b) w w'→Q w'):
 Calls Tryz.prog p.qf #[.int .i64 n,pv p.kA,pv p.kF,pv p.kQ] w fun r w'=>r=.returned (tupc (some v))∧Q w':=by
 have hR0:=hR.below ((Below.refl _ w).alloc (Nat.le_refl _) (.cells #[.bool false,.int .u64 0,.int .u64 0,.int .u64 0] 42));have hl0:(Instr.lookup 105 (.map (some p.b)) (.int .i64 n) true).run Tryz.prog (w.alloc (.cells #[.bool false,.int .u64 0,.int .u64 0,.int .u64 0] 42))=.ok (.tuple #[.agg #[.bool true,.int .u64 v.s,.int .u64 v.c,.int .u64 v.i,.bool true],.bool true]) (w.alloc (.cells #[.bool false,.int .u64 0,.int .u64 0,.int .u64 0] 42)):=by
  have:=hR0.m.look (t:=105) (e:=107) (by kernel_rfl) (z:=.agg #[.bool false,.int .u64 0,.int .u64 0,.int .u64 0,.bool false]) (by kernel_rfl) n hn;rw[hM]at this;exact this
 have a0:w.cell? ⟨p.kA,0,none⟩=some (.map (some p.b)):=hR.a.2.1 0;have lta:=hR.a.1;replace hR:=ζ hR;clear hM hn hR0;rw[hp];unfold pv tupc;go_enter Tryz.func32,Tryz.ntmps32;go_wp2_with fail;go_region
 all_goals
  go_wp2_with fail;refine bodyPost_ret (v:=.tuple #[.agg #[.bool true,.int .u64 v.s,.int .u64 v.c,.int .u64 v.i],.bool true]) (by simp[results,Tryz.results32,go_sem]) rfl ?_;refine⟨rfl,?_⟩;refine hQ _ (hR.out.below ?_) (Kp.of_below ?_)<;>repeat(first|exact Below.refl _ _|refine Below.alloc ?_ (by simp<;>omega) _|refine Below.setCell ?_ (by simp<;>omega) _|refine Below.drew ?_)
theorem hitc_none (p:Pl)(hp:p.qf=32)(n:Nat)(hn:n<4611686018427387904)(M:Nat→Option (Option Cst))(nn:Nat)(hM:M n=some (none))(w:World)(hR:Rem p encc w nn M)(Q:World→Prop)(hQ:∀w',Rem p encc w' nn M→Kp (fun k=>k=p.b) w w'→Q w'):
 Calls Tryz.prog p.qf #[.int .i64 n,pv p.kA,pv p.kF,pv p.kQ] w fun r w'=>r=.returned (tupc (none))∧Q w':=by
 have hR0:=hR.below ((Below.refl _ w).alloc (Nat.le_refl _) (.cells #[.bool false,.int .u64 0,.int .u64 0,.int .u64 0] 42));have hl0:(Instr.lookup 105 (.map (some p.b)) (.int .i64 n) true).run Tryz.prog (w.alloc (.cells #[.bool false,.int .u64 0,.int .u64 0,.int .u64 0] 42))=.ok (.tuple #[.agg #[.bool false,.int .u64 0,.int .u64 0,.int .u64 0,.bool false],.bool true]) (w.alloc (.cells #[.bool false,.int .u64 0,.int .u64 0,.int .u64 0] 42)):=by
  have:=hR0.m.look (t:=105) (e:=107) (by kernel_rfl) (z:=.agg #[.bool false,.int .u64 0,.int .u64 0,.int .u64 0,.bool false]) (by kernel_rfl) n hn;rw[hM]at this;exact this
 have a0:w.cell? ⟨p.kA,0,none⟩=some (.map (some p.b)):=hR.a.2.1 0;have lta:=hR.a.1;replace hR:=ζ hR;clear hM hn hR0;rw[hp];unfold pv tupc;go_enter Tryz.func32,Tryz.ntmps32;go_wp2_with fail;go_region
 all_goals
  go_wp2_with fail;refine bodyPost_ret (v:=.tuple #[.agg #[.bool false,.int .u64 0,.int .u64 0,.int .u64 0],.bool false]) (by simp[results,Tryz.results32,go_sem]) rfl ?_;refine⟨rfl,?_⟩;refine hQ _ (hR.out.below ?_) (Kp.of_below ?_)<;>repeat(first|exact Below.refl _ _|refine Below.alloc ?_ (by simp<;>omega) _|refine Below.setCell ?_ (by simp<;>omega) _|refine Below.drew ?_)
theorem missc_some (km:Nat)(p:Pl)(hp:p.qf=32)(hf:p.fv=.func (.func 17) #[] #[pv km])(nx:Nat→List Nat)(f:Nat→List Cst→Option Cst)(U:List Nat)(S:Nat→Prop)(n:Nat)(hn:n<4611686018427387904)(M:Nat→Option (Option Cst))(nn:Nat)(v:Cst)(hM:M n=none)(w:World)(hR:Rem p encc w nn M)(hnn:nn+1+2*left U (setM M n none)≤1000000)
 (hfd:∀W,Rem p encc W (nn+1) (setM M n none)→Kp (fun k=>k=p.b) w W→Calls Tryz.prog 17 (#[.int .i64 n,p.qv]++#[pv km]) W fun r w'=>r=.returned (tupc (some v))∧Aft p encc nx f U S (setM M n none) (nn+1) W w'):
 Calls Tryz.prog p.qf #[.int .i64 n,pv p.kA,pv p.kF,pv p.kQ] w fun r w'=>r=.returned (tupc (some v))∧∃M' nn',Rem p encc w' (nn'+1) (setM M' n (some v))∧Memo nx f U S M'∧More (setM M n none) M'∧nn'+2*left U M'≤nn+1+2*left U (setM M n none)∧Kp (fun k=>k=p.b) w w':=by
 have hR0:=hR.below ((Below.refl _ w).alloc (Nat.le_refl _) (.cells (List.toArray [Value.bool false,.int .u64 0,.int .u64 0,.int .u64 0]) 42));have hl0:(Instr.lookup 105 (.map (some p.b)) (.int .i64 n) true).run Tryz.prog (w.alloc (.cells (List.toArray [Value.bool false,.int .u64 0,.int .u64 0,.int .u64 0]) 42))=.ok (.tuple #[.agg #[.bool false,.int .u64 0,.int .u64 0,.int .u64 0,.bool false],.bool false]) (w.alloc (.cells (List.toArray [Value.bool false,.int .u64 0,.int .u64 0,.int .u64 0]) 42)):=by
  have:=hR0.m.look (t:=105) (e:=107) (by kernel_rfl) (z:=.agg #[.bool false,.int .u64 0,.int .u64 0,.int .u64 0,.bool false]) (by kernel_rfl) n hn;rw[hM]at this;exact this
 have a0:w.cell? ⟨p.kA,0,none⟩=some (.map (some p.b)):=hR.a.2.1 0;have lta:=hR.a.1;have hbb:=hR.m.lt;replace hR:=ζ hR;replace hfd:=ζ hfd;replace hf:=ζ hf;replace hnn:=ζ hnn;clear hM hR0;rw[hp];unfold pv tupc;go_enter Tryz.func32,Tryz.ntmps32;go_upto_region 4 with fail
 refine wp_world (fun W=>Below (w.alloc (.cells (List.toArray [Value.bool false,.int .u64 0,.int .u64 0,.int .u64 0]) 42)).heap.size (w.alloc (.cells (List.toArray [Value.bool false,.int .u64 0,.int .u64 0,.int .u64 0]) 42)) W) (by repeat(first|exact Below.refl _ _|refine Below.alloc ?_ (by simp<;>omega) _|refine Below.setCell ?_ (by simp<;>omega) _)) ?_;intro W hB0;have hB:Below w.heap.size w W:=Below.trans (Below.alloc (Below.refl _ _) (Nat.le_refl _) _) (hB0.mono (by simp));have r0:=at_keep (At.new w (List.toArray [Value.bool false,.int .u64 0,.int .u64 0,.int .u64 0]) 42) (Kp.of_below (S:=fun _=>False) hB0) id;clear hl0 a0 hB0;have hR1:=hR.out.below hB;have a0:W.cell? ⟨p.kA,0,none⟩=some (.map (some p.b)):=hR1.a.2.1 0;have hm1:=ζ hR1.m;replace hR1:=ζ hR1;replace hB:=ζ hB;have hne:Hz (¬w.heap.size=p.b):=ζ (by omega);replace r0:=ζ r0;go_upto_region 5 with(at_mapUpdate;refine wpList_put rfl _ _ _ _ 107 rfl (by kernel_rfl) p.b nn encc M rfl hm1.out (by have:=hnn.out;unfold maxLen;omega) n hn none rfl rfl ?_;intro W2 hm2 hk2)
 clear a0;have hR2:=hR1.out.turn hk2 hm2;have a0:W2.cell? ⟨p.kA,0,none⟩=some (.map (some p.b)):=hR2.a.2.1 0;have f0:W2.cell? ⟨p.kF,0,none⟩=some p.fv:=hR2.f.2.1 0;have q0:W2.cell? ⟨p.kQ,0,none⟩=some p.qv:=hR2.q.2.1 0;rw[hf.out]at f0;have hkw:Kp (fun k=>k=p.b) w W2:=(Kp.of_below hB.out).trans hk2 (fun k q=>.inl q);have hc:=hfd.out W2 hR2 hkw;replace hc:Calls Tryz.prog 17 #[.int .i64 n,p.qv,.pointer (some ⟨km,0,none⟩)] W2 _:=hc;unfold tupc at hc;replace r0:=ζ (at_keep r0.out hk2 hne.out);replace hkw:=ζ hkw;replace hR2:=ζ hR2;replace hc:=ζ hc;clear hm1 hm2 hk2 hR1;unfold pv at f0;go_upto_region 6 with(go_at_call 17;refine hc.out.mono ?_;rintro r W3 ⟨rfl,M',nn',hR3,hS3,hmo,hle,hk3⟩)
 clear a0 f0 q0;have r3:=at_keep r0.out hk3 hne.out;have hk33:=hkw.out.trans hk3 (fun k q=>.inl q);have hw3:=hk33.size;refine wp_world (fun X=>Below W3.heap.size W3 X∧At X W3.heap.size (List.toArray [Value.bool true,.int .u64 v.s,.int .u64 v.c,.int .u64 v.i])) ⟨(by repeat(first|exact Below.refl _ _|refine Below.alloc ?_ (by simp<;>omega) _|refine Below.setCell ?_ (by simp<;>omega) _)),At.new W3 (List.toArray [Value.bool true,.int .u64 v.s,.int .u64 v.c,.int .u64 v.i]) 42⟩ ?_;rintro X ⟨hB3,r9⟩;replace r3:=at_keep r3 (Kp.of_below (S:=fun _=>False) hB3) id;have hRX:=hR3.below hB3;have hkX:=hk33.trans (Kp.of_below (S:=fun k=>k=p.b) hB3) (fun k q=>.inl q);have hne9:Hz (¬W3.heap.size=p.b):=ζ (by omega);clear hk3 hk33 hR3 r0 hB3;generalize W3.heap.size=k9 at*;have a0:X.cell? ⟨p.kA,0,none⟩=some (.map (some p.b)):=hRX.a.2.1 0;have⟨_,p9,_⟩:=r9;have hm3:=ζ hRX.m;replace hRX:=ζ hRX;replace hle:=ζ hle
 replace hS3:=ζ hS3;replace hmo:=ζ hmo;replace hkX:=ζ hkX;replace r3:=ζ r3;replace r9:=ζ r9;go_upto_region 7 with(at_mapUpdate;refine wpList_put rfl _ _ _ _ 107 rfl (by kernel_rfl) p.b nn' encc M' rfl hm3.out (by have:=hnn.out;have:=hle.out;unfold maxLen;omega) n hn (some v) rfl rfl ?_;intro W4 hm4 hk4)
 clear a0 p9;have hR4:=hRX.out.turn hk4 hm4;have r4:=at_keep r3.out hk4 hne.out;have r94:=at_keep r9.out hk4 hne9.out;have hk44:=hkX.out.trans hk4 (fun k q=>.inl q);have⟨l4,p4,f4⟩:=r4;have⟨_,p9,_⟩:=r94;have hfin:=ζ (At.setAll (cs:=[Value.bool false,.int .u64 0,.int .u64 0,.int .u64 0]) r4 [Value.bool true,.int .u64 v.s,.int .u64 v.c,.int .u64 v.i] rfl);have hkf:Kp (fun k=>k=w.heap.size) W4 (W4.setCells w.heap.size 0 [Value.bool true,.int .u64 v.s,.int .u64 v.c,.int .u64 v.i]):=kp_sets W4 w.heap.size [Value.bool true,.int .u64 v.s,.int .u64 v.c,.int .u64 v.i] 0;have hRf:=ζ (hR4.above hR.out hkf (fun k q=>by omega));have hKf:=ζ (hk44.trans hkf (fun k q=>.inr (by omega)));clear hkf hk44 r4 r94 hR4 hk4 hm4;go_wp2_with fail;have⟨_,q4,_⟩:=hfin.out;simp only[World.setCells]at q4;refine bodyPost_ret (v:=.tuple #[.agg #[.bool true,.int .u64 v.s,.int .u64 v.c,.int .u64 v.i],.bool true]) (by simp[results,Tryz.results32,go_sem,q4]) rfl ?_
 exact⟨rfl,M',nn',hRf.out,hS3.out,hmo.out,hle.out,hKf.out⟩
theorem missc_none (km:Nat)(p:Pl)(hp:p.qf=32)(hf:p.fv=.func (.func 17) #[] #[pv km])(nx:Nat→List Nat)(f:Nat→List Cst→Option Cst)(U:List Nat)(S:Nat→Prop)(n:Nat)(hn:n<4611686018427387904)(M:Nat→Option (Option Cst))(nn:Nat)(hM:M n=none)(w:World)(hR:Rem p encc w nn M)(hnn:nn+1+2*left U (setM M n none)≤1000000)
 (hfd:∀W,Rem p encc W (nn+1) (setM M n none)→Kp (fun k=>k=p.b) w W→Calls Tryz.prog 17 (#[.int .i64 n,p.qv]++#[pv km]) W fun r w'=>r=.returned (tupc (none))∧Aft p encc nx f U S (setM M n none) (nn+1) W w'):
 Calls Tryz.prog p.qf #[.int .i64 n,pv p.kA,pv p.kF,pv p.kQ] w fun r w'=>r=.returned (tupc (none))∧∃M' nn',Rem p encc w' (nn'+1) (setM M' n (none))∧Memo nx f U S M'∧More (setM M n none) M'∧nn'+2*left U M'≤nn+1+2*left U (setM M n none)∧Kp (fun k=>k=p.b) w w':=by
 have hR0:=hR.below ((Below.refl _ w).alloc (Nat.le_refl _) (.cells (List.toArray [Value.bool false,.int .u64 0,.int .u64 0,.int .u64 0]) 42));have hl0:(Instr.lookup 105 (.map (some p.b)) (.int .i64 n) true).run Tryz.prog (w.alloc (.cells (List.toArray [Value.bool false,.int .u64 0,.int .u64 0,.int .u64 0]) 42))=.ok (.tuple #[.agg #[.bool false,.int .u64 0,.int .u64 0,.int .u64 0,.bool false],.bool false]) (w.alloc (.cells (List.toArray [Value.bool false,.int .u64 0,.int .u64 0,.int .u64 0]) 42)):=by
  have:=hR0.m.look (t:=105) (e:=107) (by kernel_rfl) (z:=.agg #[.bool false,.int .u64 0,.int .u64 0,.int .u64 0,.bool false]) (by kernel_rfl) n hn;rw[hM]at this;exact this
 have a0:w.cell? ⟨p.kA,0,none⟩=some (.map (some p.b)):=hR.a.2.1 0;have lta:=hR.a.1;have hbb:=hR.m.lt;replace hR:=ζ hR;replace hfd:=ζ hfd;replace hf:=ζ hf;replace hnn:=ζ hnn;clear hM hR0;rw[hp];unfold pv tupc;go_enter Tryz.func32,Tryz.ntmps32;go_upto_region 4 with fail
 refine wp_world (fun W=>Below (w.alloc (.cells (List.toArray [Value.bool false,.int .u64 0,.int .u64 0,.int .u64 0]) 42)).heap.size (w.alloc (.cells (List.toArray [Value.bool false,.int .u64 0,.int .u64 0,.int .u64 0]) 42)) W) (by repeat(first|exact Below.refl _ _|refine Below.alloc ?_ (by simp<;>omega) _|refine Below.setCell ?_ (by simp<;>omega) _)) ?_;intro W hB0;have hB:Below w.heap.size w W:=Below.trans (Below.alloc (Below.refl _ _) (Nat.le_refl _) _) (hB0.mono (by simp));have r0:=at_keep (At.new w (List.toArray [Value.bool false,.int .u64 0,.int .u64 0,.int .u64 0]) 42) (Kp.of_below (S:=fun _=>False) hB0) id;clear hl0 a0 hB0;have hR1:=hR.out.below hB;have a0:W.cell? ⟨p.kA,0,none⟩=some (.map (some p.b)):=hR1.a.2.1 0;have hm1:=ζ hR1.m;replace hR1:=ζ hR1;replace hB:=ζ hB;have hne:Hz (¬w.heap.size=p.b):=ζ (by omega);replace r0:=ζ r0;go_upto_region 5 with(at_mapUpdate;refine wpList_put rfl _ _ _ _ 107 rfl (by kernel_rfl) p.b nn encc M rfl hm1.out (by have:=hnn.out;unfold maxLen;omega) n hn none rfl rfl ?_;intro W2 hm2 hk2)
 clear a0;have hR2:=hR1.out.turn hk2 hm2;have a0:W2.cell? ⟨p.kA,0,none⟩=some (.map (some p.b)):=hR2.a.2.1 0;have f0:W2.cell? ⟨p.kF,0,none⟩=some p.fv:=hR2.f.2.1 0;have q0:W2.cell? ⟨p.kQ,0,none⟩=some p.qv:=hR2.q.2.1 0;rw[hf.out]at f0;have hkw:Kp (fun k=>k=p.b) w W2:=(Kp.of_below hB.out).trans hk2 (fun k q=>.inl q);have hc:=hfd.out W2 hR2 hkw;replace hc:Calls Tryz.prog 17 #[.int .i64 n,p.qv,.pointer (some ⟨km,0,none⟩)] W2 _:=hc;unfold tupc at hc;replace r0:=ζ (at_keep r0.out hk2 hne.out);replace hkw:=ζ hkw;replace hR2:=ζ hR2;replace hc:=ζ hc;clear hm1 hm2 hk2 hR1;unfold pv at f0;go_upto_region 6 with(go_at_call 17;refine hc.out.mono ?_;rintro r W3 ⟨rfl,M',nn',hR3,hS3,hmo,hle,hk3⟩)
 clear a0 f0 q0;have r3:=at_keep r0.out hk3 hne.out;have hk33:=hkw.out.trans hk3 (fun k q=>.inl q);have hw3:=hk33.size;refine wp_world (fun X=>Below W3.heap.size W3 X∧At X W3.heap.size (List.toArray [Value.bool false,.int .u64 0,.int .u64 0,.int .u64 0])) ⟨(by repeat(first|exact Below.refl _ _|refine Below.alloc ?_ (by simp<;>omega) _|refine Below.setCell ?_ (by simp<;>omega) _)),At.new W3 (List.toArray [Value.bool false,.int .u64 0,.int .u64 0,.int .u64 0]) 42⟩ ?_;rintro X ⟨hB3,r9⟩;replace r3:=at_keep r3 (Kp.of_below (S:=fun _=>False) hB3) id;have hRX:=hR3.below hB3;have hkX:=hk33.trans (Kp.of_below (S:=fun k=>k=p.b) hB3) (fun k q=>.inl q);have hne9:Hz (¬W3.heap.size=p.b):=ζ (by omega);clear hk3 hk33 hR3 r0 hB3;generalize W3.heap.size=k9 at*;have a0:X.cell? ⟨p.kA,0,none⟩=some (.map (some p.b)):=hRX.a.2.1 0;have⟨_,p9,_⟩:=r9;have hm3:=ζ hRX.m;replace hRX:=ζ hRX;replace hle:=ζ hle;replace hS3:=ζ hS3
 replace hmo:=ζ hmo;replace hkX:=ζ hkX;replace r3:=ζ r3;replace r9:=ζ r9;go_upto_region 7 with(at_mapUpdate;refine wpList_put rfl _ _ _ _ 107 rfl (by kernel_rfl) p.b nn' encc M' rfl hm3.out (by have:=hnn.out;have:=hle.out;unfold maxLen;omega) n hn (none) rfl rfl ?_;intro W4 hm4 hk4)
 clear a0 p9;have hR4:=hRX.out.turn hk4 hm4;have r4:=at_keep r3.out hk4 hne.out;have r94:=at_keep r9.out hk4 hne9.out;have hk44:=hkX.out.trans hk4 (fun k q=>.inl q);have⟨l4,p4,f4⟩:=r4;have⟨_,p9,_⟩:=r94;have hfin:=ζ (At.setAll (cs:=[Value.bool false,.int .u64 0,.int .u64 0,.int .u64 0]) r4 [Value.bool false,.int .u64 0,.int .u64 0,.int .u64 0] rfl);have hkf:Kp (fun k=>k=w.heap.size) W4 (W4.setCells w.heap.size 0 [Value.bool false,.int .u64 0,.int .u64 0,.int .u64 0]):=kp_sets W4 w.heap.size [Value.bool false,.int .u64 0,.int .u64 0,.int .u64 0] 0;have hRf:=ζ (hR4.above hR.out hkf (fun k q=>by omega));have hKf:=ζ (hk44.trans hkf (fun k q=>.inr (by omega)));clear hkf hk44 r4 r94 hR4 hk4 hm4;go_wp2_with fail;have⟨_,q4,_⟩:=hfin.out;simp only[World.setCells]at q4;refine bodyPost_ret (v:=.tuple #[.agg #[.bool false,.int .u64 0,.int .u64 0,.int .u64 0],.bool false]) (by simp[results,Tryz.results32,go_sem,q4]) rfl ?_
 exact⟨rfl,M',nn',hRf.out,hS3.out,hmo.out,hle.out,hKf.out⟩
theorem hitc_any (p:Pl)(hp:p.qf=32)(n:Nat)(hn:n<4611686018427387904)(M:Nat→Option (Option Cst))(nn:Nat)(e:Option Cst)(hM:M n=some e)(w:World)(hR:Rem p encc w nn M)(Q:World→Prop)(hQ:∀w',Rem p encc w' nn M→Kp (fun k=>k=p.b) w w'→Q w'):
 Calls Tryz.prog p.qf #[.int .i64 n,pv p.kA,pv p.kF,pv p.kQ] w fun r w'=>r=.returned (tupc e)∧Q w':=by
 cases e with
 |some v=>exact hitc_some p hp n hn M nn v hM w hR Q hQ
 |none=>exact hitc_none p hp n hn M nn hM w hR Q hQ
theorem askc_any (km:Nat)(E:World→Prop)(p:Pl)(hp:p.qf=32)(hf:p.fv=.func (.func 17) #[] #[pv km])(hE:∀w w',E w→Kp (fun k=>k=p.b) w w'→E w')(nx:Nat→List Nat)(f:Nat→List Cst→Option Cst)(U:List Nat)(hU:∀n∈U,n<4611686018427387904)
 (hfind:∀d,AskC E p encc tupc nx f U d→FindC 17 #[pv km] E p encc tupc nx f U d):∀d,AskC E p encc tupc nx f U d:=by
 have hhit:∀(w:World) (n:Nat) (S:Nat→Prop) (M:Nat→Option (Option Cst)) (nn:Nat) (e:Option Cst),M n=some e→Rem p encc w nn M→Memo nx f U S M→(∀q,S q→Anc nx f q n)→n∈U→
  Calls Tryz.prog p.qf #[.int .i64 n,pv p.kA,pv p.kF,pv p.kQ] w fun r w'=>r=.returned (tupc (ev nx f U n))∧Aft p encc nx f U S M nn w w':=by
  intro w n S M nn e hM hR hS hA hn;rw[←hS.at_ hA hM];exact hitc_any p hp n (hU n hn) M nn e hM w hR _ (fun w' hR' hk=>⟨M,nn,hR',hS,More.refl M,Nat.le_refl _,hk⟩)
 intro d
 induction d with
 |zero=>
  intro w n S M nn hEw hR hS hA hn hl hb
  cases hM:M n with
  |some e=>exact hhit w n S M nn e hM hR hS hA hn
  |none=>exact absurd (left_set hn hM none) (by omega)
 |succ d ih=>
  intro w n S M nn hEw hR hS hA hn hl hb
  cases hM:M n with
  |some e=>exact hhit w n S M nn e hM hR hS hA hn
  |none=>
   have hlt:=left_set hn hM none;have hfd:=fun W (h2:Rem p encc W (nn+1) (setM M n none)) (h1:Kp (fun k=>k=p.b) w W)=>hfind d ih W n S (setM M n none) (nn+1) (hE w W hEw h1) h2 (hS.begin n) hA hn (by omega) (by omega)
   have hh:Calls Tryz.prog p.qf #[.int .i64 n,pv p.kA,pv p.kF,pv p.kQ] w fun r w'=>r=.returned (tupc (ev nx f U n))∧∃M' nn',Rem p encc w' (nn'+1) (setM M' n (ev nx f U n))∧Memo nx f U (fun x=>S x∨x=n) M'∧More (setM M n none) M'∧nn'+2*left U M'≤nn+1+2*left U (setM M n none)∧Kp (fun k=>k=p.b) w w':=by
    revert hfd
    cases ev nx f U n with
    |some v=>exact fun hfd=>missc_some km p hp hf nx f U _ n (hU n hn) M nn v hM w hR (by omega) hfd
    |none=>exact fun hfd=>missc_none km p hp hf nx f U _ n (hU n hn) M nn hM w hR (by omega) hfd
   refine hh.mono ?_;rintro r w' ⟨e1,M',nn',h1,h2,h3,h4,h5⟩;refine⟨e1,setM M' n (ev nx f U n),nn'+1,h1,h2.done _ rfl,((More.set M n none).trans h3).trans (More.set _ _ _),?_,h5⟩;have:=left_more (U:=U) (More.set M' n (ev nx f U n));omega
theorem remc_any (km:Nat)(w:World):
 Calls Tryz.prog 16 #[.func (.func 17) #[] #[.pointer (some ⟨km,0,none⟩)]] w fun e w'=>∃p:Pl,e=.returned p.qv∧p.qf=32∧p.fv=.func (.func 17) #[] #[pv km]∧Rem p encc w' 0 (fun _=>none)∧Below w.heap.size w w'∧w.heap.size≤p.b:=by
 have hmm:= @run_makeMap Tryz.prog;have b1:Below w.heap.size w (w.alloc (.cells #[.func (.func 17) #[] #[.pointer (some ⟨km,0,none⟩)]] 66)):=(Below.refl _ w).alloc (Nat.le_refl _) _;have b2:=b1.alloc b1.size (.map #[] 0);have b3:=b2.alloc b2.size (.cells #[.map (some (w.heap.size+1))] 105);have b4:=b3.alloc b3.size (.cells #[.nilFunc] 62);have aF:=(((At.new w #[.func (.func 17) #[] #[.pointer (some ⟨km,0,none⟩)]] 66).alloc (.map #[] 0)).alloc (.cells #[.map (some (w.heap.size+1))] 105)).alloc (.cells #[.nilFunc] 62);have aA:=(At.new ((w.alloc (.cells #[.func (.func 17) #[] #[.pointer (some ⟨km,0,none⟩)]] 66)).alloc (.map #[] 0)) #[.map (some (w.heap.size+1))] 105).alloc (.cells #[.nilFunc] 62);have aQ:=At.new (((w.alloc (.cells #[.func (.func 17) #[] #[.pointer (some ⟨km,0,none⟩)]] 66)).alloc (.map #[] 0)).alloc (.cells #[.map (some (w.heap.size+1))] 105)) #[.nilFunc] 62;have aM:MpIn ((((w.alloc (.cells #[.func (.func 17) #[] #[.pointer (some ⟨km,0,none⟩)]] 66)).alloc (.map #[] 0)).alloc (.cells #[.map (some (w.heap.size+1))] 105)).alloc (.cells #[.nilFunc] 62)) (w.heap.size+1) 0 encc (fun _=>none):=by
  have m0:=mp_made (w.alloc (.cells #[.func (.func 17) #[] #[.pointer (some ⟨km,0,none⟩)]] 66)) encc;have e:(w.alloc (.cells #[.func (.func 17) #[] #[.pointer (some ⟨km,0,none⟩)]] 66)).heap.size=w.heap.size+1:=by simp
  rw[e]at m0;exact(m0.below ((Below.refl _ _).alloc (Nat.le_refl _) _)).below ((Below.refl _ _).alloc (Nat.le_refl _) _)
 have e2:((w.alloc (.cells #[.func (.func 17) #[] #[.pointer (some ⟨km,0,none⟩)]] 66)).alloc (.map #[] 0)).heap.size=w.heap.size+1+1:=by simp
 have e3:(((w.alloc (.cells #[.func (.func 17) #[] #[.pointer (some ⟨km,0,none⟩)]] 66)).alloc (.map #[] 0)).alloc (.cells #[.map (some (w.heap.size+1))] 105)).heap.size=w.heap.size+1+1+1:=by simp
 rw[e2]at aA;rw[e3]at aQ;replace aM:=ζ aM;replace aA:=ζ aA;replace aQ:=ζ aQ;replace aF:=ζ aF;replace b4:=ζ b4;clear b1 b2 b3 e2 e3;go_enter Tryz.func16,Tryz.ntmps16;go_upto_region 3 with fail
 refine wp_world (fun W=>At W w.heap.size #[.func (.func 17) #[] #[.pointer (some ⟨km,0,none⟩)]]∧At W (w.heap.size+1+1) #[.map (some (w.heap.size+1))]∧At W (w.heap.size+1+1+1) #[.nilFunc]∧MpIn W (w.heap.size+1) 0 encc (fun _=>none)∧Below w.heap.size w W) ⟨aF.out,aA.out,aQ.out,aM.out,b4.out⟩ ?_;clear aF aA aQ aM b4 hmm;rintro W ⟨aF,aA,aQ,aM,hB⟩;have⟨l3,p3,f3⟩:=aQ;have hk:=kp_sets W (w.heap.size+1+1+1) [.func (.func 32) #[] #[.pointer (some ⟨w.heap.size+1+1,0,none⟩),.pointer (some ⟨w.heap.size,0,none⟩),.pointer (some ⟨w.heap.size+1+1+1,0,none⟩)]] 0;have hfin:=ζ (At.setAll (cs:=[.nilFunc]) aQ [.func (.func 32) #[] #[.pointer (some ⟨w.heap.size+1+1,0,none⟩),.pointer (some ⟨w.heap.size,0,none⟩),.pointer (some ⟨w.heap.size+1+1+1,0,none⟩)]] rfl);have gF:=ζ (at_keep aF hk (by omega));have gA:=ζ (at_keep aA hk (by omega));have gM:=ζ (aM.keep hk (by omega));have gB:=ζ (hB.trans (hk.below hB.size (fun k q=>by omega)))
 clear hk aF aA aM;replace hB:=ζ hB;have hmf:∀(fn:Fn) (first cap:Array Value) (w:World),(Instr.makeFunc fn first cap).run Tryz.prog w=.ok (.func fn first cap) w:=fun _ _ _ _=>rfl
 go_wp2_with fail;have⟨_,q3,_⟩:=hfin.out;go_ret;exact⟨⟨w.heap.size+1+1,w.heap.size,w.heap.size+1+1+1,w.heap.size+1,.func (.func 17) #[] #[.pointer (some ⟨km,0,none⟩)],32⟩,rfl,rfl,rfl,⟨gA.out,gF.out,hfin.out,gM.out⟩,gB.out,by show w.heap.size≤w.heap.size+1;omega⟩
def cs4:Option Cst→List Value
 |some v=>[.bool true,.int .u64 v.s,.int .u64 v.c,.int .u64 v.i]
 |none=>[.bool false,.int .u64 0,.int .u64 0,.int .u64 0]
theorem cs4_len (x:Option Cst):(cs4 x).length=4:=by cases x<;>rfl
structure Cr (w:World)(kr n:Nat)(F:Nat→Option Cst):Prop where
 lt:kr<w.heap.size
 fr:∀o,w.frozen? ⟨kr,o,none⟩=false
 c:∀g,g<n→∀i,i<4→w.cell? ⟨kr,g*4+i,none⟩=(cs4 (F g))[i]?
theorem Cr.keep {S:Nat→Prop}{w w':World}{kr n:Nat}{F:Nat→Option Cst}(h:Cr w kr n F)(hk:Kp S w w')(hn:¬S kr):Cr w' kr n F:=by
 have hb:=hk.block kr h.lt hn;refine⟨Nat.lt_of_lt_of_le h.lt hk.size,fun o=>?_,fun g hg i hi=>?_⟩
 ·rw[←h.fr o];simp only[World.frozen?,hb]
 ·rw[←h.c g hg i hi];simp only[World.cell?,hb]
theorem Cr.new (w:World)(n:Nat)(t:TypeId):Cr (w.alloc (.cells (madeCells (Value.cells (.agg #[.bool false,.int .u64 0,.int .u64 0,.int .u64 0])) (n*4)) t)) w.heap.size n (fun _=>none):=by
 have a:=At.new w (madeCells (Value.cells (.agg #[.bool false,.int .u64 0,.int .u64 0,.int .u64 0])) (n*4)) t;refine⟨a.1,a.2.2,fun g hg i hi=>?_⟩;rw[a.2.1];have h:g*4+i<n*4:=by omega
 have hz:(Value.cells (.agg #[.bool false,.int .u64 0,.int .u64 0,.int .u64 0]))=#[.bool false,.int .u64 0,.int .u64 0,.int .u64 0]:=by kernel_rfl
 rw[hz];simp only[madeCells,Array.getElem?_map,Array.getElem?_range,h,if_true,Option.map_some];have e:(g*4+i)%4=i:=by omega
 show some (#[Value.bool false,.int .u64 0,.int .u64 0,.int .u64 0][(g*4+i)%4]!)=_;rw[e];obtain rfl|rfl|rfl|rfl:i=0∨i=1∨i=2∨i=3:=by omega
 all_goals rfl
theorem Cr.put {w:World}{kr n:Nat}{F:Nat→Option Cst}(h:Cr w kr n F){g:Nat}(hg:g<n)(x:Option Cst):Cr (w.setCells kr (g*4) (cs4 x)) kr n (fun q=>if q=g then x else F q):=by
 refine⟨?_,fun o=>?_,fun q hq i hi=>?_⟩
 ·exact Nat.lt_of_lt_of_le h.lt (kp_sets w kr (cs4 x) (g*4)).size
 ·rw[World.frozen?_setCells];exact h.fr o
 ·by_cases e:q=g
  ·subst e;rw[if_pos rfl,World.cell?_setCells_in kr (cs4 x) _ w (fun j hj=>by
    rw[cs4_len]at hj;rw[h.c q hq j hj,List.getElem?_eq_getElem (by rw[cs4_len];exact hj)];rfl) i (by rw[cs4_len];exact hi),List.getElem?_eq_getElem (by rw[cs4_len];exact hi)]
  ·rw[if_neg e,World.cell?_setCells_out kr _ _ w ⟨kr,q*4+i,none⟩ (fun _ _=>by rw[cs4_len];show q*4+i<g*4∨g*4+4≤q*4+i;omega)];exact h.c q hq i hi
theorem make_costs (n:Nat)(hn:n≤2000000)(w:World):(Instr.makeSlice 110 (.int .i64 n) (.int .i64 n)).run Tryz.prog w=.ok (.slice (some ⟨w.heap.size,0,none⟩) n n) (w.alloc (.cells (madeCells (Value.cells (.agg #[.bool false,.int .u64 0,.int .u64 0,.int .u64 0])) (n*4)) 42)):=by
 obtain⟨i0,hi0,hz0,hz1,hz2⟩:=F.info_parts' (t:=42) (z:=.agg #[.bool false,.int .u64 0,.int .u64 0,.int .u64 0]) (s:=4) (b:=32) (by kernel_rfl);have h:=run_make (P:=Tryz.prog) w 110 42 i0 (.agg #[.bool false,.int .u64 0,.int .u64 0,.int .u64 0]) Tryz.underlying110 hi0 hz0 .i64 .i64 n n (by omega) (by omega) (by rw[hz2];omega) (by omega);rw[hz1,Int.toNat_natCast]at h;exact h
def sF (F:Nat→Option Cst)(g:Nat):Int:=match F g with|some v=>v.s|none=>0
def iF (F:Nat→Option Cst)(g:Nat):Int:=match F g with|some v=>v.i|none=>0
theorem Cr.costIn {w:World}{kr n B:Nat}{F:Nat→Option Cst}(h:Cr w kr n F)(hB:kr<B):CostIn B w (some ⟨kr,0,none⟩) n (sF F) (iF F):=by
 refine .inr ⟨kr,rfl,hB,h.lt,fun g hg=>?_⟩;have c0:=h.c g hg 0 (by omega);have c1:=h.c g hg 1 (by omega);have c2:=h.c g hg 2 (by omega);have c3:=h.c g hg 3 (by omega);unfold sF iF
 cases hF:F g with
 |some v=>
  rw[hF]at c0 c1 c2 c3;exact⟨true,v.c,c0,c1,c2,c3⟩
 |none=>
  rw[hF]at c0 c1 c2 c3;exact⟨false,0,c0,c1,c2,c3⟩
def mcL (l:List Cst):Int:=l.foldl (fun a d=>max a (IntKind.u64.wrap (d.c+1))) 0
theorem mcL_snoc (l:List Cst)(x:Cst):mcL (l++[x])=max (mcL l) (IntKind.u64.wrap (x.c+1)):=by unfold mcL;rw[List.foldl_append];rfl
def rowF (N:List Nat)(vs:List Cst):Nat→Option Cst:=(N.zip vs).foldl (fun F gv=>fun q=>if q=gv.1 then some gv.2 else F q) (fun _=>none)
theorem zip_snoc (x:Cst):∀(N:List Nat) (vs:List Cst) (h:vs.length<N.length),N.zip (vs++[x])=N.zip vs++[(N[vs.length],x)]
 |[],vs,h=>by simp at h
 |a::N,[],h=>by simp
 |a::N,v::vs,h=>by
  have h2:vs.length<N.length:=by simpa using h
  have:=zip_snoc x N vs h2;simp only[List.cons_append,List.zip_cons_cons,List.length_cons,List.getElem_cons_succ];rw[this]
theorem rowF_snoc (N:List Nat)(vs:List Cst)(x:Cst)(h:vs.length<N.length):rowF N (vs++[x])=fun q=>if q=N[vs.length]then some x else rowF N vs q:=by
 unfold rowF;rw[zip_snoc x N vs h,List.foldl_append]
 rfl
noncomputable def ctF (m:PImg) (n:Nat) (vs:List Cst):Option Cst:=
 match sumS (gcode m n) (stF (gcode m n) (sF (rowF (nxG m n) vs))) (gent m n).toNat with
 |none=>none
 |some s=>if 1099511627776<s then none else some ⟨s,mcL vs,(sumS (gcode m n) (inF (gcode m n) (iF (rowF (nxG m n) vs))) (gent m n).toNat).getD 0⟩
theorem at_past {w w':World}{k:Nat}{a:Array Value}(h:At w k a)(q:Below w.heap.size w w'):At w' k a:=at_keep h (Kp.of_below (S:=fun _=>False) q) id
theorem Cr.past {w w':World}{kr n:Nat}{F:Nat→Option Cst}(h:Cr w kr n F)(q:Below w.heap.size w w'):Cr w' kr n F:=h.keep (Kp.of_below (S:=fun _=>False) q) id
theorem bl_alloc (w:World)(o:Obj):Below w.heap.size w (w.alloc o):=(Below.refl _ _).alloc (Nat.le_refl _) _
theorem bl_drew (w:World):Below w.heap.size w w.drew:=(Below.refl _ _).drew
structure Reg (B n:Nat)(L:List Ins)(ka:Option Addr)(kc kt kr:Nat)(W Y:World):Prop where
 t:At Y kt #[.slice ka L.length kc,.slice (some ⟨kr,0,none⟩) n n]
 r:Cr Y kr n (fun _=>none)
 l:LIn B Y ka L
 b:Below W.heap.size W Y
 t0:W.heap.size≤kt
 r0:W.heap.size≤kr
 ne:kt≠kr
@[reducible] def rwO (n:Nat):Obj:=.cells (madeCells #[Value.bool false,.int .u64 0,.int .u64 0,.int .u64 0] (n*4)) 42
@[reducible] def taO:Obj:=.cells #[.slice none 0 0,.slice none 0 0] 112
@[reducible] def tvO (n:Nat) (L:List Ins) (ka:Option Addr) (kc kr:Nat):Obj:=.cells #[.slice ka L.length kc,.slice (some ⟨kr,0,none⟩) n n] 112
theorem cr_new (w:World)(n:Nat):Cr (w.alloc (rwO n)) w.heap.size n (fun _=>none):=Cr.new w n _
theorem cr_next (w:World)(o:Obj)(n:Nat):Cr ((w.alloc o).alloc (rwO n)) (w.heap.size+1) n (fun _=>none):=by
 have:=cr_new (w.alloc o) n;have e:(w.alloc o).heap.size=w.heap.size+1:=by simp
 rwa [e]at this
section
variable {B n:Nat} {L:List Ins} {ka:Option Addr} {kc:Nat} {W w1:World} (hB:B≤w1.heap.size) (q0:LIn B w1 ka L) (Q1:Below W.heap.size W w1)
include hB q0 Q1
theorem reg1:Reg B n L ka kc (w1.heap.size+1) w1.heap.size W ((w1.alloc (rwO n)).alloc (tvO n L ka kc w1.heap.size)):=by
 have hb:Below w1.heap.size w1 ((w1.alloc (rwO n)).alloc (tvO n L ka kc w1.heap.size)):=(bl_alloc _ _).trans ((bl_alloc _ _).mono (by simp));exact⟨At.next w1 _ _ _,(cr_new w1 n).past (bl_alloc _ _),q0.below (hb.mono hB),Q1.trans (hb.mono Q1.size),by have:=Q1.size;omega,Q1.size,by omega⟩
theorem reg2:Reg B n L ka kc w1.heap.size (w1.heap.size+1) W ((w1.alloc (tvO n L ka kc (w1.heap.size+1))).alloc (rwO n)):=by
 have hb:Below w1.heap.size w1 ((w1.alloc (tvO n L ka kc (w1.heap.size+1))).alloc (rwO n)):=(bl_alloc _ _).trans ((bl_alloc _ _).mono (by simp));exact⟨at_past (At.new w1 _ _) (bl_alloc _ _),cr_next w1 _ n,q0.below (hb.mono hB),Q1.trans (hb.mono Q1.size),Q1.size,by have:=Q1.size;omega,by omega⟩
theorem reg3 (hW:W.heap.size<w1.heap.size)(q1:Below (W.alloc (rwO n)).drew.heap.size (W.alloc (rwO n)).drew w1):Reg B n L ka kc w1.heap.size W.heap.size W (w1.alloc (tvO n L ka kc W.heap.size)):=by
 exact⟨At.new w1 _ _,(((cr_new W n).past (bl_drew _)).past q1).past (bl_alloc _ _),q0.below ((bl_alloc _ _).mono hB),Q1.trans ((bl_alloc _ _).mono Q1.size),Q1.size,Nat.le_refl _,by omega⟩
theorem reg4 (hW:B≤W.heap.size)(q1:Below ((W.alloc (rwO n)).alloc taO).drew.heap.size ((W.alloc (rwO n)).alloc taO).drew w1):Reg B n L ka kc (W.heap.size+1) W.heap.size W (w1.setCells (W.heap.size+1) 0 [.slice ka L.length kc,.slice (some ⟨W.heap.size,0,none⟩) n n]):=by
 have hk:=kp_sets w1 (W.heap.size+1) [.slice ka L.length kc,.slice (some ⟨W.heap.size,0,none⟩) n n] 0;have hb:=hk.below Q1.size (fun k q=>by omega);have ha:At w1 (W.heap.size+1) #[.slice none 0 0,.slice none 0 0]:=at_past (at_past (At.next W _ _ _) (bl_drew _)) q1;exact⟨At.setAll (cs:=[.slice none 0 0,.slice none 0 0]) ha _ rfl,((((cr_new W n).past (bl_alloc _ _)).past (bl_drew _)).past q1).keep hk (by omega),q0.below (hk.below hB (fun k q=>by omega)),Q1.trans hb,by omega,Nat.le_refl _,by omega⟩
theorem reg5 (hW:B≤W.heap.size)(q1:Below (W.alloc taO).drew.heap.size (W.alloc taO).drew w1):Reg B n L ka kc W.heap.size w1.heap.size W ((w1.setCells W.heap.size 0 [.slice ka L.length kc,.slice (some ⟨w1.heap.size,0,none⟩) n n]).alloc (rwO n)):=by
 have hk:=kp_sets w1 W.heap.size [.slice ka L.length kc,.slice (some ⟨w1.heap.size,0,none⟩) n n] 0;have hb:=hk.below Q1.size (fun k q=>by omega);have ha:At w1 W.heap.size #[.slice none 0 0,.slice none 0 0]:=at_past (at_past (At.new W _ _) (bl_drew _)) q1;have hs:(w1.setCells W.heap.size 0 [.slice ka L.length kc,.slice (some ⟨w1.heap.size,0,none⟩) n n]).heap.size=w1.heap.size:=setCells_size _ _ _ _;have hr:=cr_new (w1.setCells W.heap.size 0 [.slice ka L.length kc,.slice (some ⟨w1.heap.size,0,none⟩) n n]) n;rw[hs]at hr;have hlt:=ha.1;exact⟨at_past (At.setAll (cs:=[.slice none 0 0,.slice none 0 0]) ha _ rfl) (bl_alloc _ _),hr,(q0.below (hk.below hB (fun k q=>by omega))).below ((bl_alloc _ _).mono (by rw[hs];exact hB)),(Q1.trans hb).trans ((bl_alloc _ _).mono (by rw[hs];exact Q1.size)),Nat.le_refl _,Q1.size,by omega⟩
theorem reg6 (hW:B≤W.heap.size)(q1:Below ((W.alloc taO).alloc (rwO n)).drew.heap.size ((W.alloc taO).alloc (rwO n)).drew w1):Reg B n L ka kc W.heap.size (W.heap.size+1) W (w1.setCells W.heap.size 0 [.slice ka L.length kc,.slice (some ⟨W.heap.size+1,0,none⟩) n n]):=by
 have hk:=kp_sets w1 W.heap.size [.slice ka L.length kc,.slice (some ⟨W.heap.size+1,0,none⟩) n n] 0;have hb:=hk.below Q1.size (fun k q=>by omega);have ha:At w1 W.heap.size #[.slice none 0 0,.slice none 0 0]:=at_past (at_past (at_past (At.new W _ _) (bl_alloc _ _)) (bl_drew _)) q1;exact⟨At.setAll (cs:=[.slice none 0 0,.slice none 0 0]) ha _ rfl,(((cr_next W _ n).past (bl_drew _)).past q1).keep hk (by omega),q0.below (hk.below hB (fun k q=>by omega)),Q1.trans hb,Nat.le_refl _,by omega,by omega⟩
end
structure CTurn (B:Nat)(N:List Nat)(lo:Nat)(v:Value)(n:Nat)(L:List Ins)(ka:Option Addr)(kc kt kr ko k0:Nat)(im:Array Value)(F:Nat→Option Cst)(c:Int)(wr:World):Prop where
 v:IOwn wr lo v (N.map (fun q:Nat=>(q:Int)))
 r:Cr wr kr n F
 o:At wr ko #[.bool true,.int .u64 0,.int .u64 c,.int .u64 0]
 t:At wr kt #[.slice ka L.length kc,.slice (some ⟨kr,0,none⟩) n n]
 i:At wr k0 im
 z:At wr (k0+1) #[.bool false,.int .u64 0,.int .u64 0,.int .u64 0]
 l:LIn B wr ka L
 s:wr.heap.size≥lo
theorem CTurn.kp {B:Nat}{N:List Nat}{lo:Nat}{v:Value}{n:Nat}{L:List Ins}{ka:Option Addr}{kc kt kr ko k0:Nat}{im:Array Value}{F:Nat→Option Cst}{c:Int}{wr w2:World}{S:Nat→Prop}(h:CTurn B N lo v n L ka kc kt kr ko k0 im F c wr)(hk:Kp S wr w2)(hB:B≤wr.heap.size)(h0:∀k,S k→B≤k∧k<lo∧k≠kr∧k≠ko∧k≠kt∧k≠k0∧k≠k0+1):CTurn B N lo v n L ka kc kt kr ko k0 im F c w2:=
 ⟨own_kp' h.v hk (fun g hg q=>by have:=(h.v.lt g hg).1;have:=(h0 g q).2.1;omega),h.r.keep hk (fun q=>(h0 _ q).2.2.1 rfl),at_keep h.o hk (fun q=>(h0 _ q).2.2.2.1 rfl),at_keep h.t hk (fun q=>(h0 _ q).2.2.2.2.1 rfl),at_keep h.i hk (fun q=>(h0 _ q).2.2.2.2.2.1 rfl),at_keep h.z hk (fun q=>(h0 _ q).2.2.2.2.2.2 rfl),h.l.below (hk.below hB (fun k q=>(h0 k q).1)),Nat.le_trans h.s hk.size⟩
theorem rowF_nil (N:List Nat):rowF N []=fun _=>none:=by unfold rowF;cases N<;>rfl
theorem aft_above {ε:Type}{p:Pl}{enc:Option ε→Value}{nx:Nat→List Nat}{f:Nat→List ε→Option ε}{U:List Nat}{S S':Nat→Prop}{M M0:Nat→Option (Option ε)}{nn n0:Nat}{w wr w2:World}(h0:Rem p enc w n0 M0)(h:Aft p enc nx f U S M nn w wr)(hk:Kp S' wr w2)(hS:∀k,S' k→w.heap.size≤k):Aft p enc nx f U S M nn w w2:=by
 obtain⟨M',nn',r1,r2,r3,r4,r5⟩:=h;exact⟨M',nn',r1.above h0 hk hS,r2,r3,r4,r5.trans hk (fun k q=>.inr (hS k q))⟩
theorem cut_r {X Y:Prop}(h:T.Hid X→Y)(x:X):Y:=h ⟨x⟩
theorem costOf_any (B km:Nat)(m:PImg)(ra:Option Addr)(rc:Nat)(ca:Option Addr)(cc:Nat)(ga:Option Addr)(gc:Nat)(hok:BOk m)(p:Pl)(hp:p.qf=32)(hbB:B≤p.b)(hkm:km≠p.b)(d:Nat)
 (hask:AskC (IEnv B km m ra rc ca cc ga gc) p encc tupc (nxG m) (ctF m) (List.range m.gates.length) d)
 (w:World)(n:Nat)(S:Nat→Prop)(M:Nat→Option (Option Cst))(nn:Nat)(hE:IEnv B km m ra rc ca cc ga gc w)(hR:Rem p encc w nn M)(hS:Memo (nxG m) (ctF m) (List.range m.gates.length) (fun x=>S x∨x=n) M)(hA:∀q,S q→Anc (nxG m) (ctF m) q n)(hn:n∈List.range m.gates.length)(hl:left (List.range m.gates.length) M≤d)(hb:nn+2*left (List.range m.gates.length) M≤1000000):
 Calls Tryz.prog 18 #[imA m ra rc ca cc ga gc,.int .i64 n,p.qv] w fun r w'=>r=.returned (tupc (ev (nxG m) (ctF m) (List.range m.gates.length) n))∧Aft p encc (nxG m) (ctF m) (List.range m.gates.length) (fun x=>S x∨x=n) M nn w w':=by
 have hU:=nxG_in hok;have hqv:p.qv=.func (.func 32) #[] #[.pointer (some ⟨p.kA,0,none⟩),.pointer (some ⟨p.kF,0,none⟩),.pointer (some ⟨p.kQ,0,none⟩)]:=by unfold Pl.qv pv;rw[hp]
 rw[hqv];have hn2:=List.mem_range.1 hn;obtain⟨k,hk,hgc,hgr⟩:=hok.gates n hn2;obtain⟨hcl,hco⟩:=hok.code k hk;have hgl16:=hok.gl;have hCo:=ζ (fun W (q:Below w.heap.size w W)=>codeOf_any B m ra ca ga rc cc gc n k hn2 hk hgc W (hE.m.below (q.mono hE.le)) (Nat.le_trans hE.le q.size));have hNx:=ζ (fun W (q:Below w.heap.size w W)=>calledBy_any m ra ca ga rc cc gc n k hn2 hk hgc (by omega) hco W (((hE.m.mono hE.le).below q).mono q.size));have hNl:(nxG m n).length≤2000:=by
  rw[nxG_of hn2 hk hgc];have:=calL_len m.comps[k].code m.gates[n].e;omega
 rw[←nxG_of hn2 hk hgc]at hNx;have hq:=ζ (fun W (e:IEnv B km m ra rc ca cc ga gc W) (M':Nat→Option (Option Cst)) (nn':Nat) (h1:Rem p encc W nn' M') (h2:Memo (nxG m) (ctF m) (List.range m.gates.length) (fun x=>S x∨x=n) M') (h3:More M M') (h4:nn'+2*left (List.range m.gates.length) M'≤nn+2*left (List.range m.gates.length) M) (c:Nat) (hc:c∈nxG m n)=>hask W c (fun x=>S x∨x=n) M' nn' e h1 h2 (fun q hq=>by
  rcases hq with hq|hq
  ·exact(hA q hq).trans (anc_child hc)
  ·subst hq;exact anc_child hc) (hU n hn c hc) (Nat.le_trans (left_more h3) hl) (by omega))
 rw[hp]at hq;unfold pv at hq;have evd:∀vs:List Cst,(nxG m n).map (ev (nxG m) (ctF m) (List.range m.gates.length))=vs.map some→ev (nxG m) (ctF m) (List.range m.gates.length) n=ctF m n vs:=fun vs h=>ev_known hU hn h
 have evn:∀c,c∈nxG m n→ev (nxG m) (ctF m) (List.range m.gates.length) c=none→ev (nxG m) (ctF m) (List.range m.gates.length) n=none:=fun c hc h=>ev_none hU hn hc h
 have hstart:Aft p encc (nxG m) (ctF m) (List.range m.gates.length) (fun x=>S x∨x=n) M nn w w:=⟨M,nn,hR,hS,More.refl M,Nat.le_refl _,Kp.refl _ _⟩;have hEk:=ζ (fun W (q:Kp (fun k=>k=p.b) w W)=>hE.keep q hbB hkm);have hpb:=hR.m.lt;obtain⟨bg,offg,xa,xc,ya,yc,hga,hbg1,hbg2,_,hge, -⟩:=hE.m.gates n hn2;subst hga;have hin:(n:Int)<(m.gates.length:Int):=by omega
 have hgin:∀c∈nxG m n,c<m.gates.length:=fun c hc=>List.mem_range.1 (hU n hn c hc)
 rw[←gcode_of hn2 hk hgc]at hCo hco hcl hgr;rw[←gent_of hn2]at hge hgr;have hle:=ζ hE.le;have hct:=ζ (fun vs=>(show ctF m n vs=match sumS (gcode m n) (stF (gcode m n) (sF (rowF (nxG m n) vs))) (gent m n).toNat with
  |none=>none
  |some s=>if 1099511627776<s then none else some ⟨s,mcL vs,(sumS (gcode m n) (inF (gcode m n) (iF (rowF (nxG m n) vs))) (gent m n).toNat).getD 0⟩from rfl))
 replace hE:=ζ hE;replace hS:=ζ hS;replace hR:=ζ hR;replace hA:=ζ hA;replace hU:=ζ hU;replace hn:=ζ hn;replace hstart:=ζ hstart;replace evd:=ζ evd;replace evn:=ζ evn;replace hco:=ζ hco;replace hgin:=ζ hgin;clear hask hqv hb hl hgc hk hok;generalize hN:nxG m n=N at*;generalize hev:ev (nxG m) (ctF m) (List.range m.gates.length)=evv at*;generalize List.range m.gates.length=U at*;generalize gcode m n=L at*;generalize gent m n=e0 at*;unfold imA at*;go_enter Tryz.func18,Tryz.ntmps18;go_upto_region 1 with fail
 refine wp_world (fun W=>At W w.heap.size #[.slice ra m.regs.length rc,.slice ca m.comps.length cc,.slice (some ⟨bg,offg,none⟩) m.gates.length gc,.int .i64 m.depth]∧At W (w.heap.size+1) #[.bool false,.int .u64 0,.int .u64 0,.int .u64 0]∧Below w.heap.size w W) ⟨(At.new w _ _).alloc _,by simpa using At.new (w.alloc (.cells #[.slice ra m.regs.length rc,.slice ca m.comps.length cc,.slice (some ⟨bg,offg,none⟩) m.gates.length gc,.int .i64 m.depth] 40)) #[.bool false,.int .u64 0,.int .u64 0,.int .u64 0] 42,((Below.refl _ _).alloc (Nat.le_refl _) _).alloc (by simp) _⟩ ?_;rintro W ⟨A0,A1,hB⟩;have hWs:=hB.size;have KS:∀X,Below W.heap.size W X→X.cell? ⟨w.heap.size,0,none⟩=some (.slice ra m.regs.length rc)∧X.cell? ⟨w.heap.size,1,none⟩=some (.slice ca m.comps.length cc)∧X.cell? ⟨w.heap.size,2,none⟩=some (.slice (some ⟨bg,offg,none⟩) m.gates.length gc)∧X.cell? ⟨w.heap.size,3,none⟩=some (.int .i64 m.depth):=fun X q=>by
  have a:=(at_keep A0 (Kp.of_below (S:=fun _=>False) q) id).2.1;exact⟨a 0,a 1,a 2,a 3⟩
 replace A0:=ζ A0;replace A1:=ζ A1;replace hB:=ζ hB;replace KS:=ζ KS;have hBW:B≤W.heap.size:=Nat.le_trans hle.out hWs;have hmk:=make_costs m.gates.length (by omega);apply cut_r
 ·intro key;go_region_held3 (fun X=>X.cell? ⟨w.heap.size,0,none⟩=some (.slice ra m.regs.length rc)∧X.cell? ⟨w.heap.size,1,none⟩=some (.slice ca m.comps.length cc)∧X.cell? ⟨w.heap.size,2,none⟩=some (.slice (some ⟨bg,offg,none⟩) m.gates.length gc)∧X.cell? ⟨w.heap.size,3,none⟩=some (.int .i64 m.depth)) ((refine KS.out _ ?_;(repeat(first|with_reducible assumption|with_reducible exact Below.refl _ _|with_reducible refine Below.alloc ?_ (by first|omega|(simp<;>omega)) _|with_reducible refine Below.setCell ?_ (by first|omega|(simp<;>omega)) _|with_reducible refine Below.drew ?_)))) (first|(go_at_call 33;refine(hCo.out _ (hB.out.trans (Below.mono (by(repeat(first|with_reducible assumption|with_reducible exact Below.refl _ _|with_reducible refine Below.alloc ?_ (by first|omega|(simp<;>omega)) _|with_reducible refine Below.setCell ?_ (by first|omega|(simp<;>omega)) _|with_reducible refine Below.drew ?_))) hWs))).mono ?_;rintro y w1 ⟨ka,kc,rfl,q0,q1⟩;have Q1:Below W.heap.size W w1:=Below.trans (by(repeat(first|with_reducible assumption|with_reducible exact Below.refl _ _|with_reducible refine Below.alloc ?_ (by first|omega|(simp<;>omega)) _|with_reducible refine Below.setCell ?_ (by first|omega|(simp<;>omega)) _|with_reducible refine Below.drew ?_))) (q1.mono (by simp<;>omega));have Q1s:=Q1.size;(first|(have tA:=at_keep (at_keep (At.new (W.alloc (.cells (madeCells #[Value.bool false,Value.int IntKind.u64 0,Value.int IntKind.u64 0,Value.int IntKind.u64 0] (m.gates.length*4)) 42)) #[.slice none 0 0,.slice none 0 0] 112) (Kp.of_below (S:=fun _=>False) (Below.refl _ _).drew) id) (Kp.of_below (S:=fun _=>False) q1) id;have t0:w1.cell? ⟨W.heap.size+1,0,none⟩=some (.slice none 0 0):=(by simpa using tA.2.1 0);have t1:w1.cell? ⟨W.heap.size+1,1,none⟩=some (.slice none 0 0):=(by simpa using tA.2.1 1);have t2:∀o,w1.frozen? ⟨W.heap.size+1,o,none⟩=false:=(by simpa using tA.2.2);have t3:W.heap.size+1<w1.heap.size:=(by simpa using tA.1))|(have tA:=at_keep (at_keep (At.new W #[.slice none 0 0,.slice none 0 0] 112) (Kp.of_below (S:=fun _=>False) (Below.refl _ _).drew) id) (Kp.of_below (S:=fun _=>False) q1) id;have t0:w1.cell? ⟨W.heap.size,0,none⟩=some (.slice none 0 0):=(by simpa using tA.2.1 0);have t1:w1.cell? ⟨W.heap.size,1,none⟩=some (.slice none 0 0):=(by simpa using tA.2.1 1);have t2:∀o,w1.frozen? ⟨W.heap.size,o,none⟩=false:=(by simpa using tA.2.2);have t3:W.heap.size<w1.heap.size:=(by simpa using tA.1))|(have tA:=at_keep (at_keep (At.new W #[.slice none 0 0,.slice none 0 0] 112) (Kp.of_below (S:=fun _=>False) ((Below.refl _ _).alloc (Nat.le_refl _) _).drew) id) (Kp.of_below (S:=fun _=>False) q1) id;have t0:w1.cell? ⟨W.heap.size,0,none⟩=some (.slice none 0 0):=(by simpa using tA.2.1 0);have t1:w1.cell? ⟨W.heap.size,1,none⟩=some (.slice none 0 0):=(by simpa using tA.2.1 1);have t2:∀o,w1.frozen? ⟨W.heap.size,o,none⟩=false:=(by simpa using tA.2.2);have t3:W.heap.size<w1.heap.size:=(by simpa using tA.1))|skip)))
  all_goals
   have hB1:B≤w1.heap.size:=Nat.le_trans hBW Q1s
  ·have R:=reg1 (n:=m.gates.length) (kc:=kc) hB1 q0 Q1;clear hB1 q0 q1 Q1 Q1s
   rename_i hhe
   clear hhe;generalize w1.heap.size+1=kt at R ⊢;generalize w1.heap.size=kr at R ⊢;revert R;generalize ((w1.alloc (.cells (madeCells #[Value.bool false,.int .u64 0,.int .u64 0,.int .u64 0] (m.gates.length*4)) 42)).alloc (.cells #[.slice ka L.length kc,.slice (some ⟨kr,0,none⟩) m.gates.length m.gates.length] 112))=Y;revert Y kt kr ka kc;exact key.out
  ·exact key.out _ _ _ _ _ (reg2 hB1 q0 Q1)
  ·exact key.out _ _ _ _ _ (reg3 hB1 q0 Q1 (by have:=q1.size;simp at this;omega) q1)
  ·exact key.out _ _ _ _ _ (reg4 hB1 q0 Q1 hBW q1)
  ·exact key.out _ _ _ _ _ (reg5 hB1 q0 Q1 hBW q1)
  ·exact key.out _ _ _ _ _ (reg6 hB1 q0 Q1 hBW q1)
 intro ka kc kt kr Y R;have hYs:=R.b.size;have hA0:=at_past A0.out R.b;have hA1:=at_past A1.out R.b;have hbY:Below w.heap.size w Y:=hB.out.trans (R.b.mono hWs);have t0:=R.t0;have r0:=R.r0;have tlt:=R.t.1;have rlt:=R.r.lt;have rne:=R.ne;replace R:=ζ R;replace hA0:=ζ hA0;replace hA1:=ζ hA1;replace hbY:=ζ hbY;have hW1:=A1.out.1;clear A0 A1 KS hmk hCo hB;go_upto_region 3 with fail
 refine wp_world (fun Z=>At Z Y.heap.size #[.bool true,.int .u64 0,.int .u64 0,.int .u64 0]∧Below Y.heap.size Y Z) ⟨At.new Y _ _,(Below.refl _ _).alloc (Nat.le_refl _) _⟩ ?_;rintro Z ⟨aO,hZ⟩;have hZs:=hZ.size;have olt:=aO.1;have a0:=(at_past hA0.out hZ).2.1;have k0:Z.cell? ⟨w.heap.size,0,none⟩=some (.slice ra m.regs.length rc):=a0 0;have k1:Z.cell? ⟨w.heap.size,1,none⟩=some (.slice ca m.comps.length cc):=a0 1;have k2:Z.cell? ⟨w.heap.size,2,none⟩=some (.slice (some ⟨bg,offg,none⟩) m.gates.length gc):=a0 2;have k3:Z.cell? ⟨w.heap.size,3,none⟩=some (.int .i64 m.depth):=a0 3;have hbZ:Below w.heap.size w Z:=hbY.out.trans (hZ.mono (Nat.le_trans hWs hYs));replace aO:=ζ aO;replace hZ:=ζ hZ;replace hbZ:=ζ hbZ;clear a0;go_upto_region 4 with(go_at_call 34;refine(hNx.out _ hbZ.out).mono ?_;rintro r W1 ⟨v,rfl,y1,y2⟩;obtain⟨va,vc,rfl⟩:=own_slice y1;rw[List.length_map]at y1;replace y1:=ζ y1;replace y2:=ζ y2)
 clear k0 k1 k2 k3;have hb1:Below w.heap.size w W1:=hbZ.out.trans (y2.out.mono (Nat.le_trans hWs (Nat.le_trans hYs hZs)));have st0:CTurn B N Z.heap.size (.slice va N.length vc) m.gates.length L ka kc kt kr Y.heap.size w.heap.size #[.slice ra m.regs.length rc,.slice ca m.comps.length cc,.slice (some ⟨bg,offg,none⟩) m.gates.length gc,.int .i64 m.depth] (fun _=>none) 0 W1:=
  ⟨y1.out,(R.out.r.past hZ.out).past y2.out,at_past aO.out y2.out,at_past (at_past R.out.t hZ.out) y2.out,at_past (at_past hA0.out hZ.out) y2.out,at_past (at_past hA1.out hZ.out) y2.out,(R.out.l.below (hZ.out.mono (by omega))).below (y2.out.mono (by omega)),y2.out.size⟩
 generalize Z.heap.size=lo at*;generalize Y.heap.size=ko at*;replace st0:=ζ st0;replace hb1:=ζ hb1;have hlo:p.b<lo:=by omega
 have hlk:kt<lo∧kr<lo∧ko<lo∧w.heap.size+1<lo:=by have:=hA1.out.1;omega
 clear hZ hbZ aO R hA0 hA1 hbY y1 y2 olt;go_loopw [30] (fun iv wr=>∃(j:Nat) (vs:List Cst),iv=.int .i64 j∧j≤N.length∧Hz (vs.length=j∧(N.take j).map (ev (nxG m) (ctF m) U)=vs.map some∧Aft p encc (nxG m) (ctF m) U (fun x=>S x∨x=n) M nn w wr∧CTurn B N lo (.slice va N.length vc) m.gates.length L ka kc kt kr ko w.heap.size #[.slice ra m.regs.length rc,.slice ca m.comps.length cc,.slice (some ⟨bg,offg,none⟩) m.gates.length gc,.int .i64 m.depth] (rowF N vs) (mcL vs) wr)) (fun iv _=>N.length - (intOf iv).toNat)
 case atStart=>exact⟨0,[],rfl,by omega,ζ ⟨rfl,rfl,aft_below hstart.out hb1.out,by rw[rowF_nil];exact st0.out⟩⟩
 case round=>
  obtain⟨j,vs,rfl,hj,hk⟩:=hrel;obtain⟨rfl,hev0,haft,hcn⟩:=hk.out;clear hk;by_cases hlt:vs.length<N.length
  ·obtain⟨b,off,ena,_,hb2,hc⟩:=own_nin hcn.v vs.length (by rw[List.length_map];exact hlt);subst ena;rw[List.getElem_map]at hc;have hi1:(vs.length:Int)<N.length:=by omega
   obtain⟨M',nn',r1,r2,r3,r4,r5⟩:=haft;have hEr:=hEk.out wr r5;have hmem:N[vs.length]∈N:=List.getElem_mem hlt;have hcall:=hq.out wr hEr M' nn' r1 r2 r3 r4 N[vs.length] hmem;have hnx:∀x,evv N[vs.length]=some x→(N.take (vs.length+1)).map (ev (nxG m) (ctF m) U)=(vs++[x]).map some:=fun x hx=>by
    rw[←hev]at hx;rw[List.take_succ_eq_append_getElem hlt,List.map_append,hev0,List.map_append];simp[hx]
   have hrw:=fun x=>rowF_snoc N vs x hlt
   have hn2:=fun w2 (g:Aft p encc (nxG m) (ctF m) U (fun x=>S x∨x=n) M' nn' wr w2)=>(show Aft p encc (nxG m) (ctF m) U (fun x=>S x∨x=n) M nn w w2∧Kp (fun k=>k=p.b) wr w2 by
    obtain⟨M2,n2,g1,g2,g3,g4,g5⟩:=g;exact⟨⟨M2,n2,g1,g2,r3.trans g3,by omega,r5.trans g5 (fun k q=>.inl q)⟩,g5⟩)
   have hev2:ev (nxG m) (ctF m) U N[vs.length]=evv N[vs.length]:=by rw[hev]
   (try rw[hev2]at hcall)
   have hno:=evn.out N[vs.length] hmem;have hcN:=hgin.out N[vs.length] hmem;have hwr:=r5.size;have hcs:(N[vs.length]:Int)<(m.gates.length:Int):=by omega
   clear hev2 hmem r1 r2 r5 hev0;generalize N[vs.length]=c at*;replace hnx:=ζ hnx;replace hrw:=ζ hrw;replace hn2:=ζ hn2;replace hcn:=ζ hcn;replace hEr:=ζ hEr;replace r3:=ζ r3;replace r4:=ζ r4;have hij:IntKind.i64.wrap ((vs.length:Int)+1)=((vs.length+1:Nat):Int):=by rw[IntKind.wrap_i64];omega
   have hij2:wrap64 ((vs.length:Int)+1)=((vs.length+1:Nat):Int):=by unfold wrap64;omega
   cases hcv:evv c with
   |none=>
    have hem:=hno hcv;rw[hcv]at hcall;unfold tupc at hcall;replace hno:=ζ hno;replace hcall:=ζ hcall;clear hij hij2;go_upto_region 7 with(go_at_call 32;refine hcall.out.mono ?_;rintro r w2 ⟨rfl,g⟩;replace g:=ζ (hn2.out _ g))
    have hz2:=(hcn.out.kp g.out.2 (by omega) (fun k q=>by omega)).z;refine wp_world (fun W3=>Below w2.heap.size w2 W3) (by repeat(first|exact Below.refl _ _|refine Below.alloc ?_ (by simp<;>omega) _|refine Below.setCell ?_ (by simp<;>omega) _)) ?_;intro W3 hB3;have hz3:=at_past hz2 hB3;have hf3:=aft_below g.out.1 hB3;have⟨zl,zp,zf⟩:=hz3;have hfin:=ζ (At.setAll (cs:=[Value.bool false,.int .u64 0,.int .u64 0,.int .u64 0]) hz3 [Value.bool false,.int .u64 0,.int .u64 0,.int .u64 0] rfl);have hkf:=ζ (kp_sets W3 (w.heap.size+1) [Value.bool false,.int .u64 0,.int .u64 0,.int .u64 0] 0);replace hf3:=ζ hf3;clear hz2 hz3 hB3;go_wp2_with fail;have⟨_,q4,_⟩:=hfin.out;simp only[World.setCells]at q4;refine bodyPost_ret (v:=.tuple #[.agg #[.bool false,.int .u64 0,.int .u64 0,.int .u64 0],.bool false]) (by simp[results,Tryz.results18,go_sem,q4]) rfl ?_;refine⟨?_,aft_above hR.out hf3.out hkf.out (fun k q=>by omega)⟩
    rw[hem];rfl
   |some x=>
    rw[hcv]at hcall;unfold tupc at hcall;have hxn:=hnx.out x hcv;have hrx:=hrw.out x;replace hxn:=ζ hxn;replace hrx:=ζ hrx;replace hno:=ζ hno;replace hcall:=ζ hcall;replace hcv:=ζ hcv;replace hij:=ζ hij;replace hij2:=ζ hij2;go_upto_region 7 with(go_at_call 32;refine hcall.out.mono ?_;rintro r w2 ⟨rfl,g⟩;replace g:=ζ (hn2.out _ g))
    have st2:=hcn.out.kp g.out.2 (by omega) (fun k q=>by omega);have hw2:=g.out.2.size;have hs2:=st2.s;refine wp_world (fun W3=>Below w2.heap.size w2 W3∧At W3 w2.heap.size #[.bool true,.int .u64 x.s,.int .u64 x.c,.int .u64 x.i]) ⟨(by repeat(first|exact Below.refl _ _|refine Below.alloc ?_ (by simp<;>omega) _|refine Below.setCell ?_ (by simp<;>omega) _)),At.new w2 _ _⟩ ?_;rintro W3 ⟨hB3,aC⟩;have st3:=st2.kp (Kp.of_below (S:=fun _=>False) hB3) (by omega) (fun k q=>q.elim);have hf3:=aft_below g.out.1 hB3;have hw3:=hB3.size;generalize w2.heap.size=kx at*;have T0:W3.cell? ⟨kt,0,none⟩=some (.slice ka L.length kc):=st3.t.2.1 0;have T1:W3.cell? ⟨kt,1,none⟩=some (.slice (some ⟨kr,0,none⟩) m.gates.length m.gates.length):=st3.t.2.1 1;have C0:W3.cell? ⟨kx,0,none⟩=some (.bool true):=aC.2.1 0;have C1:W3.cell? ⟨kx,1,none⟩=some (.int .u64 x.s):=aC.2.1 1;have C2:W3.cell? ⟨kx,2,none⟩=some (.int .u64 x.c):=aC.2.1 2
    have C3:W3.cell? ⟨kx,3,none⟩=some (.int .u64 x.i):=aC.2.1 3;have R0:∃v,W3.cell? ⟨kr,c*4,none⟩=some v:=⟨_,(st3.r.c c hcN 0 (by omega)).trans (List.getElem?_eq_getElem (by rw[cs4_len];omega))⟩;have R1:∃v,W3.cell? ⟨kr,c*4+1,none⟩=some v:=⟨_,(st3.r.c c hcN 1 (by omega)).trans (List.getElem?_eq_getElem (by rw[cs4_len];omega))⟩;have R2:∃v,W3.cell? ⟨kr,c*4+2,none⟩=some v:=⟨_,(st3.r.c c hcN 2 (by omega)).trans (List.getElem?_eq_getElem (by rw[cs4_len];omega))⟩;have R3:∃v,W3.cell? ⟨kr,c*4+3,none⟩=some v:=⟨_,(st3.r.c c hcN 3 (by omega)).trans (List.getElem?_eq_getElem (by rw[cs4_len];omega))⟩;obtain⟨v0,R0⟩:=R0;obtain⟨v1,R1⟩:=R1;obtain⟨v2,R2⟩:=R2;obtain⟨v3,R3⟩:=R3;have R2':W3.cell? ⟨kr,c*4+1+1,none⟩=some v2:=R2;have R3':W3.cell? ⟨kr,c*4+1+1+1,none⟩=some v3:=R3;have rfz:=st3.r.fr;have rlt3:=st3.r.lt;have tlt3:=st3.t.1;have hput:=st3.r.put hcN (some x);rw[←hrx.out]at hput;have hkr:=kp_sets W3 kr (cs4 (some x)) (c*4)
    replace st3:=ζ st3;replace hf3:=ζ hf3;replace aC:=ζ aC;replace hput:=ζ hput;replace hkr:=ζ hkr;clear st2 hB3 g;go_upto_region 10 with fail
    refine wp_world (fun W4=>Kp (fun k=>k=kr) W3 W4∧Cr W4 kr m.gates.length (rowF N (vs++[x]))) ⟨hkr.out,hput.out⟩ ?_;rintro W4 ⟨hk4,hr4⟩;have o4:=at_keep st3.out.o hk4 (by omega);have t4:=at_keep st3.out.t hk4 (by omega);have i4:=at_keep st3.out.i hk4 (by omega);have z4:=at_keep st3.out.z hk4 (by omega);have l4:=st3.out.l.below (hk4.below (by omega) (fun k q=>by omega));have v4:=own_kp' st3.out.v hk4 (fun g hg q=>by have:=(st3.out.v.lt g hg).1;omega);have c4:=at_keep aC.out hk4 (by omega);have f4:=aft_above hR.out hf3.out hk4 (fun k q=>by omega);have s4:=hk4.size;have O2:W4.cell? ⟨ko,2,none⟩=some (.int .u64 (mcL vs)):=o4.2.1 2;have X2:W4.cell? ⟨kx,2,none⟩=some (.int .u64 x.c):=c4.2.1 2;have ofz:=o4.2.2;have olt:=o4.1;have hms:=mcL_snoc vs x;have hoset:=ζ (show At (W4.setCell ⟨ko,2,none⟩ (.int .u64 (mcL (vs++[x])))) ko #[.bool true,.int .u64 0,.int .u64 (mcL (vs++[x])),.int .u64 0]by
     have:=o4.set 2 (.int .u64 (mcL (vs++[x]))) (by simp);simpa using this)
    have hko:=ζ (Kp.set (S:=fun q=>q=ko) W4 ⟨ko,2,none⟩ (.int .u64 (mcL (vs++[x]))) rfl);rw[hms]at hoset hko;replace hms:=ζ hms;replace t4:=ζ t4;replace i4:=ζ i4;replace z4:=ζ z4;replace l4:=ζ l4;replace v4:=ζ v4;replace f4:=ζ f4;replace hr4:=ζ hr4;replace o4:=ζ o4;clear T0 T1 C0 C1 C2 C3 R0 R1 R2 R3 R2' R3' rfz hput hkr hk4 c4 aC;go_upto_region 11 with fail
    refine wp_world (fun W5=>Kp (fun k=>k=ko) W4 W5∧At W5 ko #[.bool true,.int .u64 0,.int .u64 (mcL (vs++[x])),.int .u64 0]) ⟨hko.out,by rw[hms.out];exact hoset.out⟩ ?_;rintro W5 ⟨hk5,o5⟩;have fin:CTurn B N lo (.slice (some ⟨b,off,none⟩) N.length vc) m.gates.length L ka kc kt kr ko w.heap.size #[.slice ra m.regs.length rc,.slice ca m.comps.length cc,.slice (some ⟨bg,offg,none⟩) m.gates.length gc,.int .i64 m.depth] (rowF N (vs++[x])) (mcL (vs++[x])) W5:=
     ⟨own_kp' v4.out hk5 (fun g hg q=>by have:=(v4.out.lt g hg).1;omega),hr4.out.keep hk5 (by omega),o5,at_keep t4.out hk5 (by omega),at_keep i4.out hk5 (by omega),at_keep z4.out hk5 (by omega),l4.out.below (hk5.below (by omega) (fun k q=>by omega)),by have:=hk5.size;omega⟩
    have f5:=aft_above hR.out f4.out hk5 (fun k q=>by omega);replace fin:=ζ fin;replace f5:=ζ f5;replace hk5:=ζ hk5;replace o5:=ζ o5;clear O2 X2;replace hij:=hij.out;replace hij2:=hij2.out;go_wp2_with fail;clear hij hij2;go_roundw
    case rel=>exact⟨vs.length+1,vs++[x],by simp,by omega,ζ ⟨by simp,hxn.out,f5.out,fin.out⟩⟩
    case measure=>simp only[intOf];omega
  ·have hje:vs.length=N.length:=by omega
   have hi2:¬(vs.length:Int)<N.length:=by omega
   have hi3:(N.length:Int)≤vs.length:=by omega
   have hres:=evd.out vs (by rw[←hev0,hje,List.take_of_length_le (Nat.le_refl _),←hev]);rw[hct.out vs]at hres;have hkw:Kp (fun k=>k=p.b) w wr:=by
    obtain⟨_,_,_,_,_,_,q⟩:=haft;exact q
   have hwr:=hkw.size;have G2:wr.cell? ⟨w.heap.size,2,none⟩=some (.slice (some ⟨bg,offg,none⟩) m.gates.length gc):=hcn.i.2.1 2;have hge':=((hkw.below hle.out (fun k q=>by omega)).cell (p:=⟨bg,offg+n*4+1,none⟩) hbg1).trans hge;have hbg3:bg<wr.heap.size:=by omega
   have T0:wr.cell? ⟨kt,0,none⟩=some (.slice ka L.length kc):=hcn.t.2.1 0;have T1:wr.cell? ⟨kt,1,none⟩=some (.slice (some ⟨kr,0,none⟩) m.gates.length m.gates.length):=hcn.t.2.1 1;have hBwr:B≤wr.heap.size:=by have:=hle.out;omega
   obtain⟨en,rfl⟩:∃en:Nat,e0=(en:Int):=⟨e0.toNat,by omega⟩;rw[Int.toNat_natCast]at hres;have hMs:=fun W (l:LIn W.heap.size W ka L) (q:Cr W kr m.gates.length (rowF N vs))=>most_steps L ka kc (some ⟨kr,0,none⟩) m.gates.length m.gates.length (sF (rowF N vs)) (iF (rowF N vs)) en W l (q.costIn q.lt) hco.out (by omega) (by omega)
   have hMi:=fun W (l:LIn W.heap.size W ka L) (q:Cr W kr m.gates.length (rowF N vs))=>most_inputs L ka kc (some ⟨kr,0,none⟩) m.gates.length m.gates.length (sF (rowF N vs)) (iF (rowF N vs)) en W l (q.costIn q.lt) hco.out (by omega) (by omega)
   have hl0:=hcn.l.mono hBwr;unfold tlA at hMs hMi;generalize sumS L (stF L (sF (rowF N vs))) en=s1 at*;generalize sumS L (inF L (iF (rowF N vs))) en=s2 at*;have hlo4:=hcn.s;replace hl0:=ζ hl0;replace hcn:=ζ hcn;replace haft:=ζ haft;replace hkw:=ζ hkw;replace hMi:=ζ hMi;clear hev0
   cases s1 with
   |none=>
    unfold tupu at hMs;replace hMs:=ζ hMs;replace hres:=ζ hres;go_upto_region 14 with(go_at_call 35;refine(hMs.out _ hl0.out hcn.out.r).mono ?_;rintro r W2 ⟨rfl,g⟩;replace g:=ζ g)
    clear G2 T0 T1 hge';have hz2:=at_past hcn.out.z g.out;have hf2:=aft_below haft.out g.out;have⟨zl,zp,zf⟩:=hz2;have hfin:=ζ (At.setAll (cs:=[Value.bool false,.int .u64 0,.int .u64 0,.int .u64 0]) hz2 [Value.bool false,.int .u64 0,.int .u64 0,.int .u64 0] rfl);have hkf:=ζ (kp_sets W2 (w.heap.size+1) [Value.bool false,.int .u64 0,.int .u64 0,.int .u64 0] 0);replace hf2:=ζ hf2;clear hz2;go_wp2_with fail;have⟨_,q4,_⟩:=hfin.out;simp only[World.setCells]at q4;refine bodyPost_ret (v:=.tuple #[.agg #[.bool false,.int .u64 0,.int .u64 0,.int .u64 0],.bool false]) (by simp[results,Tryz.results18,go_sem,q4]) rfl ?_;refine⟨?_,aft_above hR.out hf2.out hkf.out (fun k q=>by omega)⟩;rw[hres.out];rfl
   |some s=>
    unfold tupu at hMs;replace hMs:=ζ hMs;dsimp only at hres;by_cases hbig:1099511627776<s
    ·rw[if_pos hbig]at hres;replace hres:=ζ hres;go_upto_region 14 with(go_at_call 35;refine(hMs.out _ hl0.out hcn.out.r).mono ?_;rintro r W2 ⟨rfl,g⟩;replace g:=ζ g)
     clear G2 T0 T1 hge';have hz2:=at_past hcn.out.z g.out;have hf2:=aft_below haft.out g.out;have⟨zl,zp,zf⟩:=hz2;have hfin:=ζ (At.setAll (cs:=[Value.bool false,.int .u64 0,.int .u64 0,.int .u64 0]) hz2 [Value.bool false,.int .u64 0,.int .u64 0,.int .u64 0] rfl);have hkf:=ζ (kp_sets W2 (w.heap.size+1) [Value.bool false,.int .u64 0,.int .u64 0,.int .u64 0] 0);replace hf2:=ζ hf2;clear hz2;go_wp2_with fail;have⟨_,q4,_⟩:=hfin.out;simp only[World.setCells]at q4;refine bodyPost_ret (v:=.tuple #[.agg #[.bool false,.int .u64 0,.int .u64 0,.int .u64 0],.bool false]) (by simp[results,Tryz.results18,go_sem,q4]) rfl ?_;refine⟨?_,aft_above hR.out hf2.out hkf.out (fun k q=>by omega)⟩;rw[hres.out];rfl
    ·rw[if_neg hbig]at hres;have hbig2:s≤1099511627776:=by omega
     replace hres:=ζ hres;go_upto_region 14 with(go_at_call 35;refine(hMs.out _ hl0.out hcn.out.r).mono ?_;rintro r W2 ⟨rfl,g⟩;replace g:=ζ g)
     clear G2 T0 T1 hge';have o2:=at_past hcn.out.o g.out;have t2:=at_past hcn.out.t g.out;have z2:=at_past hcn.out.z g.out;have r2:=hcn.out.r.past g.out;have l2:=hcn.out.l.below (g.out.mono hBwr);have f2:=aft_below haft.out g.out;have hw2:=g.out.size;have O1:W2.cell? ⟨ko,1,none⟩=some (.int .u64 0):=o2.2.1 1;have ofz:=o2.2.2;have olt:=o2.1;have hoset:=ζ (show At (W2.setCell ⟨ko,1,none⟩ (.int .u64 s)) ko #[.bool true,.int .u64 s,.int .u64 (mcL vs),.int .u64 0]by
      have:=o2.set 1 (.int .u64 s) (by simp);simpa using this)
     have hko:=ζ (Kp.set (S:=fun q=>q=ko) W2 ⟨ko,1,none⟩ (.int .u64 s) rfl);replace t2:=ζ t2;replace z2:=ζ z2;replace r2:=ζ r2;replace l2:=ζ l2;replace f2:=ζ f2;clear o2;go_upto_region 17 with fail
     refine wp_world (fun W3=>Kp (fun k=>k=ko) W2 W3∧At W3 ko #[.bool true,.int .u64 s,.int .u64 (mcL vs),.int .u64 0]) ⟨hko.out,hoset.out⟩ ?_;rintro W3 ⟨hk3,o3⟩;have t3:=at_keep t2.out hk3 (by omega);have z3:=at_keep z2.out hk3 (by omega);have r3:=r2.out.keep hk3 (by omega);have l3:=l2.out.below (hk3.below (by omega) (fun k q=>by omega));have f3:=aft_above hR.out f2.out hk3 (fun k q=>by omega);have hw3:=hk3.size;have T0:W3.cell? ⟨kt,0,none⟩=some (.slice ka L.length kc):=t3.2.1 0;have T1:W3.cell? ⟨kt,1,none⟩=some (.slice (some ⟨kr,0,none⟩) m.gates.length m.gates.length):=t3.2.1 1;have hcl:=hMi.out W3 (l3.mono (by omega)) r3;replace o3:=ζ o3;replace z3:=ζ z3;replace f3:=ζ f3;clear O1 ofz olt hko hoset t3 r3 l3 hk3 t2 z2 r2 l2 f2
     cases s2 with
     |none=>
      unfold tupu at hcl;replace hcl:=ζ hcl;go_upto_region 18 with(go_at_call 35;refine hcl.out.mono ?_;rintro r W4 ⟨rfl,g4⟩;have O3:W4.cell? ⟨ko,3,none⟩=some (.int .u64 0):=(at_past o3.out g4).2.1 3;have ofz4:=(at_past o3.out g4).2.2;have olt4:=(at_past o3.out g4).1;replace g4:=ζ g4)
      have o4:=at_past o3.out g4.out;have z4:=at_past z3.out g4.out;have f4:=aft_below f3.out g4.out;refine wp_world (fun W5=>Kp (fun k=>k=ko) W4 W5∧At W5 ko #[.bool true,.int .u64 s,.int .u64 (mcL vs),.int .u64 0]) ⟨Kp.set _ ⟨ko,3,none⟩ _ rfl,by simpa using o4.set 3 (.int .u64 0) (by simp)⟩ ?_;rintro W5 ⟨hk5,o5⟩;have z5:=at_keep z4 hk5 (by omega);have f5:=aft_above hR.out f4 hk5 (fun k q=>by omega);have P0:W5.cell? ⟨ko,0,none⟩=some (.bool true):=o5.2.1 0;have P1:W5.cell? ⟨ko,1,none⟩=some (.int .u64 s):=o5.2.1 1;have P2:W5.cell? ⟨ko,2,none⟩=some (.int .u64 (mcL vs)):=o5.2.1 2;have P3:W5.cell? ⟨ko,3,none⟩=some (.int .u64 0):=o5.2.1 3;have⟨zl,zp,zf⟩:=z5;have hfin:=ζ (At.setAll (cs:=[Value.bool false,.int .u64 0,.int .u64 0,.int .u64 0]) z5 [Value.bool true,.int .u64 s,.int .u64 (mcL vs),.int .u64 0] rfl);have hkf:=ζ (kp_sets W5 (w.heap.size+1) [Value.bool true,.int .u64 s,.int .u64 (mcL vs),.int .u64 0] 0)
      replace f5:=ζ f5;clear o4 z4 z5 f4 O3 ofz4 olt4 hk5 o5;go_wp2_with fail;have⟨_,q4,_⟩:=hfin.out;simp only[World.setCells]at q4;refine bodyPost_ret (v:=.tuple #[.agg #[.bool true,.int .u64 s,.int .u64 (mcL vs),.int .u64 0],.bool true]) (by simp[results,Tryz.results18,go_sem,q4]) rfl ?_;refine⟨?_,aft_above hR.out f5.out hkf.out (fun k q=>by omega)⟩;rw[hres.out];rfl
     |some i=>
      unfold tupu at hcl;replace hcl:=ζ hcl;go_upto_region 18 with(go_at_call 35;refine hcl.out.mono ?_;rintro r W4 ⟨rfl,g4⟩;have O3:W4.cell? ⟨ko,3,none⟩=some (.int .u64 0):=(at_past o3.out g4).2.1 3;have ofz4:=(at_past o3.out g4).2.2;have olt4:=(at_past o3.out g4).1;replace g4:=ζ g4)
      have o4:=at_past o3.out g4.out;have z4:=at_past z3.out g4.out;have f4:=aft_below f3.out g4.out;refine wp_world (fun W5=>Kp (fun k=>k=ko) W4 W5∧At W5 ko #[.bool true,.int .u64 s,.int .u64 (mcL vs),.int .u64 i]) ⟨Kp.set _ ⟨ko,3,none⟩ _ rfl,by simpa using o4.set 3 (.int .u64 i) (by simp)⟩ ?_;rintro W5 ⟨hk5,o5⟩;have z5:=at_keep z4 hk5 (by omega);have f5:=aft_above hR.out f4 hk5 (fun k q=>by omega);have P0:W5.cell? ⟨ko,0,none⟩=some (.bool true):=o5.2.1 0;have P1:W5.cell? ⟨ko,1,none⟩=some (.int .u64 s):=o5.2.1 1;have P2:W5.cell? ⟨ko,2,none⟩=some (.int .u64 (mcL vs)):=o5.2.1 2;have P3:W5.cell? ⟨ko,3,none⟩=some (.int .u64 i):=o5.2.1 3;have⟨zl,zp,zf⟩:=z5;have hfin:=ζ (At.setAll (cs:=[Value.bool false,.int .u64 0,.int .u64 0,.int .u64 0]) z5 [Value.bool true,.int .u64 s,.int .u64 (mcL vs),.int .u64 i] rfl);have hkf:=ζ (kp_sets W5 (w.heap.size+1) [Value.bool true,.int .u64 s,.int .u64 (mcL vs),.int .u64 i] 0)
      replace f5:=ζ f5;clear o4 z4 z5 f4 O3 ofz4 olt4 hk5 o5;go_wp2_with fail;have⟨_,q4,_⟩:=hfin.out;simp only[World.setCells]at q4;refine bodyPost_ret (v:=.tuple #[.agg #[.bool true,.int .u64 s,.int .u64 (mcL vs),.int .u64 i],.bool true]) (by simp[results,Tryz.results18,go_sem,q4]) rfl ?_;refine⟨?_,aft_above hR.out f5.out hkf.out (fun k q=>by omega)⟩;rw[hres.out];rfl
end Bd
end Go.Proofs.YthlpjlnehonpdaaGreatDoor
