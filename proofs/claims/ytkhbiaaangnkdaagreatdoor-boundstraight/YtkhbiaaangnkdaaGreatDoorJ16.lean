import Derived.Test.YtkhbiaaangnkdaaGreatDoorJ12
import Derived.Test.YtkhbiaaangnkdaaGreatDoorJ13
namespace Go.Proofs.YtkhbiaaangnkdaaGreatDoor
namespace Bd
open Go.RowKit
open T (Kp)
theorem at_past {w w':World}{k:Nat}{a:Array Value}(h:At w k a)(q:Below w.heap.size w w'):At w' k a:=at_keep h (Kp.of_below (S:=fun _=>False) q) id
theorem Cr.past {w w':World}{kr n:Nat}{F:Nat→Option Cst}(h:Cr w kr n F)(q:Below w.heap.size w w'):Cr w' kr n F:=h.keep (Kp.of_below (S:=fun _=>False) q) id
theorem bl_alloc (w:World)(o:Obj):Below w.heap.size w (w.alloc o):=(Below.refl _ _).alloc (Nat.le_refl _) _
theorem bl_drew (w:World):Below w.heap.size w w.drew:=(Below.refl _ _).drew
structure Reg (B n:Nat)(L:List Ins)(ka:Option Addr)(kc kt kr:Nat)(W Y:World):Prop where
 t:At Y kt #[.slice ka L.length kc,.slice (some ⟨kr,0,none⟩) n n]
 r:Cr Y kr n (fun _=>none)
 l:LIn B Y ka L
 b:Below W.heap.size W Y
 t0:W.heap.size≤kt
 r0:W.heap.size≤kr
 ne:kt≠kr
@[reducible] def rwO (n:Nat):Obj:=.cells (madeCells #[Value.bool false,.int .u64 0,.int .u64 0,.int .u64 0] (n*4)) 42
@[reducible] def taO:Obj:=.cells #[.slice none 0 0,.slice none 0 0] 96
@[reducible] def tvO (n:Nat) (L:List Ins) (ka:Option Addr) (kc kr:Nat):Obj:=.cells #[.slice ka L.length kc,.slice (some ⟨kr,0,none⟩) n n] 96
theorem cr_new (w:World)(n:Nat):Cr (w.alloc (rwO n)) w.heap.size n (fun _=>none):=Cr.new w n _
theorem cr_next (w:World)(o:Obj)(n:Nat):Cr ((w.alloc o).alloc (rwO n)) (w.heap.size+1) n (fun _=>none):=by
 have:=cr_new (w.alloc o) n;have e:(w.alloc o).heap.size=w.heap.size+1:=by simp
 rwa [e]at this
section
variable {B n:Nat} {L:List Ins} {ka:Option Addr} {kc:Nat} {W w1:World} (hB:B≤w1.heap.size) (q0:LIn B w1 ka L) (Q1:Below W.heap.size W w1)
include hB q0 Q1
theorem reg1:Reg B n L ka kc (w1.heap.size+1) w1.heap.size W ((w1.alloc (rwO n)).alloc (tvO n L ka kc w1.heap.size)):=by
 have hb:Below w1.heap.size w1 ((w1.alloc (rwO n)).alloc (tvO n L ka kc w1.heap.size)):=(bl_alloc _ _).trans ((bl_alloc _ _).mono (by simp));exact⟨At.next w1 _ _ _,(cr_new w1 n).past (bl_alloc _ _),q0.below (hb.mono hB),Q1.trans (hb.mono Q1.size),by have:=Q1.size;omega,Q1.size,by omega⟩
theorem reg2:Reg B n L ka kc w1.heap.size (w1.heap.size+1) W ((w1.alloc (tvO n L ka kc (w1.heap.size+1))).alloc (rwO n)):=by
 have hb:Below w1.heap.size w1 ((w1.alloc (tvO n L ka kc (w1.heap.size+1))).alloc (rwO n)):=(bl_alloc _ _).trans ((bl_alloc _ _).mono (by simp));exact⟨at_past (At.new w1 _ _) (bl_alloc _ _),cr_next w1 _ n,q0.below (hb.mono hB),Q1.trans (hb.mono Q1.size),Q1.size,by have:=Q1.size;omega,by omega⟩
theorem reg3 (hW:W.heap.size<w1.heap.size)(q1:Below (W.alloc (rwO n)).drew.heap.size (W.alloc (rwO n)).drew w1):Reg B n L ka kc w1.heap.size W.heap.size W (w1.alloc (tvO n L ka kc W.heap.size)):=by
 exact⟨At.new w1 _ _,(((cr_new W n).past (bl_drew _)).past q1).past (bl_alloc _ _),q0.below ((bl_alloc _ _).mono hB),Q1.trans ((bl_alloc _ _).mono Q1.size),Q1.size,Nat.le_refl _,by omega⟩
theorem reg4 (hW:B≤W.heap.size)(q1:Below ((W.alloc (rwO n)).alloc taO).drew.heap.size ((W.alloc (rwO n)).alloc taO).drew w1):Reg B n L ka kc (W.heap.size+1) W.heap.size W (w1.setCells (W.heap.size+1) 0 [.slice ka L.length kc,.slice (some ⟨W.heap.size,0,none⟩) n n]):=by
 have hk:=kp_sets w1 (W.heap.size+1) [.slice ka L.length kc,.slice (some ⟨W.heap.size,0,none⟩) n n] 0;have hb:=hk.below Q1.size (fun k q=>by omega);have ha:At w1 (W.heap.size+1) #[.slice none 0 0,.slice none 0 0]:=at_past (at_past (At.next W _ _ _) (bl_drew _)) q1;exact⟨At.setAll (cs:=[.slice none 0 0,.slice none 0 0]) ha _ rfl,((((cr_new W n).past (bl_alloc _ _)).past (bl_drew _)).past q1).keep hk (by omega),q0.below (hk.below hB (fun k q=>by omega)),Q1.trans hb,by omega,Nat.le_refl _,by omega⟩
theorem reg5 (hW:B≤W.heap.size)(q1:Below (W.alloc taO).drew.heap.size (W.alloc taO).drew w1):Reg B n L ka kc W.heap.size w1.heap.size W ((w1.setCells W.heap.size 0 [.slice ka L.length kc,.slice (some ⟨w1.heap.size,0,none⟩) n n]).alloc (rwO n)):=by
 have hk:=kp_sets w1 W.heap.size [.slice ka L.length kc,.slice (some ⟨w1.heap.size,0,none⟩) n n] 0;have hb:=hk.below Q1.size (fun k q=>by omega);have ha:At w1 W.heap.size #[.slice none 0 0,.slice none 0 0]:=at_past (at_past (At.new W _ _) (bl_drew _)) q1;have hs:(w1.setCells W.heap.size 0 [.slice ka L.length kc,.slice (some ⟨w1.heap.size,0,none⟩) n n]).heap.size=w1.heap.size:=setCells_size _ _ _ _;have hr:=cr_new (w1.setCells W.heap.size 0 [.slice ka L.length kc,.slice (some ⟨w1.heap.size,0,none⟩) n n]) n;rw[hs]at hr;have hlt:=ha.1;exact⟨at_past (At.setAll (cs:=[.slice none 0 0,.slice none 0 0]) ha _ rfl) (bl_alloc _ _),hr,(q0.below (hk.below hB (fun k q=>by omega))).below ((bl_alloc _ _).mono (by rw[hs];exact hB)),(Q1.trans hb).trans ((bl_alloc _ _).mono (by rw[hs];exact Q1.size)),Nat.le_refl _,Q1.size,by omega⟩
theorem reg6 (hW:B≤W.heap.size)(q1:Below ((W.alloc taO).alloc (rwO n)).drew.heap.size ((W.alloc taO).alloc (rwO n)).drew w1):Reg B n L ka kc W.heap.size (W.heap.size+1) W (w1.setCells W.heap.size 0 [.slice ka L.length kc,.slice (some ⟨W.heap.size+1,0,none⟩) n n]):=by
 have hk:=kp_sets w1 W.heap.size [.slice ka L.length kc,.slice (some ⟨W.heap.size+1,0,none⟩) n n] 0;have hb:=hk.below Q1.size (fun k q=>by omega);have ha:At w1 W.heap.size #[.slice none 0 0,.slice none 0 0]:=at_past (at_past (at_past (At.new W _ _) (bl_alloc _ _)) (bl_drew _)) q1;exact⟨At.setAll (cs:=[.slice none 0 0,.slice none 0 0]) ha _ rfl,(((cr_next W _ n).past (bl_drew _)).past q1).keep hk (by omega),q0.below (hk.below hB (fun k q=>by omega)),Q1.trans hb,Nat.le_refl _,by omega,by omega⟩
end
end Bd
set_option maxRecDepth 100000
set_option maxHeartbeats 40000000
namespace Bd
open Go.RowKit
open T (Kp)
open F (thB nxtI folB IOwn own_slice own_nin)
structure CTurn (B:Nat)(N:List Nat)(lo:Nat)(v:Value)(n:Nat)(L:List Ins)(ka:Option Addr)(kc kt kr ko k0:Nat)(im:Array Value)(F:Nat→Option Cst)(c:Int)(wr:World):Prop where
 v:IOwn wr lo v (N.map (fun q:Nat=>(q:Int)))
 r:Cr wr kr n F
 o:At wr ko #[.bool true,.int .u64 0,.int .u64 c,.int .u64 0]
 t:At wr kt #[.slice ka L.length kc,.slice (some ⟨kr,0,none⟩) n n]
 i:At wr k0 im
 z:At wr (k0+1) #[.bool false,.int .u64 0,.int .u64 0,.int .u64 0]
 l:LIn B wr ka L
 s:wr.heap.size≥lo
theorem CTurn.kp {B:Nat}{N:List Nat}{lo:Nat}{v:Value}{n:Nat}{L:List Ins}{ka:Option Addr}{kc kt kr ko k0:Nat}{im:Array Value}{F:Nat→Option Cst}{c:Int}{wr w2:World}{S:Nat→Prop}(h:CTurn B N lo v n L ka kc kt kr ko k0 im F c wr)(hk:Kp S wr w2)(hB:B≤wr.heap.size)(h0:∀k,S k→B≤k∧k<lo∧k≠kr∧k≠ko∧k≠kt∧k≠k0∧k≠k0+1):CTurn B N lo v n L ka kc kt kr ko k0 im F c w2:=
 ⟨own_kp' h.v hk (fun g hg q=>by have:=(h.v.lt g hg).1;have:=(h0 g q).2.1;omega),h.r.keep hk (fun q=>(h0 _ q).2.2.1 rfl),at_keep h.o hk (fun q=>(h0 _ q).2.2.2.1 rfl),at_keep h.t hk (fun q=>(h0 _ q).2.2.2.2.1 rfl),at_keep h.i hk (fun q=>(h0 _ q).2.2.2.2.2.1 rfl),at_keep h.z hk (fun q=>(h0 _ q).2.2.2.2.2.2 rfl),h.l.below (hk.below hB (fun k q=>(h0 k q).1)),Nat.le_trans h.s hk.size⟩
theorem rowF_nil (N:List Nat):rowF N []=fun _=>none:=by unfold rowF;cases N<;>rfl
theorem aft_above {ε:Type}{p:Pl}{enc:Option ε→Value}{nx:Nat→List Nat}{f:Nat→List ε→Option ε}{U:List Nat}{S S':Nat→Prop}{M M0:Nat→Option (Option ε)}{nn n0:Nat}{w wr w2:World}(h0:Rem p enc w n0 M0)(h:Aft p enc nx f U S M nn w wr)(hk:Kp S' wr w2)(hS:∀k,S' k→w.heap.size≤k):Aft p enc nx f U S M nn w w2:=by
 obtain⟨M',nn',r1,r2,r3,r4,r5⟩:=h;exact⟨M',nn',r1.above h0 hk hS,r2,r3,r4,r5.trans hk (fun k q=>.inr (hS k q))⟩
theorem cut_r {X Y:Prop}(h:T.Hid X→Y)(x:X):Y:=h ⟨x⟩
theorem costOf_any (B km:Nat)(m:PImg)(ra:Option Addr)(rc:Nat)(ca:Option Addr)(cc:Nat)(ga:Option Addr)(gc:Nat)(hok:BOk m)(p:Pl)(hp:p.qf=22)(hbB:B≤p.b)(hkm:km≠p.b)(d:Nat)
 (hask:AskC (IEnv B km m ra rc ca cc ga gc) p encc tupc (nxG m) (ctF m) (List.range m.gates.length) d)
 (w:World)(n:Nat)(S:Nat→Prop)(M:Nat→Option (Option Cst))(nn:Nat)(hE:IEnv B km m ra rc ca cc ga gc w)(hR:Rem p encc w nn M)(hS:Memo (nxG m) (ctF m) (List.range m.gates.length) (fun x=>S x∨x=n) M)(hA:∀q,S q→Anc (nxG m) (ctF m) q n)(hn:n∈List.range m.gates.length)(hl:left (List.range m.gates.length) M≤d)(hb:nn+2*left (List.range m.gates.length) M≤1000000):
 Calls Tryz.prog 14 #[imA m ra rc ca cc ga gc,.int .i64 n,p.qv] w fun r w'=>r=.returned (tupc (ev (nxG m) (ctF m) (List.range m.gates.length) n))∧Aft p encc (nxG m) (ctF m) (List.range m.gates.length) (fun x=>S x∨x=n) M nn w w':=by
 have hU:=nxG_in hok;have hqv:p.qv=.func (.func 22) #[] #[.pointer (some ⟨p.kA,0,none⟩),.pointer (some ⟨p.kF,0,none⟩),.pointer (some ⟨p.kQ,0,none⟩)]:=by unfold Pl.qv pv;rw[hp]
 rw[hqv];have hn2:=List.mem_range.1 hn;obtain⟨k,hk,hgc,hgr⟩:=hok.gates n hn2;obtain⟨hcl,hco⟩:=hok.code k hk;have hgl16:=hok.gl;have hCo:=ζ (fun W (q:Below w.heap.size w W)=>codeOf_any B m ra ca ga rc cc gc n k hn2 hk hgc W (hE.m.below (q.mono hE.le)) (Nat.le_trans hE.le q.size));have hNx:=ζ (fun W (q:Below w.heap.size w W)=>calledBy_any m ra ca ga rc cc gc n k hn2 hk hgc (by omega) hco W (((hE.m.mono hE.le).below q).mono q.size));have hNl:(nxG m n).length≤2000:=by
  rw[nxG_of hn2 hk hgc];have:=calL_len m.comps[k].code m.gates[n].e;omega
 rw[←nxG_of hn2 hk hgc]at hNx;have hq:=ζ (fun W (e:IEnv B km m ra rc ca cc ga gc W) (M':Nat→Option (Option Cst)) (nn':Nat) (h1:Rem p encc W nn' M') (h2:Memo (nxG m) (ctF m) (List.range m.gates.length) (fun x=>S x∨x=n) M') (h3:More M M') (h4:nn'+2*left (List.range m.gates.length) M'≤nn+2*left (List.range m.gates.length) M) (c:Nat) (hc:c∈nxG m n)=>hask W c (fun x=>S x∨x=n) M' nn' e h1 h2 (fun q hq=>by
  rcases hq with hq|hq
  ·exact(hA q hq).trans (anc_child hc)
  ·subst hq;exact anc_child hc) (hU n hn c hc) (Nat.le_trans (left_more h3) hl) (by omega))
 rw[hp]at hq;unfold pv at hq;have evd:∀vs:List Cst,(nxG m n).map (ev (nxG m) (ctF m) (List.range m.gates.length))=vs.map some→ev (nxG m) (ctF m) (List.range m.gates.length) n=ctF m n vs:=fun vs h=>ev_known hU hn h
 have evn:∀c,c∈nxG m n→ev (nxG m) (ctF m) (List.range m.gates.length) c=none→ev (nxG m) (ctF m) (List.range m.gates.length) n=none:=fun c hc h=>ev_none hU hn hc h
 have hstart:Aft p encc (nxG m) (ctF m) (List.range m.gates.length) (fun x=>S x∨x=n) M nn w w:=⟨M,nn,hR,hS,More.refl M,Nat.le_refl _,Kp.refl _ _⟩;have hEk:=ζ (fun W (q:Kp (fun k=>k=p.b) w W)=>hE.keep q hbB hkm);have hpb:=hR.m.lt;obtain⟨bg,offg,xa,xc,ya,yc,hga,hbg1,hbg2,_,hge, -⟩:=hE.m.gates n hn2;subst hga;have hin:(n:Int)<(m.gates.length:Int):=by omega
 have hgin:∀c∈nxG m n,c<m.gates.length:=fun c hc=>List.mem_range.1 (hU n hn c hc)
 rw[←gcode_of hn2 hk hgc]at hCo hco hcl hgr;rw[←gent_of hn2]at hge hgr;have hle:=ζ hE.le;have hct:=ζ (fun vs=>(show ctF m n vs=match sumS (gcode m n) (stF (gcode m n) (sF (rowF (nxG m n) vs))) (gent m n).toNat with
  |none=>none
  |some s=>if 1099511627776<s then none else some ⟨s,mcL vs,(sumS (gcode m n) (inF (gcode m n) (iF (rowF (nxG m n) vs))) (gent m n).toNat).getD 0⟩from rfl))
 replace hE:=ζ hE;replace hS:=ζ hS;replace hR:=ζ hR;replace hA:=ζ hA;replace hU:=ζ hU;replace hn:=ζ hn;replace hstart:=ζ hstart;replace evd:=ζ evd;replace evn:=ζ evn;replace hco:=ζ hco;replace hgin:=ζ hgin;clear hask hqv hb hl hgc hk hok;generalize hN:nxG m n=N at*;generalize hev:ev (nxG m) (ctF m) (List.range m.gates.length)=evv at*;generalize List.range m.gates.length=U at*;generalize gcode m n=L at*;generalize gent m n=e0 at*;unfold imA at*;go_enter Tryz.func14,Tryz.ntmps14;go_upto_region 1 with fail
 refine wp_world (fun W=>At W w.heap.size #[.slice ra m.regs.length rc,.slice ca m.comps.length cc,.slice (some ⟨bg,offg,none⟩) m.gates.length gc,.int .i64 m.depth]∧At W (w.heap.size+1) #[.bool false,.int .u64 0,.int .u64 0,.int .u64 0]∧Below w.heap.size w W) ⟨(At.new w _ _).alloc _,by simpa using At.new (w.alloc (.cells #[.slice ra m.regs.length rc,.slice ca m.comps.length cc,.slice (some ⟨bg,offg,none⟩) m.gates.length gc,.int .i64 m.depth] 40)) #[.bool false,.int .u64 0,.int .u64 0,.int .u64 0] 42,((Below.refl _ _).alloc (Nat.le_refl _) _).alloc (by simp) _⟩ ?_;rintro W ⟨A0,A1,hB⟩;have hWs:=hB.size;have KS:∀X,Below W.heap.size W X→X.cell? ⟨w.heap.size,0,none⟩=some (.slice ra m.regs.length rc)∧X.cell? ⟨w.heap.size,1,none⟩=some (.slice ca m.comps.length cc)∧X.cell? ⟨w.heap.size,2,none⟩=some (.slice (some ⟨bg,offg,none⟩) m.gates.length gc)∧X.cell? ⟨w.heap.size,3,none⟩=some (.int .i64 m.depth):=fun X q=>by
  have a:=(at_keep A0 (Kp.of_below (S:=fun _=>False) q) id).2.1;exact⟨a 0,a 1,a 2,a 3⟩
 replace A0:=ζ A0;replace A1:=ζ A1;replace hB:=ζ hB;replace KS:=ζ KS;have hBW:B≤W.heap.size:=Nat.le_trans hle.out hWs;have hmk:=make_costs m.gates.length (by omega);apply cut_r
 ·intro key;go_region_held3 (fun X=>X.cell? ⟨w.heap.size,0,none⟩=some (.slice ra m.regs.length rc)∧X.cell? ⟨w.heap.size,1,none⟩=some (.slice ca m.comps.length cc)∧X.cell? ⟨w.heap.size,2,none⟩=some (.slice (some ⟨bg,offg,none⟩) m.gates.length gc)∧X.cell? ⟨w.heap.size,3,none⟩=some (.int .i64 m.depth)) ((refine KS.out _ ?_;(repeat(first|with_reducible assumption|with_reducible exact Below.refl _ _|with_reducible refine Below.alloc ?_ (by first|omega|(simp<;>omega)) _|with_reducible refine Below.setCell ?_ (by first|omega|(simp<;>omega)) _|with_reducible refine Below.drew ?_)))) (first|(go_at_call 23;refine(hCo.out _ (hB.out.trans (Below.mono (by(repeat(first|with_reducible assumption|with_reducible exact Below.refl _ _|with_reducible refine Below.alloc ?_ (by first|omega|(simp<;>omega)) _|with_reducible refine Below.setCell ?_ (by first|omega|(simp<;>omega)) _|with_reducible refine Below.drew ?_))) hWs))).mono ?_;rintro y w1 ⟨ka,kc,rfl,q0,q1⟩;have Q1:Below W.heap.size W w1:=Below.trans (by(repeat(first|with_reducible assumption|with_reducible exact Below.refl _ _|with_reducible refine Below.alloc ?_ (by first|omega|(simp<;>omega)) _|with_reducible refine Below.setCell ?_ (by first|omega|(simp<;>omega)) _|with_reducible refine Below.drew ?_))) (q1.mono (by simp<;>omega));have Q1s:=Q1.size;(first|(have tA:=at_keep (at_keep (At.new (W.alloc (.cells (madeCells #[Value.bool false,Value.int IntKind.u64 0,Value.int IntKind.u64 0,Value.int IntKind.u64 0] (m.gates.length*4)) 42)) #[.slice none 0 0,.slice none 0 0] 96) (Kp.of_below (S:=fun _=>False) (Below.refl _ _).drew) id) (Kp.of_below (S:=fun _=>False) q1) id;have t0:w1.cell? ⟨W.heap.size+1,0,none⟩=some (.slice none 0 0):=(by simpa using tA.2.1 0);have t1:w1.cell? ⟨W.heap.size+1,1,none⟩=some (.slice none 0 0):=(by simpa using tA.2.1 1);have t2:∀o,w1.frozen? ⟨W.heap.size+1,o,none⟩=false:=(by simpa using tA.2.2);have t3:W.heap.size+1<w1.heap.size:=(by simpa using tA.1))|(have tA:=at_keep (at_keep (At.new W #[.slice none 0 0,.slice none 0 0] 96) (Kp.of_below (S:=fun _=>False) (Below.refl _ _).drew) id) (Kp.of_below (S:=fun _=>False) q1) id;have t0:w1.cell? ⟨W.heap.size,0,none⟩=some (.slice none 0 0):=(by simpa using tA.2.1 0);have t1:w1.cell? ⟨W.heap.size,1,none⟩=some (.slice none 0 0):=(by simpa using tA.2.1 1);have t2:∀o,w1.frozen? ⟨W.heap.size,o,none⟩=false:=(by simpa using tA.2.2);have t3:W.heap.size<w1.heap.size:=(by simpa using tA.1))|(have tA:=at_keep (at_keep (At.new W #[.slice none 0 0,.slice none 0 0] 96) (Kp.of_below (S:=fun _=>False) ((Below.refl _ _).alloc (Nat.le_refl _) _).drew) id) (Kp.of_below (S:=fun _=>False) q1) id;have t0:w1.cell? ⟨W.heap.size,0,none⟩=some (.slice none 0 0):=(by simpa using tA.2.1 0);have t1:w1.cell? ⟨W.heap.size,1,none⟩=some (.slice none 0 0):=(by simpa using tA.2.1 1);have t2:∀o,w1.frozen? ⟨W.heap.size,o,none⟩=false:=(by simpa using tA.2.2);have t3:W.heap.size<w1.heap.size:=(by simpa using tA.1))|skip)))
  all_goals
   have hB1:B≤w1.heap.size:=Nat.le_trans hBW Q1s
  ·have R:=reg1 (n:=m.gates.length) (kc:=kc) hB1 q0 Q1;clear hB1 q0 q1 Q1 Q1s
   rename_i hhe
   clear hhe;generalize w1.heap.size+1=kt at R ⊢;generalize w1.heap.size=kr at R ⊢;revert R;generalize ((w1.alloc (.cells (madeCells #[Value.bool false,.int .u64 0,.int .u64 0,.int .u64 0] (m.gates.length*4)) 42)).alloc (.cells #[.slice ka L.length kc,.slice (some ⟨kr,0,none⟩) m.gates.length m.gates.length] 96))=Y;revert Y kt kr ka kc;exact key.out
  ·exact key.out _ _ _ _ _ (reg2 hB1 q0 Q1)
  ·exact key.out _ _ _ _ _ (reg3 hB1 q0 Q1 (by have:=q1.size;simp at this;omega) q1)
  ·exact key.out _ _ _ _ _ (reg4 hB1 q0 Q1 hBW q1)
  ·exact key.out _ _ _ _ _ (reg5 hB1 q0 Q1 hBW q1)
  ·exact key.out _ _ _ _ _ (reg6 hB1 q0 Q1 hBW q1)
 intro ka kc kt kr Y R;have hYs:=R.b.size;have hA0:=at_past A0.out R.b;have hA1:=at_past A1.out R.b;have hbY:Below w.heap.size w Y:=hB.out.trans (R.b.mono hWs);have t0:=R.t0;have r0:=R.r0;have tlt:=R.t.1;have rlt:=R.r.lt;have rne:=R.ne;replace R:=ζ R;replace hA0:=ζ hA0;replace hA1:=ζ hA1;replace hbY:=ζ hbY;have hW1:=A1.out.1;clear A0 A1 KS hmk hCo hB;go_upto_region 3 with fail
 refine wp_world (fun Z=>At Z Y.heap.size #[.bool true,.int .u64 0,.int .u64 0,.int .u64 0]∧Below Y.heap.size Y Z) ⟨At.new Y _ _,(Below.refl _ _).alloc (Nat.le_refl _) _⟩ ?_;rintro Z ⟨aO,hZ⟩;have hZs:=hZ.size;have olt:=aO.1;have a0:=(at_past hA0.out hZ).2.1;have k0:Z.cell? ⟨w.heap.size,0,none⟩=some (.slice ra m.regs.length rc):=a0 0;have k1:Z.cell? ⟨w.heap.size,1,none⟩=some (.slice ca m.comps.length cc):=a0 1;have k2:Z.cell? ⟨w.heap.size,2,none⟩=some (.slice (some ⟨bg,offg,none⟩) m.gates.length gc):=a0 2;have k3:Z.cell? ⟨w.heap.size,3,none⟩=some (.int .i64 m.depth):=a0 3;have hbZ:Below w.heap.size w Z:=hbY.out.trans (hZ.mono (Nat.le_trans hWs hYs));replace aO:=ζ aO;replace hZ:=ζ hZ;replace hbZ:=ζ hbZ;clear a0;go_upto_region 4 with(go_at_call 24;refine(hNx.out _ hbZ.out).mono ?_;rintro r W1 ⟨v,rfl,y1,y2⟩;obtain⟨va,vc,rfl⟩:=own_slice y1;rw[List.length_map]at y1;replace y1:=ζ y1;replace y2:=ζ y2)
 clear k0 k1 k2 k3;have hb1:Below w.heap.size w W1:=hbZ.out.trans (y2.out.mono (Nat.le_trans hWs (Nat.le_trans hYs hZs)));have st0:CTurn B N Z.heap.size (.slice va N.length vc) m.gates.length L ka kc kt kr Y.heap.size w.heap.size #[.slice ra m.regs.length rc,.slice ca m.comps.length cc,.slice (some ⟨bg,offg,none⟩) m.gates.length gc,.int .i64 m.depth] (fun _=>none) 0 W1:=
  ⟨y1.out,(R.out.r.past hZ.out).past y2.out,at_past aO.out y2.out,at_past (at_past R.out.t hZ.out) y2.out,at_past (at_past hA0.out hZ.out) y2.out,at_past (at_past hA1.out hZ.out) y2.out,(R.out.l.below (hZ.out.mono (by omega))).below (y2.out.mono (by omega)),y2.out.size⟩
 generalize Z.heap.size=lo at*;generalize Y.heap.size=ko at*;replace st0:=ζ st0;replace hb1:=ζ hb1;have hlo:p.b<lo:=by omega
 have hlk:kt<lo∧kr<lo∧ko<lo∧w.heap.size+1<lo:=by have:=hA1.out.1;omega
 clear hZ hbZ aO R hA0 hA1 hbY y1 y2 olt;go_loopw [30] (fun iv wr=>∃(j:Nat) (vs:List Cst),iv=.int .i64 j∧j≤N.length∧Hz (vs.length=j∧(N.take j).map (ev (nxG m) (ctF m) U)=vs.map some∧Aft p encc (nxG m) (ctF m) U (fun x=>S x∨x=n) M nn w wr∧CTurn B N lo (.slice va N.length vc) m.gates.length L ka kc kt kr ko w.heap.size #[.slice ra m.regs.length rc,.slice ca m.comps.length cc,.slice (some ⟨bg,offg,none⟩) m.gates.length gc,.int .i64 m.depth] (rowF N vs) (mcL vs) wr)) (fun iv _=>N.length - (intOf iv).toNat)
 case atStart=>exact⟨0,[],rfl,by omega,ζ ⟨rfl,rfl,aft_below hstart.out hb1.out,by rw[rowF_nil];exact st0.out⟩⟩
 case round=>
  obtain⟨j,vs,rfl,hj,hk⟩:=hrel;obtain⟨rfl,hev0,haft,hcn⟩:=hk.out;clear hk;by_cases hlt:vs.length<N.length
  ·obtain⟨b,off,ena,_,hb2,hc⟩:=own_nin hcn.v vs.length (by rw[List.length_map];exact hlt);subst ena;rw[List.getElem_map]at hc;have hi1:(vs.length:Int)<N.length:=by omega
   obtain⟨M',nn',r1,r2,r3,r4,r5⟩:=haft;have hEr:=hEk.out wr r5;have hmem:N[vs.length]∈N:=List.getElem_mem hlt;have hcall:=hq.out wr hEr M' nn' r1 r2 r3 r4 N[vs.length] hmem;have hnx:∀x,evv N[vs.length]=some x→(N.take (vs.length+1)).map (ev (nxG m) (ctF m) U)=(vs++[x]).map some:=fun x hx=>by
    rw[←hev]at hx;rw[List.take_succ_eq_append_getElem hlt,List.map_append,hev0,List.map_append];simp[hx]
   have hrw:=fun x=>rowF_snoc N vs x hlt
   have hn2:=fun w2 (g:Aft p encc (nxG m) (ctF m) U (fun x=>S x∨x=n) M' nn' wr w2)=>(show Aft p encc (nxG m) (ctF m) U (fun x=>S x∨x=n) M nn w w2∧Kp (fun k=>k=p.b) wr w2 by
    obtain⟨M2,n2,g1,g2,g3,g4,g5⟩:=g;exact⟨⟨M2,n2,g1,g2,r3.trans g3,by omega,r5.trans g5 (fun k q=>.inl q)⟩,g5⟩)
   have hev2:ev (nxG m) (ctF m) U N[vs.length]=evv N[vs.length]:=by rw[hev]
   (try rw[hev2]at hcall)
   have hno:=evn.out N[vs.length] hmem;have hcN:=hgin.out N[vs.length] hmem;have hwr:=r5.size;have hcs:(N[vs.length]:Int)<(m.gates.length:Int):=by omega
   clear hev2 hmem r1 r2 r5 hev0;generalize N[vs.length]=c at*;replace hnx:=ζ hnx;replace hrw:=ζ hrw;replace hn2:=ζ hn2;replace hcn:=ζ hcn;replace hEr:=ζ hEr;replace r3:=ζ r3;replace r4:=ζ r4;have hij:IntKind.i64.wrap ((vs.length:Int)+1)=((vs.length+1:Nat):Int):=by rw[IntKind.wrap_i64];omega
   have hij2:wrap64 ((vs.length:Int)+1)=((vs.length+1:Nat):Int):=by unfold wrap64;omega
   cases hcv:evv c with
   |none=>
    have hem:=hno hcv;rw[hcv]at hcall;unfold tupc at hcall;replace hno:=ζ hno;replace hcall:=ζ hcall;clear hij hij2;go_upto_region 7 with(go_at_call 22;refine hcall.out.mono ?_;rintro r w2 ⟨rfl,g⟩;replace g:=ζ (hn2.out _ g))
    have hz2:=(hcn.out.kp g.out.2 (by omega) (fun k q=>by omega)).z;refine wp_world (fun W3=>Below w2.heap.size w2 W3) (by repeat(first|exact Below.refl _ _|refine Below.alloc ?_ (by simp<;>omega) _|refine Below.setCell ?_ (by simp<;>omega) _)) ?_;intro W3 hB3;have hz3:=at_past hz2 hB3;have hf3:=aft_below g.out.1 hB3;have⟨zl,zp,zf⟩:=hz3;have hfin:=ζ (At.setAll (cs:=[Value.bool false,.int .u64 0,.int .u64 0,.int .u64 0]) hz3 [Value.bool false,.int .u64 0,.int .u64 0,.int .u64 0] rfl);have hkf:=ζ (kp_sets W3 (w.heap.size+1) [Value.bool false,.int .u64 0,.int .u64 0,.int .u64 0] 0);replace hf3:=ζ hf3;clear hz2 hz3 hB3;go_wp2_with fail;have⟨_,q4,_⟩:=hfin.out;simp only[World.setCells]at q4;refine bodyPost_ret (v:=.tuple #[.agg #[.bool false,.int .u64 0,.int .u64 0,.int .u64 0],.bool false]) (by simp[results,Tryz.results14,go_sem,q4]) rfl ?_;refine⟨?_,aft_above hR.out hf3.out hkf.out (fun k q=>by omega)⟩
    rw[hem];rfl
   |some x=>
    rw[hcv]at hcall;unfold tupc at hcall;have hxn:=hnx.out x hcv;have hrx:=hrw.out x;replace hxn:=ζ hxn;replace hrx:=ζ hrx;replace hno:=ζ hno;replace hcall:=ζ hcall;replace hcv:=ζ hcv;replace hij:=ζ hij;replace hij2:=ζ hij2;go_upto_region 7 with(go_at_call 22;refine hcall.out.mono ?_;rintro r w2 ⟨rfl,g⟩;replace g:=ζ (hn2.out _ g))
    have st2:=hcn.out.kp g.out.2 (by omega) (fun k q=>by omega);have hw2:=g.out.2.size;have hs2:=st2.s;refine wp_world (fun W3=>Below w2.heap.size w2 W3∧At W3 w2.heap.size #[.bool true,.int .u64 x.s,.int .u64 x.c,.int .u64 x.i]) ⟨(by repeat(first|exact Below.refl _ _|refine Below.alloc ?_ (by simp<;>omega) _|refine Below.setCell ?_ (by simp<;>omega) _)),At.new w2 _ _⟩ ?_;rintro W3 ⟨hB3,aC⟩;have st3:=st2.kp (Kp.of_below (S:=fun _=>False) hB3) (by omega) (fun k q=>q.elim);have hf3:=aft_below g.out.1 hB3;have hw3:=hB3.size;generalize w2.heap.size=kx at*;have T0:W3.cell? ⟨kt,0,none⟩=some (.slice ka L.length kc):=st3.t.2.1 0;have T1:W3.cell? ⟨kt,1,none⟩=some (.slice (some ⟨kr,0,none⟩) m.gates.length m.gates.length):=st3.t.2.1 1;have C0:W3.cell? ⟨kx,0,none⟩=some (.bool true):=aC.2.1 0;have C1:W3.cell? ⟨kx,1,none⟩=some (.int .u64 x.s):=aC.2.1 1;have C2:W3.cell? ⟨kx,2,none⟩=some (.int .u64 x.c):=aC.2.1 2
    have C3:W3.cell? ⟨kx,3,none⟩=some (.int .u64 x.i):=aC.2.1 3;have R0:∃v,W3.cell? ⟨kr,c*4,none⟩=some v:=⟨_,(st3.r.c c hcN 0 (by omega)).trans (List.getElem?_eq_getElem (by rw[cs4_len];omega))⟩;have R1:∃v,W3.cell? ⟨kr,c*4+1,none⟩=some v:=⟨_,(st3.r.c c hcN 1 (by omega)).trans (List.getElem?_eq_getElem (by rw[cs4_len];omega))⟩;have R2:∃v,W3.cell? ⟨kr,c*4+2,none⟩=some v:=⟨_,(st3.r.c c hcN 2 (by omega)).trans (List.getElem?_eq_getElem (by rw[cs4_len];omega))⟩;have R3:∃v,W3.cell? ⟨kr,c*4+3,none⟩=some v:=⟨_,(st3.r.c c hcN 3 (by omega)).trans (List.getElem?_eq_getElem (by rw[cs4_len];omega))⟩;obtain⟨v0,R0⟩:=R0;obtain⟨v1,R1⟩:=R1;obtain⟨v2,R2⟩:=R2;obtain⟨v3,R3⟩:=R3;have R2':W3.cell? ⟨kr,c*4+1+1,none⟩=some v2:=R2;have R3':W3.cell? ⟨kr,c*4+1+1+1,none⟩=some v3:=R3;have rfz:=st3.r.fr;have rlt3:=st3.r.lt;have tlt3:=st3.t.1;have hput:=st3.r.put hcN (some x);rw[←hrx.out]at hput;have hkr:=kp_sets W3 kr (cs4 (some x)) (c*4)
    replace st3:=ζ st3;replace hf3:=ζ hf3;replace aC:=ζ aC;replace hput:=ζ hput;replace hkr:=ζ hkr;clear st2 hB3 g;go_upto_region 10 with fail
    refine wp_world (fun W4=>Kp (fun k=>k=kr) W3 W4∧Cr W4 kr m.gates.length (rowF N (vs++[x]))) ⟨hkr.out,hput.out⟩ ?_;rintro W4 ⟨hk4,hr4⟩;have o4:=at_keep st3.out.o hk4 (by omega);have t4:=at_keep st3.out.t hk4 (by omega);have i4:=at_keep st3.out.i hk4 (by omega);have z4:=at_keep st3.out.z hk4 (by omega);have l4:=st3.out.l.below (hk4.below (by omega) (fun k q=>by omega));have v4:=own_kp' st3.out.v hk4 (fun g hg q=>by have:=(st3.out.v.lt g hg).1;omega);have c4:=at_keep aC.out hk4 (by omega);have f4:=aft_above hR.out hf3.out hk4 (fun k q=>by omega);have s4:=hk4.size;have O2:W4.cell? ⟨ko,2,none⟩=some (.int .u64 (mcL vs)):=o4.2.1 2;have X2:W4.cell? ⟨kx,2,none⟩=some (.int .u64 x.c):=c4.2.1 2;have ofz:=o4.2.2;have olt:=o4.1;have hms:=mcL_snoc vs x;have hoset:=ζ (show At (W4.setCell ⟨ko,2,none⟩ (.int .u64 (mcL (vs++[x])))) ko #[.bool true,.int .u64 0,.int .u64 (mcL (vs++[x])),.int .u64 0]by
     have:=o4.set 2 (.int .u64 (mcL (vs++[x]))) (by simp);simpa using this)
    have hko:=ζ (Kp.set (S:=fun q=>q=ko) W4 ⟨ko,2,none⟩ (.int .u64 (mcL (vs++[x]))) rfl);rw[hms]at hoset hko;replace hms:=ζ hms;replace t4:=ζ t4;replace i4:=ζ i4;replace z4:=ζ z4;replace l4:=ζ l4;replace v4:=ζ v4;replace f4:=ζ f4;replace hr4:=ζ hr4;replace o4:=ζ o4;clear T0 T1 C0 C1 C2 C3 R0 R1 R2 R3 R2' R3' rfz hput hkr hk4 c4 aC;go_upto_region 11 with fail
    refine wp_world (fun W5=>Kp (fun k=>k=ko) W4 W5∧At W5 ko #[.bool true,.int .u64 0,.int .u64 (mcL (vs++[x])),.int .u64 0]) ⟨hko.out,by rw[hms.out];exact hoset.out⟩ ?_;rintro W5 ⟨hk5,o5⟩;have fin:CTurn B N lo (.slice (some ⟨b,off,none⟩) N.length vc) m.gates.length L ka kc kt kr ko w.heap.size #[.slice ra m.regs.length rc,.slice ca m.comps.length cc,.slice (some ⟨bg,offg,none⟩) m.gates.length gc,.int .i64 m.depth] (rowF N (vs++[x])) (mcL (vs++[x])) W5:=
     ⟨own_kp' v4.out hk5 (fun g hg q=>by have:=(v4.out.lt g hg).1;omega),hr4.out.keep hk5 (by omega),o5,at_keep t4.out hk5 (by omega),at_keep i4.out hk5 (by omega),at_keep z4.out hk5 (by omega),l4.out.below (hk5.below (by omega) (fun k q=>by omega)),by have:=hk5.size;omega⟩
    have f5:=aft_above hR.out f4.out hk5 (fun k q=>by omega);replace fin:=ζ fin;replace f5:=ζ f5;replace hk5:=ζ hk5;replace o5:=ζ o5;clear O2 X2;replace hij:=hij.out;replace hij2:=hij2.out;go_wp2_with fail;clear hij hij2;go_roundw
    case rel=>exact⟨vs.length+1,vs++[x],by simp,by omega,ζ ⟨by simp,hxn.out,f5.out,fin.out⟩⟩
    case measure=>simp only[intOf];omega
  ·have hje:vs.length=N.length:=by omega
   have hi2:¬(vs.length:Int)<N.length:=by omega
   have hi3:(N.length:Int)≤vs.length:=by omega
   have hres:=evd.out vs (by rw[←hev0,hje,List.take_of_length_le (Nat.le_refl _),←hev]);rw[hct.out vs]at hres;have hkw:Kp (fun k=>k=p.b) w wr:=by
    obtain⟨_,_,_,_,_,_,q⟩:=haft;exact q
   have hwr:=hkw.size;have G2:wr.cell? ⟨w.heap.size,2,none⟩=some (.slice (some ⟨bg,offg,none⟩) m.gates.length gc):=hcn.i.2.1 2;have hge':=((hkw.below hle.out (fun k q=>by omega)).cell (p:=⟨bg,offg+n*4+1,none⟩) hbg1).trans hge;have hbg3:bg<wr.heap.size:=by omega
   have T0:wr.cell? ⟨kt,0,none⟩=some (.slice ka L.length kc):=hcn.t.2.1 0;have T1:wr.cell? ⟨kt,1,none⟩=some (.slice (some ⟨kr,0,none⟩) m.gates.length m.gates.length):=hcn.t.2.1 1;have hBwr:B≤wr.heap.size:=by have:=hle.out;omega
   obtain⟨en,rfl⟩:∃en:Nat,e0=(en:Int):=⟨e0.toNat,by omega⟩;rw[Int.toNat_natCast]at hres;have hMs:=fun W (l:LIn W.heap.size W ka L) (q:Cr W kr m.gates.length (rowF N vs))=>most_steps L ka kc (some ⟨kr,0,none⟩) m.gates.length m.gates.length (sF (rowF N vs)) (iF (rowF N vs)) en W l (q.costIn q.lt) hco.out (by omega) (by omega)
   have hMi:=fun W (l:LIn W.heap.size W ka L) (q:Cr W kr m.gates.length (rowF N vs))=>most_inputs L ka kc (some ⟨kr,0,none⟩) m.gates.length m.gates.length (sF (rowF N vs)) (iF (rowF N vs)) en W l (q.costIn q.lt) hco.out (by omega) (by omega)
   have hl0:=hcn.l.mono hBwr;unfold tlA at hMs hMi;generalize sumS L (stF L (sF (rowF N vs))) en=s1 at*;generalize sumS L (inF L (iF (rowF N vs))) en=s2 at*;have hlo4:=hcn.s;replace hl0:=ζ hl0;replace hcn:=ζ hcn;replace haft:=ζ haft;replace hkw:=ζ hkw;replace hMi:=ζ hMi;clear hev0
   cases s1 with
   |none=>
    unfold tupu at hMs;replace hMs:=ζ hMs;replace hres:=ζ hres;go_upto_region 14 with(go_at_call 25;refine(hMs.out _ hl0.out hcn.out.r).mono ?_;rintro r W2 ⟨rfl,g⟩;replace g:=ζ g)
    clear G2 T0 T1 hge';have hz2:=at_past hcn.out.z g.out;have hf2:=aft_below haft.out g.out;have⟨zl,zp,zf⟩:=hz2;have hfin:=ζ (At.setAll (cs:=[Value.bool false,.int .u64 0,.int .u64 0,.int .u64 0]) hz2 [Value.bool false,.int .u64 0,.int .u64 0,.int .u64 0] rfl);have hkf:=ζ (kp_sets W2 (w.heap.size+1) [Value.bool false,.int .u64 0,.int .u64 0,.int .u64 0] 0);replace hf2:=ζ hf2;clear hz2;go_wp2_with fail;have⟨_,q4,_⟩:=hfin.out;simp only[World.setCells]at q4;refine bodyPost_ret (v:=.tuple #[.agg #[.bool false,.int .u64 0,.int .u64 0,.int .u64 0],.bool false]) (by simp[results,Tryz.results14,go_sem,q4]) rfl ?_;refine⟨?_,aft_above hR.out hf2.out hkf.out (fun k q=>by omega)⟩;rw[hres.out];rfl
   |some s=>
    unfold tupu at hMs;replace hMs:=ζ hMs;dsimp only at hres;by_cases hbig:1099511627776<s
    ·rw[if_pos hbig]at hres;replace hres:=ζ hres;go_upto_region 14 with(go_at_call 25;refine(hMs.out _ hl0.out hcn.out.r).mono ?_;rintro r W2 ⟨rfl,g⟩;replace g:=ζ g)
     clear G2 T0 T1 hge';have hz2:=at_past hcn.out.z g.out;have hf2:=aft_below haft.out g.out;have⟨zl,zp,zf⟩:=hz2;have hfin:=ζ (At.setAll (cs:=[Value.bool false,.int .u64 0,.int .u64 0,.int .u64 0]) hz2 [Value.bool false,.int .u64 0,.int .u64 0,.int .u64 0] rfl);have hkf:=ζ (kp_sets W2 (w.heap.size+1) [Value.bool false,.int .u64 0,.int .u64 0,.int .u64 0] 0);replace hf2:=ζ hf2;clear hz2;go_wp2_with fail;have⟨_,q4,_⟩:=hfin.out;simp only[World.setCells]at q4;refine bodyPost_ret (v:=.tuple #[.agg #[.bool false,.int .u64 0,.int .u64 0,.int .u64 0],.bool false]) (by simp[results,Tryz.results14,go_sem,q4]) rfl ?_;refine⟨?_,aft_above hR.out hf2.out hkf.out (fun k q=>by omega)⟩;rw[hres.out];rfl
    ·rw[if_neg hbig]at hres;have hbig2:s≤1099511627776:=by omega
     replace hres:=ζ hres;go_upto_region 14 with(go_at_call 25;refine(hMs.out _ hl0.out hcn.out.r).mono ?_;rintro r W2 ⟨rfl,g⟩;replace g:=ζ g)
     clear G2 T0 T1 hge';have o2:=at_past hcn.out.o g.out;have t2:=at_past hcn.out.t g.out;have z2:=at_past hcn.out.z g.out;have r2:=hcn.out.r.past g.out;have l2:=hcn.out.l.below (g.out.mono hBwr);have f2:=aft_below haft.out g.out;have hw2:=g.out.size;have O1:W2.cell? ⟨ko,1,none⟩=some (.int .u64 0):=o2.2.1 1;have ofz:=o2.2.2;have olt:=o2.1;have hoset:=ζ (show At (W2.setCell ⟨ko,1,none⟩ (.int .u64 s)) ko #[.bool true,.int .u64 s,.int .u64 (mcL vs),.int .u64 0]by
      have:=o2.set 1 (.int .u64 s) (by simp);simpa using this)
     have hko:=ζ (Kp.set (S:=fun q=>q=ko) W2 ⟨ko,1,none⟩ (.int .u64 s) rfl);replace t2:=ζ t2;replace z2:=ζ z2;replace r2:=ζ r2;replace l2:=ζ l2;replace f2:=ζ f2;clear o2;go_upto_region 17 with fail
     refine wp_world (fun W3=>Kp (fun k=>k=ko) W2 W3∧At W3 ko #[.bool true,.int .u64 s,.int .u64 (mcL vs),.int .u64 0]) ⟨hko.out,hoset.out⟩ ?_;rintro W3 ⟨hk3,o3⟩;have t3:=at_keep t2.out hk3 (by omega);have z3:=at_keep z2.out hk3 (by omega);have r3:=r2.out.keep hk3 (by omega);have l3:=l2.out.below (hk3.below (by omega) (fun k q=>by omega));have f3:=aft_above hR.out f2.out hk3 (fun k q=>by omega);have hw3:=hk3.size;have T0:W3.cell? ⟨kt,0,none⟩=some (.slice ka L.length kc):=t3.2.1 0;have T1:W3.cell? ⟨kt,1,none⟩=some (.slice (some ⟨kr,0,none⟩) m.gates.length m.gates.length):=t3.2.1 1;have hcl:=hMi.out W3 (l3.mono (by omega)) r3;replace o3:=ζ o3;replace z3:=ζ z3;replace f3:=ζ f3;clear O1 ofz olt hko hoset t3 r3 l3 hk3 t2 z2 r2 l2 f2
     cases s2 with
     |none=>
      unfold tupu at hcl;replace hcl:=ζ hcl;go_upto_region 18 with(go_at_call 25;refine hcl.out.mono ?_;rintro r W4 ⟨rfl,g4⟩;have O3:W4.cell? ⟨ko,3,none⟩=some (.int .u64 0):=(at_past o3.out g4).2.1 3;have ofz4:=(at_past o3.out g4).2.2;have olt4:=(at_past o3.out g4).1;replace g4:=ζ g4)
      have o4:=at_past o3.out g4.out;have z4:=at_past z3.out g4.out;have f4:=aft_below f3.out g4.out;refine wp_world (fun W5=>Kp (fun k=>k=ko) W4 W5∧At W5 ko #[.bool true,.int .u64 s,.int .u64 (mcL vs),.int .u64 0]) ⟨Kp.set _ ⟨ko,3,none⟩ _ rfl,by simpa using o4.set 3 (.int .u64 0) (by simp)⟩ ?_;rintro W5 ⟨hk5,o5⟩;have z5:=at_keep z4 hk5 (by omega);have f5:=aft_above hR.out f4 hk5 (fun k q=>by omega);have P0:W5.cell? ⟨ko,0,none⟩=some (.bool true):=o5.2.1 0;have P1:W5.cell? ⟨ko,1,none⟩=some (.int .u64 s):=o5.2.1 1;have P2:W5.cell? ⟨ko,2,none⟩=some (.int .u64 (mcL vs)):=o5.2.1 2;have P3:W5.cell? ⟨ko,3,none⟩=some (.int .u64 0):=o5.2.1 3;have⟨zl,zp,zf⟩:=z5;have hfin:=ζ (At.setAll (cs:=[Value.bool false,.int .u64 0,.int .u64 0,.int .u64 0]) z5 [Value.bool true,.int .u64 s,.int .u64 (mcL vs),.int .u64 0] rfl);have hkf:=ζ (kp_sets W5 (w.heap.size+1) [Value.bool true,.int .u64 s,.int .u64 (mcL vs),.int .u64 0] 0)
      replace f5:=ζ f5;clear o4 z4 z5 f4 O3 ofz4 olt4 hk5 o5;go_wp2_with fail;have⟨_,q4,_⟩:=hfin.out;simp only[World.setCells]at q4;refine bodyPost_ret (v:=.tuple #[.agg #[.bool true,.int .u64 s,.int .u64 (mcL vs),.int .u64 0],.bool true]) (by simp[results,Tryz.results14,go_sem,q4]) rfl ?_;refine⟨?_,aft_above hR.out f5.out hkf.out (fun k q=>by omega)⟩;rw[hres.out];rfl
     |some i=>
      unfold tupu at hcl;replace hcl:=ζ hcl;go_upto_region 18 with(go_at_call 25;refine hcl.out.mono ?_;rintro r W4 ⟨rfl,g4⟩;have O3:W4.cell? ⟨ko,3,none⟩=some (.int .u64 0):=(at_past o3.out g4).2.1 3;have ofz4:=(at_past o3.out g4).2.2;have olt4:=(at_past o3.out g4).1;replace g4:=ζ g4)
      have o4:=at_past o3.out g4.out;have z4:=at_past z3.out g4.out;have f4:=aft_below f3.out g4.out;refine wp_world (fun W5=>Kp (fun k=>k=ko) W4 W5∧At W5 ko #[.bool true,.int .u64 s,.int .u64 (mcL vs),.int .u64 i]) ⟨Kp.set _ ⟨ko,3,none⟩ _ rfl,by simpa using o4.set 3 (.int .u64 i) (by simp)⟩ ?_;rintro W5 ⟨hk5,o5⟩;have z5:=at_keep z4 hk5 (by omega);have f5:=aft_above hR.out f4 hk5 (fun k q=>by omega);have P0:W5.cell? ⟨ko,0,none⟩=some (.bool true):=o5.2.1 0;have P1:W5.cell? ⟨ko,1,none⟩=some (.int .u64 s):=o5.2.1 1;have P2:W5.cell? ⟨ko,2,none⟩=some (.int .u64 (mcL vs)):=o5.2.1 2;have P3:W5.cell? ⟨ko,3,none⟩=some (.int .u64 i):=o5.2.1 3;have⟨zl,zp,zf⟩:=z5;have hfin:=ζ (At.setAll (cs:=[Value.bool false,.int .u64 0,.int .u64 0,.int .u64 0]) z5 [Value.bool true,.int .u64 s,.int .u64 (mcL vs),.int .u64 i] rfl);have hkf:=ζ (kp_sets W5 (w.heap.size+1) [Value.bool true,.int .u64 s,.int .u64 (mcL vs),.int .u64 i] 0)
      replace f5:=ζ f5;clear o4 z4 z5 f4 O3 ofz4 olt4 hk5 o5;go_wp2_with fail;have⟨_,q4,_⟩:=hfin.out;simp only[World.setCells]at q4;refine bodyPost_ret (v:=.tuple #[.agg #[.bool true,.int .u64 s,.int .u64 (mcL vs),.int .u64 i],.bool true]) (by simp[results,Tryz.results14,go_sem,q4]) rfl ?_;refine⟨?_,aft_above hR.out f5.out hkf.out (fun k q=>by omega)⟩;rw[hres.out];rfl
theorem findc_any (B km:Nat)(m:PImg)(ra:Option Addr)(rc:Nat)(ca:Option Addr)(cc:Nat)(ga:Option Addr)(gc:Nat)(hok:BOk m)(p:Pl)(hp:p.qf=22)(hbB:B≤p.b)(hkm:km≠p.b)(d:Nat):
 AskC (IEnv B km m ra rc ca cc ga gc) p encc tupc (nxG m) (ctF m) (List.range m.gates.length) d→FindC 13 #[pv km] (IEnv B km m ra rc ca cc ga gc) p encc tupc (nxG m) (ctF m) (List.range m.gates.length) d:=by
 intro hask w n S M nn hE hR hS hA hm hl hb;have hD:=fun W (q:Below w.heap.size w W)=>costOf_any B km m ra rc ca cc ga gc hok p hp hbB hkm d hask W n S M nn (hE.below q) (hR.below q) hS hA hm hl hb
 have hqv:p.qv=.func (.func 22) #[] #[.pointer (some ⟨p.kA,0,none⟩),.pointer (some ⟨p.kF,0,none⟩),.pointer (some ⟨p.kQ,0,none⟩)]:=by unfold Pl.qv pv;rw[hp]
 show Calls Tryz.prog 13 #[.int .i64 n,p.qv,.pointer (some ⟨km,0,none⟩)] w _;rw[hqv]at hD ⊢;have KI:∀W,Below w.heap.size w W→W.cell? ⟨km,0,none⟩=some (.slice ra m.regs.length rc)∧W.cell? ⟨km,1,none⟩=some (.slice ca m.comps.length cc)∧W.cell? ⟨km,2,none⟩=some (.slice ga m.gates.length gc)∧W.cell? ⟨km,3,none⟩=some (.int .i64 m.depth):=fun W q=>by
  have a:=(hE.below q).i.2.1;exact⟨a 0,a 1,a 2,a 3⟩
 unfold imA at hD;have hpb:=hR.m.lt;have hR0:=ζ hR;have hst:∀W,Below w.heap.size w W→Kp (fun k=>k=p.b) w W:=fun W q=>Kp.of_below q
 clear hask hE hR hS hA hm hl hb hqv hok;generalize ev (nxG m) (ctF m) (List.range m.gates.length) n=res at*;generalize List.range m.gates.length=U at*;replace hD:=ζ hD;replace KI:=ζ KI;replace hst:=ζ hst;go_enter Tryz.func13,Tryz.ntmps13;go_upto_region 1 with fail
 refine wp_world (fun W=>At W w.heap.size #[.bool false,.int .u64 0,.int .u64 0,.int .u64 0]∧Below w.heap.size w W) ⟨At.new w _ _,(Below.refl _ _).alloc (Nat.le_refl _) _⟩ ?_;rintro W ⟨A0,hB⟩;obtain⟨k0,k1,k2,k3⟩:=KI.out W hB;have hcl:=hD.out W hB;have hne:w.heap.size≠p.b:=by omega
 replace A0:=ζ A0;replace hB:=ζ hB
 cases res with
 |some v=>
  unfold tupc at hcl;replace hcl:=ζ hcl;go_wp2_with(go_at_call 14;refine hcl.out.mono ?_;rintro r W2 ⟨rfl,g⟩;have gk:=(show Kp (fun k=>k=p.b) W W2 by{obtain⟨_,_,_,_,_,_,q⟩:=g;exact q});have A2:=at_keep A0.out gk (by omega);have⟨zl,zp,zf⟩:=A2;have hfin:=ζ (At.setAll (cs:=[Value.bool false,.int .u64 0,.int .u64 0,.int .u64 0]) A2 [Value.bool true,.int .u64 v.s,.int .u64 v.c,.int .u64 v.i] rfl);have hkf:=ζ (kp_sets W2 w.heap.size [Value.bool true,.int .u64 v.s,.int .u64 v.c,.int .u64 v.i] 0);clear A2;replace g:=ζ g;replace gk:=ζ gk);have⟨_,q4,_⟩:=hfin.out;simp only[World.setCells]at q4;refine bodyPost_ret (v:=.tuple #[.agg #[.bool true,.int .u64 v.s,.int .u64 v.c,.int .u64 v.i],.bool true]) (by simp[results,Tryz.results13,go_sem,q4]) rfl ?_;refine⟨rfl,?_⟩;obtain⟨M',nn',r1,r2,r3,r4,r5⟩:=g.out;exact⟨M',nn',r1.above hR0.out hkf.out (fun k q=>by omega),r2,r3,r4,((hst.out W hB.out).trans r5 (fun k q=>.inl q)).trans hkf.out (fun k q=>.inr (by omega))⟩
 |none=>
  unfold tupc at hcl;replace hcl:=ζ hcl;go_wp2_with(go_at_call 14;refine hcl.out.mono ?_;rintro r W2 ⟨rfl,g⟩;have gk:=(show Kp (fun k=>k=p.b) W W2 by{obtain⟨_,_,_,_,_,_,q⟩:=g;exact q});have A2:=at_keep A0.out gk (by omega);have⟨zl,zp,zf⟩:=A2;have hfin:=ζ (At.setAll (cs:=[Value.bool false,.int .u64 0,.int .u64 0,.int .u64 0]) A2 [Value.bool false,.int .u64 0,.int .u64 0,.int .u64 0] rfl);have hkf:=ζ (kp_sets W2 w.heap.size [Value.bool false,.int .u64 0,.int .u64 0,.int .u64 0] 0);clear A2;replace g:=ζ g;replace gk:=ζ gk);have⟨_,q4,_⟩:=hfin.out;simp only[World.setCells]at q4;refine bodyPost_ret (v:=.tuple #[.agg #[.bool false,.int .u64 0,.int .u64 0,.int .u64 0],.bool false]) (by simp[results,Tryz.results13,go_sem,q4]) rfl ?_;refine⟨rfl,?_⟩;obtain⟨M',nn',r1,r2,r3,r4,r5⟩:=g.out;exact⟨M',nn',r1.above hR0.out hkf.out (fun k q=>by omega),r2,r3,r4,((hst.out W hB.out).trans r5 (fun k q=>.inl q)).trans hkf.out (fun k q=>.inr (by omega))⟩
def hgB (m:PImg)(g:Int):Bool:=decide (m.right=0)&&(decide (0≤g)&&decide (g<m.gates.length))
theorem hasGate_any (m:PImg)(ra ca ga:Option Addr)(rc cc gc:Nat)(g:Int)(w:World)(ht:TabIn w)(hm:ImgIn w.heap.size w ra ca ga m)(hr:m.Rng):
 Calls Tryz.prog 11 #[imA m ra rc ca cc ga gc,.int .i64 g] w fun e w'=>e=.returned (.bool (hgB m g))∧Below w.heap.size w w':=by
 have hR:=ζ (fun W (q:Gr w W)=>imgRight_any m ra ca ga rc cc gc W (ht.gr q) ((hm.below q.below).mono q.below.size) hr);unfold imA hgB;clear hm hr ht;generalize hq:m.right=e0 at*;clear hq;by_cases h0:e0=0
 ·subst h0;by_cases h1:0≤g
  ·by_cases h2:g<(m.gates.length:Int)
   ·rw[decide_eq_true h1,decide_eq_true h2];go_enter Tryz.func11,Tryz.ntmps11;go_wp2_with(go_at_call 15;refine(hR.out _ ((Gr.refl _).alloc _)).mono ?_;rintro r W1 ⟨rfl,g1⟩;have A1:=(At.new w #[.slice ra m.regs.length rc,.slice ca m.comps.length cc,.slice ga m.gates.length gc,.int .i64 m.depth] 40).gr g1;have a2:W1.cell? ⟨w.heap.size,2,none⟩=some (.slice ga m.gates.length gc):=A1.2.1 2;replace g1:=ζ g1;clear A1);go_ret;exact⟨rfl,(bl_alloc _ _).trans (g1.out.below.mono (by simp))⟩
   ·rw[decide_eq_true h1];have h3:(m.gates.length:Int)≤g:=by omega
    go_enter Tryz.func11,Tryz.ntmps11;go_wp2_with(go_at_call 15;refine(hR.out _ ((Gr.refl _).alloc _)).mono ?_;rintro r W1 ⟨rfl,g1⟩;have A1:=(At.new w #[.slice ra m.regs.length rc,.slice ca m.comps.length cc,.slice ga m.gates.length gc,.int .i64 m.depth] 40).gr g1;have a2:W1.cell? ⟨w.heap.size,2,none⟩=some (.slice ga m.gates.length gc):=A1.2.1 2;replace g1:=ζ g1;clear A1);go_ret;exact⟨by simp,(bl_alloc _ _).trans (g1.out.below.mono (by simp))⟩
  ·rw[decide_eq_false h1];have h3:g<0:=by omega
   have h4:decide ((0:Int)≤g)=false:=decide_eq_false h1;go_enter Tryz.func11,Tryz.ntmps11;go_wp2_with(go_at_call 15;refine(hR.out _ ((Gr.refl _).alloc _)).mono ?_;rintro r W1 ⟨rfl,g1⟩;have A1:=(At.new w #[.slice ra m.regs.length rc,.slice ca m.comps.length cc,.slice ga m.gates.length gc,.int .i64 m.depth] 40).gr g1;have a2:W1.cell? ⟨w.heap.size,2,none⟩=some (.slice ga m.gates.length gc):=A1.2.1 2;replace g1:=ζ g1;clear A1);go_ret;exact⟨rfl,(bl_alloc _ _).trans (g1.out.below.mono (by simp))⟩
 ·have h3:(e0==0)=false:=by simpa using h0
  rw[decide_eq_false h0];go_enter Tryz.func11,Tryz.ntmps11;go_wp2_with(go_at_call 15;refine(hR.out _ ((Gr.refl _).alloc _)).mono ?_;rintro r W1 ⟨rfl,g1⟩;have A1:=(At.new w #[.slice ra m.regs.length rc,.slice ca m.comps.length cc,.slice ga m.gates.length gc,.int .i64 m.depth] 40).gr g1;have a2:W1.cell? ⟨w.heap.size,2,none⟩=some (.slice ga m.gates.length gc):=A1.2.1 2;replace g1:=ζ g1;clear A1);go_ret;exact⟨rfl,(bl_alloc _ _).trans (g1.out.below.mono (by simp))⟩
theorem Deep_any (m:PImg)(ra ca ga:Option Addr)(rc cc gc:Nat)(g:Int)(w:World)(ht:TabIn w)(hm:ImgIn w.heap.size w ra ca ga m)(hr:m.Rng):
 Calls Tryz.prog 10 #[imA m ra rc ca cc ga gc,.int .i64 g] w fun e w'=>e=.returned (tupi (if hgB m g=true then ev (nxG m) dpF (List.range m.gates.length) g.toNat else none))∧Below w.heap.size w w':=by
 have hH:=ζ (fun W (q:Below w.heap.size w W) (t:TabIn W)=>hasGate_any m ra ca ga rc cc gc g W t ((hm.below q).mono q.size) hr);have hT:=fun W (q:Below w.heap.size w W)=>ht.below q ht.size
 cases hh:hgB m g with
 |false=>
  rw[if_neg Bool.false_ne_true];rw[hh]at hH;unfold imA at*;clear hm hr ht;unfold tupi;go_enter Tryz.func10,Tryz.ntmps10;go_upto_region 1 with fail
  refine wp_world (fun W=>At W w.heap.size #[.slice ra m.regs.length rc,.slice ca m.comps.length cc,.slice ga m.gates.length gc,.int .i64 m.depth]∧Below w.heap.size w W) ⟨At.new w _ _,bl_alloc _ _⟩ ?_;rintro W ⟨A0,hB⟩;have a0:=A0.2.1;have k0:W.cell? ⟨w.heap.size,0,none⟩=some (.slice ra m.regs.length rc):=a0 0;have k1:W.cell? ⟨w.heap.size,1,none⟩=some (.slice ca m.comps.length cc):=a0 1;have k2:W.cell? ⟨w.heap.size,2,none⟩=some (.slice ga m.gates.length gc):=a0 2;have k3:W.cell? ⟨w.heap.size,3,none⟩=some (.int .i64 m.depth):=a0 3;have hcl:=ζ (hH.out W hB (hT W hB));replace hT:=ζ hT;replace A0:=ζ A0;replace hB:=ζ hB;clear a0;go_wp2_with(go_at_call 11;refine hcl.out.mono ?_;rintro r W1 ⟨rfl,g1⟩;replace g1:=ζ g1);refine bodyPost_ret (v:=.tuple #[.int .i64 0,.bool false]) (by simp[results,Tryz.results10,go_sem]) rfl ?_;exact⟨rfl,hB.out.trans (g1.out.mono hB.out.size)⟩
 |true=>
  rw[if_pos rfl];rw[hh]at hH;have hg0:m.right=0∧0≤g∧g<m.gates.length:=by simpa [hgB]using hh
  have hok:=bok_of m hg0.1;obtain⟨gn,rfl⟩:∃gn:Nat,g=(gn:Int):=⟨g.toNat,by omega⟩;rw[Int.toNat_natCast];have hgl:=hok.gl;have hask:∀(W W1:World) (p:Pl),Below w.heap.size w W→At W w.heap.size #[.slice ra m.regs.length rc,.slice ca m.comps.length cc,.slice ga m.gates.length gc,.int .i64 m.depth]→p.qf=41→p.fv=.func (.func 20) #[] #[pv w.heap.size]→Rem p enci W1 0 (fun _=>none)→Below W.heap.size W W1→W.heap.size≤p.b→
   Calls Tryz.prog 41 #[.int .i64 gn,.pointer (some ⟨p.kA,0,none⟩),.pointer (some ⟨p.kF,0,none⟩),.pointer (some ⟨p.kQ,0,none⟩)] W1 fun r w'=>r=.returned (tupi (ev (nxG m) dpF (List.range m.gates.length) gn))∧Below w.heap.size w w':=by
   intro W W1 p hB aT hp hf hR hB1 hpb;have n1:w.heap.size≠p.b:=by have:=aT.1;omega
   have n3:w.heap.size≤p.b:=by have:=hB.size;omega
   have h2:=hB.trans (hB1.mono hB.size);have hE1:IEnv w.heap.size w.heap.size m ra rc ca cc ga gc W1:=⟨at_past aT hB1,hm.below h2,h2.size⟩;have hA:=aski_any w.heap.size (IEnv w.heap.size w.heap.size m ra rc ca cc ga gc) p hp hf (fun X X' e q=>e.keep q n3 n1) (nxG m) dpF (List.range m.gates.length) (fun x hx=>by rw[List.mem_range]at hx;omega)
    (fun d=>findi_any w.heap.size w.heap.size m ra rc ca cc ga gc hok p hp n3 n1 d) m.gates.length
   have h:=hA W1 gn (fun _=>False) (fun _=>none) 0 hE1 hR (memo_none _ _ _) (fun _ h=>h.elim) (List.mem_range.2 (by omega)) (by rw[left_all,List.length_range];exact Nat.le_refl _) (by rw[left_all,List.length_range];omega);rw[hp]at h;refine h.mono ?_;rintro r w' ⟨e1,M',nn',g1,g2,g3,g4,g5⟩;exact⟨e1,h2.trans (g5.below h2.size (fun k q=>by omega))⟩
  have hmf:∀(fn:Fn) (first cap:Array Value) (w:World),(Instr.makeFunc fn first cap).run Tryz.prog w=.ok (.func fn first cap) w:=fun _ _ _ _=>rfl
  have hRm:=ζ (fun W=>remi_any w.heap.size W);generalize ev (nxG m) dpF (List.range m.gates.length) gn=res at*;replace hask:=ζ hask;unfold imA pv at*;clear hm hr ht hok hg0 hgl hh;go_enter Tryz.func10,Tryz.ntmps10;go_upto_region 1 with fail
  refine wp_world (fun W=>At W w.heap.size #[.slice ra m.regs.length rc,.slice ca m.comps.length cc,.slice ga m.gates.length gc,.int .i64 m.depth]∧Below w.heap.size w W) ⟨At.new w _ _,bl_alloc _ _⟩ ?_;rintro W ⟨A0,hB⟩;have a0:=A0.2.1;have k0:W.cell? ⟨w.heap.size,0,none⟩=some (.slice ra m.regs.length rc):=a0 0;have k1:W.cell? ⟨w.heap.size,1,none⟩=some (.slice ca m.comps.length cc):=a0 1;have k2:W.cell? ⟨w.heap.size,2,none⟩=some (.slice ga m.gates.length gc):=a0 2;have k3:W.cell? ⟨w.heap.size,3,none⟩=some (.int .i64 m.depth):=a0 3;have hcl:=ζ (hH.out W hB (hT W hB));replace hT:=ζ hT;replace A0:=ζ A0;replace hB:=ζ hB;clear a0 hH;go_upto_region 3 with(go_at_call 11;refine hcl.out.mono ?_;rintro r W1 ⟨rfl,g1⟩;replace g1:=ζ g1)
  have A1:=ζ (at_past A0.out g1.out);have hB1:=ζ (hB.out.trans (g1.out.mono hB.out.size));clear k0 k1 k2 k3 hcl;go_upto_region 4 with(go_at_call 19;refine(hRm.out _).mono ?_;rintro r W2 ⟨p,rfl,hp,hf,hR,hB2,hpb⟩;have hqv:p.qv=.func (.func 41) #[] #[.pointer (some ⟨p.kA,0,none⟩),.pointer (some ⟨p.kF,0,none⟩),.pointer (some ⟨p.kQ,0,none⟩)]:=(by unfold Pl.qv pv;rw[hp]);rw[hqv];have hcl:=ζ (hask.out W1 W2 p hB1.out A1.out hp hf hR hB2 hpb);clear hqv hp hf hR hB2 hpb)
  cases res with
  |some v=>
   unfold tupi at hcl;go_wp2_with(go_at_call 41;refine hcl.out.mono ?_;rintro r W3 ⟨rfl,g3⟩;replace g3:=ζ g3);refine bodyPost_ret (v:=.tuple #[.int .i64 v,.bool true]) (by simp[results,Tryz.results10,go_sem]) rfl ?_;exact⟨rfl,g3.out⟩
  |none=>
   unfold tupi at hcl;go_wp2_with(go_at_call 41;refine hcl.out.mono ?_;rintro r W3 ⟨rfl,g3⟩;replace g3:=ζ g3);refine bodyPost_ret (v:=.tuple #[.int .i64 0,.bool false]) (by simp[results,Tryz.results10,go_sem]) rfl ?_;exact⟨rfl,g3.out⟩
def gtV:Option Cst→Value
 |some v=>.agg #[.bool true,.int .u64 v.s,.int .u64 v.c,.int .u64 v.i]
 |none=>.agg #[.bool false,.int .u64 0,.int .u64 0,.int .u64 0]
theorem Gate_any (m:PImg)(ra ca ga:Option Addr)(rc cc gc:Nat)(g:Int)(w:World)(ht:TabIn w)(hm:ImgIn w.heap.size w ra ca ga m)(hr:m.Rng):
 Calls Tryz.prog 6 #[imA m ra rc ca cc ga gc,.int .i64 g] w fun e w'=>e=.returned (gtV (if hgB m g=true then ev (nxG m) (ctF m) (List.range m.gates.length) g.toNat else none))∧Below w.heap.size w w':=by
 have hH:=ζ (fun W (q:Below w.heap.size w W) (t:TabIn W)=>hasGate_any m ra ca ga rc cc gc g W t ((hm.below q).mono q.size) hr);have hT:=fun W (q:Below w.heap.size w W)=>ht.below q ht.size
 cases hh:hgB m g with
 |false=>
  rw[if_neg Bool.false_ne_true];rw[hh]at hH;unfold imA at*;clear hm hr ht;unfold gtV;go_enter Tryz.func6,Tryz.ntmps6;go_upto_region 1 with fail
  refine wp_world (fun W=>At W w.heap.size #[.slice ra m.regs.length rc,.slice ca m.comps.length cc,.slice ga m.gates.length gc,.int .i64 m.depth]∧At W (w.heap.size+1) #[.bool false,.int .u64 0,.int .u64 0,.int .u64 0]∧Below w.heap.size w W) ⟨at_past (At.new w _ _) (bl_alloc _ _),At.next w _ _ _,(bl_alloc _ _).trans ((bl_alloc _ _).mono (by simp))⟩ ?_;rintro W ⟨A0,B0,hB⟩;have a0:=A0.2.1;have k0:W.cell? ⟨w.heap.size,0,none⟩=some (.slice ra m.regs.length rc):=a0 0;have k1:W.cell? ⟨w.heap.size,1,none⟩=some (.slice ca m.comps.length cc):=a0 1;have k2:W.cell? ⟨w.heap.size,2,none⟩=some (.slice ga m.gates.length gc):=a0 2;have k3:W.cell? ⟨w.heap.size,3,none⟩=some (.int .i64 m.depth):=a0 3;have hcl:=ζ (hH.out W hB (hT W hB));replace hT:=ζ hT;replace A0:=ζ A0;replace B0:=ζ B0;have hws:=hB.size;replace hB:=ζ hB;clear a0;go_wp2_with(go_at_call 11;refine hcl.out.mono ?_;rintro r W1 ⟨rfl,g1⟩;have A2:=at_past B0.out g1;have⟨zl,zp,zf⟩:=A2;have hfin:=ζ (At.setAll (cs:=[Value.bool false,.int .u64 0,.int .u64 0,.int .u64 0]) A2 [Value.bool false,.int .u64 0,.int .u64 0,.int .u64 0] rfl);have hkf:=ζ ((kp_sets W1 (w.heap.size+1) [Value.bool false,.int .u64 0,.int .u64 0,.int .u64 0] 0).below (B:=w.heap.size) (by have:=g1.size;omega) (fun k q=>by omega));clear A2;replace g1:=ζ g1)
  have⟨_,q4,_⟩:=hfin.out;simp only[World.setCells]at q4;refine bodyPost_ret (v:=.agg #[.bool false,.int .u64 0,.int .u64 0,.int .u64 0]) (by simp[results,Tryz.results6,go_sem,q4]) rfl ?_;exact⟨rfl,(hB.out.trans (g1.out.mono hB.out.size)).trans hkf.out⟩
 |true=>
  rw[if_pos rfl];rw[hh]at hH;have hg0:m.right=0∧0≤g∧g<m.gates.length:=by simpa [hgB]using hh
  have hok:=bok_of m hg0.1;obtain⟨gn,rfl⟩:∃gn:Nat,g=(gn:Int):=⟨g.toNat,by omega⟩;rw[Int.toNat_natCast];have hgl:=hok.gl;have hask:∀(W W1:World) (p:Pl),Below w.heap.size w W→At W w.heap.size #[.slice ra m.regs.length rc,.slice ca m.comps.length cc,.slice ga m.gates.length gc,.int .i64 m.depth]→At W (w.heap.size+1) #[.bool false,.int .u64 0,.int .u64 0,.int .u64 0]→p.qf=22→p.fv=.func (.func 13) #[] #[pv w.heap.size]→Rem p encc W1 0 (fun _=>none)→Below W.heap.size W W1→W.heap.size≤p.b→
   Calls Tryz.prog 22 #[.int .i64 gn,.pointer (some ⟨p.kA,0,none⟩),.pointer (some ⟨p.kF,0,none⟩),.pointer (some ⟨p.kQ,0,none⟩)] W1 fun r w'=>r=.returned (tupc (ev (nxG m) (ctF m) (List.range m.gates.length) gn))∧Below w.heap.size w w'∧At w' (w.heap.size+1) #[.bool false,.int .u64 0,.int .u64 0,.int .u64 0]:=by
   intro W W1 p hB aT bT hp hf hR hB1 hpb;have n1:w.heap.size≠p.b:=by have:=aT.1;omega
   have n2:w.heap.size+1≠p.b:=by have:=bT.1;omega
   have n3:w.heap.size≤p.b:=by have:=hB.size;omega
   have h2:=hB.trans (hB1.mono hB.size);have hE1:IEnv w.heap.size w.heap.size m ra rc ca cc ga gc W1:=⟨at_past aT hB1,hm.below h2,h2.size⟩;have hA:=askc_any w.heap.size (IEnv w.heap.size w.heap.size m ra rc ca cc ga gc) p hp hf (fun X X' e q=>e.keep q n3 n1) (nxG m) (ctF m) (List.range m.gates.length) (fun x hx=>by rw[List.mem_range]at hx;omega)
    (fun d=>findc_any w.heap.size w.heap.size m ra rc ca cc ga gc hok p hp n3 n1 d) m.gates.length
   have h:=hA W1 gn (fun _=>False) (fun _=>none) 0 hE1 hR (memo_none _ _ _) (fun _ h=>h.elim) (List.mem_range.2 (by omega)) (by rw[left_all,List.length_range];exact Nat.le_refl _) (by rw[left_all,List.length_range];omega);rw[hp]at h;refine h.mono ?_;rintro r w' ⟨e1,M',nn',g1,g2,g3,g4,g5⟩;exact⟨e1,h2.trans (g5.below h2.size (fun k q=>by omega)),at_keep (at_past bT hB1) g5 n2⟩
  have hmf:∀(fn:Fn) (first cap:Array Value) (w:World),(Instr.makeFunc fn first cap).run Tryz.prog w=.ok (.func fn first cap) w:=fun _ _ _ _=>rfl
  have hRm:=ζ (fun W=>remc_any w.heap.size W);generalize ev (nxG m) (ctF m) (List.range m.gates.length) gn=res at*;replace hask:=ζ hask;unfold imA pv at*;clear hm hr ht hok hg0 hgl hh;go_enter Tryz.func6,Tryz.ntmps6;go_upto_region 1 with fail
  refine wp_world (fun W=>At W w.heap.size #[.slice ra m.regs.length rc,.slice ca m.comps.length cc,.slice ga m.gates.length gc,.int .i64 m.depth]∧At W (w.heap.size+1) #[.bool false,.int .u64 0,.int .u64 0,.int .u64 0]∧Below w.heap.size w W) ⟨at_past (At.new w _ _) (bl_alloc _ _),At.next w _ _ _,(bl_alloc _ _).trans ((bl_alloc _ _).mono (by simp))⟩ ?_;rintro W ⟨A0,B0,hB⟩;have a0:=A0.2.1;have k0:W.cell? ⟨w.heap.size,0,none⟩=some (.slice ra m.regs.length rc):=a0 0;have k1:W.cell? ⟨w.heap.size,1,none⟩=some (.slice ca m.comps.length cc):=a0 1;have k2:W.cell? ⟨w.heap.size,2,none⟩=some (.slice ga m.gates.length gc):=a0 2;have k3:W.cell? ⟨w.heap.size,3,none⟩=some (.int .i64 m.depth):=a0 3;have hcl:=ζ (hH.out W hB (hT W hB));replace hT:=ζ hT;replace A0:=ζ A0;replace B0:=ζ B0;replace hB:=ζ hB;clear a0 hH;go_upto_region 3 with(go_at_call 11;refine hcl.out.mono ?_;rintro r W1 ⟨rfl,g1⟩;replace g1:=ζ g1)
  have A1:=ζ (at_past A0.out g1.out);have B1:=ζ (at_past B0.out g1.out);have hB1:=ζ (hB.out.trans (g1.out.mono hB.out.size));clear k0 k1 k2 k3 hcl;go_upto_region 4 with(go_at_call 12;refine(hRm.out _).mono ?_;rintro r W2 ⟨p,rfl,hp,hf,hR,hB2,hpb⟩;have hqv:p.qv=.func (.func 22) #[] #[.pointer (some ⟨p.kA,0,none⟩),.pointer (some ⟨p.kF,0,none⟩),.pointer (some ⟨p.kQ,0,none⟩)]:=(by unfold Pl.qv pv;rw[hp]);rw[hqv];have hcl:=ζ (hask.out W1 W2 p hB1.out A1.out B1.out hp hf hR hB2 hpb);clear hqv hp hf hR hB2 hpb)
  cases res with
  |some v=>
   unfold tupc at hcl;go_upto_region 5 with(go_at_call 22;refine hcl.out.mono ?_;rintro r W3 ⟨rfl,g3,b3⟩;replace g3:=ζ g3;replace b3:=ζ b3)
   refine wp_world (fun X=>Below W3.heap.size W3 X∧At X W3.heap.size #[.bool true,.int .u64 v.s,.int .u64 v.c,.int .u64 v.i]) ⟨(by repeat(first|exact Below.refl _ _|refine Below.alloc ?_ (by simp<;>omega) _|refine Below.setCell ?_ (by simp<;>omega) _)),At.new W3 _ _⟩ ?_;rintro X ⟨hB3,r9⟩;have A2:=at_past b3.out hB3;have⟨zl,zp,zf⟩:=A2;have hw3:=g3.out.size;have hw4:=hB3.size;generalize W3.heap.size=k9 at*;have P0:X.cell? ⟨k9,0,none⟩=some (.bool true):=r9.2.1 0;have P1:X.cell? ⟨k9,1,none⟩=some (.int .u64 v.s):=r9.2.1 1;have P2:X.cell? ⟨k9,2,none⟩=some (.int .u64 v.c):=r9.2.1 2;have P3:X.cell? ⟨k9,3,none⟩=some (.int .u64 v.i):=r9.2.1 3;have hfin:=ζ (At.setAll (cs:=[Value.bool false,.int .u64 0,.int .u64 0,.int .u64 0]) A2 [Value.bool true,.int .u64 v.s,.int .u64 v.c,.int .u64 v.i] rfl);have hkf:=ζ ((kp_sets X (w.heap.size+1) [Value.bool true,.int .u64 v.s,.int .u64 v.c,.int .u64 v.i] 0).below (B:=w.heap.size) (by omega) (fun k q=>by omega))
   have hBX:=ζ (g3.out.trans (hB3.mono hw3));clear A2 hB3 r9;go_wp2_with fail;have⟨_,q4,_⟩:=hfin.out;simp only[World.setCells]at q4;refine bodyPost_ret (v:=.agg #[.bool true,.int .u64 v.s,.int .u64 v.c,.int .u64 v.i]) (by simp[results,Tryz.results6,go_sem,q4]) rfl ?_;exact⟨rfl,hBX.out.trans hkf.out⟩
  |none=>
   unfold tupc at hcl;go_upto_region 5 with(go_at_call 22;refine hcl.out.mono ?_;rintro r W3 ⟨rfl,g3,b3⟩;replace g3:=ζ g3;replace b3:=ζ b3)
   refine wp_world (fun X=>Below W3.heap.size W3 X∧At X W3.heap.size #[.bool false,.int .u64 0,.int .u64 0,.int .u64 0]) ⟨(by repeat(first|exact Below.refl _ _|refine Below.alloc ?_ (by simp<;>omega) _|refine Below.setCell ?_ (by simp<;>omega) _)),At.new W3 _ _⟩ ?_;rintro X ⟨hB3,r9⟩;have A2:=at_past b3.out hB3;have⟨zl,zp,zf⟩:=A2;have hw3:=g3.out.size;have hw4:=hB3.size;generalize W3.heap.size=k9 at*;have P0:X.cell? ⟨k9,0,none⟩=some (.bool false):=r9.2.1 0;have P1:X.cell? ⟨k9,1,none⟩=some (.int .u64 0):=r9.2.1 1;have P2:X.cell? ⟨k9,2,none⟩=some (.int .u64 0):=r9.2.1 2;have P3:X.cell? ⟨k9,3,none⟩=some (.int .u64 0):=r9.2.1 3;have hfin:=ζ (At.setAll (cs:=[Value.bool false,.int .u64 0,.int .u64 0,.int .u64 0]) A2 [Value.bool false,.int .u64 0,.int .u64 0,.int .u64 0] rfl);have hkf:=ζ ((kp_sets X (w.heap.size+1) [Value.bool false,.int .u64 0,.int .u64 0,.int .u64 0] 0).below (B:=w.heap.size) (by omega) (fun k q=>by omega))
   have hBX:=ζ (g3.out.trans (hB3.mono hw3));clear A2 hB3 r9;go_wp2_with fail;have⟨_,q4,_⟩:=hfin.out;simp only[World.setCells]at q4;refine bodyPost_ret (v:=.agg #[.bool false,.int .u64 0,.int .u64 0,.int .u64 0]) (by simp[results,Tryz.results6,go_sem,q4]) rfl ?_;exact⟨rfl,hBX.out.trans hkf.out⟩
open F (rchB)
def oneP (L:List Ins):PImg:=⟨[],[⟨[],L⟩],[⟨0,0,[],[]⟩],1⟩
theorem calL_none {L:List Ins}{e:Int}(h:∀k∈L,k.op≠31):calL L e=[]:=by
 unfold calL;rw[List.map_eq_nil_iff,List.filter_eq_nil_iff];intro pc hp;rw[List.mem_range]at hp;unfold calB;rw[List.getElem?_eq_getElem hp];have:=h _ (List.getElem_mem hp);simp[this]
def cst1 (L:List Ins):Option Cst:=
 match sumS L (stF L (fun _=>0)) 0 with
 |none=>none
 |some s=>if 1099511627776<s then none else some ⟨s,0,(sumS L (inF L (fun _=>0)) 0).getD 0⟩
theorem nxG_one {L:List Ins}(h:∀k∈L,k.op≠31):nxG (oneP L) 0=[]:=calL_none h
theorem gate_one {L:List Ins}(h:∀k∈L,k.op≠31):ev (nxG (oneP L)) (ctF (oneP L)) (List.range (oneP L).gates.length) 0=cst1 L:=by
 have e:=nxG_one h;show evF (nxG (oneP L)) (ctF (oneP L)) 1 0=_;rw[evF_put (vs:=[]) (by rw[e];rfl)];unfold ctF;rw[e]
 rfl
theorem deep_one {L:List Ins}(h:∀k∈L,k.op≠31):ev (nxG (oneP L)) dpF (List.range (oneP L).gates.length) 0=some 0:=by
 have e:=nxG_one h;show evF (nxG (oneP L)) dpF 1 0=_;rw[evF_put (vs:=[]) (by rw[e];rfl)]
 rfl
theorem one_rng {L:List Ins}(h:L.length≤400)(ho:OpsIn L):(oneP L).Rng:=
 ⟨⟨by unfold maxG;simp[oneP],fun r q=>by cases q⟩,⟨by unfold maxG;simp[oneP],fun c q=>by
  have:c=⟨[],L⟩:=by simpa [oneP]using q
  subst this;exact⟨by unfold maxG;simp,by unfold maxI;show L.length≤_;omega,ho,fun k q=>(by cases q)⟩⟩,
  ⟨by unfold maxG;simp[oneP],fun g q=>by
   have:g=⟨0,0,[],[]⟩:=by simpa [oneP]using q
   subst this;exact⟨by unfold J64;show -9223372036854775808≤(0:Int)∧(0:Int)<9223372036854775808;omega,by unfold J64;show -9223372036854775808≤(0:Int)∧(0:Int)<9223372036854775808;omega,by unfold maxG;simp,by unfold maxG;simp,⟨fun k q=>(by cases q),fun k q=>(by cases q)⟩⟩⟩,by show J64 1;unfold J64;omega⟩
def sm1:List Ins:=[⟨1,1,0,0,5⟩,⟨27,1,0,0,0⟩]
def sm2:List Ins:=[⟨29,1,0,0,0⟩,⟨21,1,0,0,4⟩,⟨29,2,0,0,0⟩,⟨30,2,0,0,0⟩,⟨32,0,0,0,0⟩]
def sm3:List Ins:=[⟨11,1,1,0, -1⟩,⟨22,1,0,0,0⟩,⟨32,0,0,0,0⟩]
theorem sm1_c:cst1 sm1=some ⟨2,0,0⟩:=by kernel_rfl
theorem sm2_c:cst1 sm2=some ⟨5,0,2⟩:=by kernel_rfl
theorem sm3_c:cst1 sm3=none:=by kernel_rfl
theorem sm1_h:hgB (oneP sm1) 0=true:=by kernel_rfl
theorem sm2_h:hgB (oneP sm2) 0=true:=by kernel_rfl
theorem sm3_h:hgB (oneP sm3) 0=true:=by kernel_rfl
theorem ops_in (L:List Ins)(h:(L.all fun k=>decide (0≤k.op)&&decide (k.op<256))=true):OpsIn L:=fun k hk=>by
 have:=List.all_eq_true.1 h k hk;simpa using this
theorem one_any (L:List Ins)(ka:Option Addr)(kc:Nat)(w:World)(hL:LIn w.heap.size w ka L):
 Calls Tryz.prog 9 #[.slice ka L.length kc] w fun e w'=>∃c g,e=.returned (imA (oneP L) none 0 (some ⟨c,0,none⟩) 1 (some ⟨g,0,none⟩) 1)∧ImgIn w'.heap.size w' none (some ⟨c,0,none⟩) (some ⟨g,0,none⟩) (oneP L)∧Below w.heap.size w w':=by
 replace hL:=ζ hL;go_enter Tryz.func9,Tryz.ntmps9;go_wp2_with fail;refine bodyPost_ret (v:=.agg #[.slice none 0 0,.slice (some ⟨w.heap.size+1,0,none⟩) 1 1,.slice (some ⟨w.heap.size+1+1,0,none⟩) 1 1,.int .i64 1]) (by simp[results,Tryz.results9,go_sem]) rfl ?_;refine⟨w.heap.size+1,w.heap.size+1+1,rfl,?_,?_⟩
 ·generalize hX:Obj.cells #[Value.slice none 0 0,Value.slice (some {block:=w.heap.size+1,off:=0}) 1 1,Value.slice (some {block:=w.heap.size+1+1,off:=0}) 1 1,Value.int IntKind.i64 1] 40=X;have b1:=bl_alloc w X;have e1:(w.alloc X).heap.size=w.heap.size+1:=by simp
  have a1:=At.new (w.alloc X) #[Value.slice none 0 0,Value.slice ka L.length kc] 32;rw[e1]at a1;generalize hW1:(w.alloc X).alloc (.cells #[Value.slice none 0 0,Value.slice ka L.length kc] 32)=W1 at*;have b2:Below w.heap.size w W1:=by rw[←hW1];exact b1.trans ((bl_alloc _ _).mono (by simp))
  have e2:W1.heap.size=w.heap.size+1+1:=by rw[←hW1];simp
  have a2:=At.new W1 #[Value.int IntKind.i64 0,Value.int IntKind.i64 0,Value.slice none 0 0,Value.slice none 0 0] 36;rw[e2]at a2;have a1':=at_past a1 (bl_alloc W1 (.cells #[Value.int IntKind.i64 0,Value.int IntKind.i64 0,Value.slice none 0 0,Value.slice none 0 0] 36));have b3:=b2.trans ((bl_alloc W1 (.cells #[Value.int IntKind.i64 0,Value.int IntKind.i64 0,Value.slice none 0 0,Value.slice none 0 0] 36)).mono b2.size);refine⟨fun i hi=>absurd hi (by simp[oneP]),fun i hi=>?_,fun i hi=>?_⟩
  ·obtain rfl:i=0:=by simp[oneP]at hi;omega
   exact⟨w.heap.size+1,0,none,0,ka,kc,rfl,a1'.1,a1'.1,a1'.2.1 0,a1'.2.1 1,FIn.nil _ _ _ _ _,(hL.out.below b3).mono b3.size⟩
  ·obtain rfl:i=0:=by simp[oneP]at hi;omega
   exact⟨w.heap.size+1+1,0,none,0,none,0,rfl,a2.1,a2.1,a2.2.1 0,a2.2.1 1,a2.2.1 2,a2.2.1 3,FIn.nil _ _ _ _ _,FIn.nil _ _ _ _ _⟩
 ·exact(bl_alloc _ _).trans (((bl_alloc _ _).mono (by simp)).trans ((bl_alloc _ _).mono (by simp<;>omega)))
end Bd
end Go.Proofs.YtkhbiaaangnkdaaGreatDoor
