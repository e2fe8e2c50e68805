import Derived.Test.YtkhbiaaangnkdaaGreatDoorJ38
import Derived.Test.YtkhbiaaangnkdaaGreatDoorJ34
import Derived.Test.YtkhbiaaangnkdaaGreatDoorJ10
import Derived.Test.YtkhbiaaangnkdaaGreatDoorJ24
namespace Go.Proofs.YtkhbiaaangnkdaaGreatDoor
set_option maxRecDepth 100000
set_option maxHeartbeats 40000000
namespace C
open Go.RowKit
open T (Sep Ob Kp Mf TgIn boxOb Fm Tc Ed Vl Cp Bx tgOb mRow mRow_at updV flt)
theorem MIn.inCell {B:Nat}{W:World}{a:Nat}{P:PImg}{s:Ms}{l:List Ob}(h:MIn B W a P s l):∃v,W.cell? ⟨a,120,none⟩=some v∧IvIn W v s.inp:=by
 obtain⟨⟨q,h1,_⟩,_⟩:=h;have hb:Bx W a (rowOf P s q):=h1.ins (bx_ a (rowOf P s q)) (by simp[obs]);exact⟨q.iv,hb.at_ 120 _ (mRow_at 1),h1.ins (inOb q.iv s.inp) (by simp[obs])⟩
theorem takeIn_none (B:Nat)(W0:World)(a:Nat)(P:PImg)(s:Ms)(l:List Ob)(A:Nat)(h:MIn B W0 a P s l)(hi:s.inp=[]):
 Calls Tryz.prog 104 #[.pointer (some ⟨a,0,none⟩),.int .i64 A] W0 fun x w'=>Dv B W0 a P s l (.error ⟨6,0,0⟩) x w':=by
 have c120:∃va cap,W0.cell? ⟨a,120,none⟩=some (.slice va 0 cap):=by
  obtain⟨v,c,hv⟩:=h.inCell;obtain⟨va,cap,e1,_,_⟩:=hv.go;rw[hi]at e1;exact⟨va,cap,by rw[c,e1];rfl⟩
 obtain⟨va,cap,c120⟩:=c120;replace h:=ζ h;clear hi;simp only[Dv,pan];go_enter Tryz.func104,Tryz.ntmps104;go_wp2_with fail
 first|exact⟨rfl,rfl,h.out,Below.refl _ _⟩|exact⟨rfl,rfl,(h.out.bl (Bl.refl _).drew).1,(h.out.bl (Bl.refl _).drew).2⟩
open T (Sep Ob Kp Mf TgIn boxOb Fm Tc Ed Vl Cp Bx tgOb mRow mRow_at mRow_tail updV flt ofI ofI_agg integer_any)
theorem MIn.take {B:Nat}{W:World}{a:Nat}{P:PImg}{s:Ms}{l:List Ob}{q:Pt}(L:List Int)(v:Value)(h:Sep B W (obs B a P s q++l))(hpg:PgOk P q)(le:B≤W.heap.size)(hv:IvIn W v L)(hb:v.ownBlock=q.iv.ownBlock):
 MIn B (W.setCell ⟨a,120,none⟩ v) a P {s with inp:=L} l∧Below B W (W.setCell ⟨a,120,none⟩ v):=by
 have h1:=sep_change (W':=W) (l1:=[bx_ a (rowOf P s q),tgOb q.SM q.km s.b s.t,stOb B q.sv s.st]) (o:=inOb q.iv s.inp) (o':=inOb v L) (l2:=ouOb B q.ov_ s.out::tcOb B q.tv s.tou::snapOb q.lo q.W0::l) h hv (Kp.refl _ W) (fun k r=>.inl (by
  show q.iv.ownBlock=some k;rw[←hb];exact r)) le
 obtain⟨h2,b2⟩:=sep_box (rowOf P s q) (rowOf P {s with inp:=L} {q with iv:=v}) h1 v 120 (fun hb=>T.Bx.setAt 120 _ hb (mRow_tail 1 (fun y hy=>by
  match y,hy with
  |0,hy=>first|rfl|exact absurd rfl hy
  |1,hy=>first|rfl|exact absurd rfl hy
  |2,hy=>first|rfl|exact absurd rfl hy
  |3,hy=>first|rfl|exact absurd rfl hy
  |4,_=>rfl
  |5,_=>rfl
  |6,_=>rfl
  |_+7,_=>rfl)) (mRow_at 1) ⟨_,mRow_at 1⟩) le
 exact⟨⟨⟨{q with iv:=v},h2,hpg⟩,Nat.le_trans le b2.size⟩,b2⟩
theorem takeIn_some (B:Nat)(W0:World)(a:Nat)(P:PImg)(s:Ms)(l:List Ob)(A:Nat)(n:Int)(L:List Int)(h:MIn B W0 a P s l)(hi:s.inp=n::L)(hL:L.length≤140737488355328)(hn:0≤n)(hA:A<16)(hp:s.at_.pc<1000000000):
 Calls Tryz.prog 104 #[.pointer (some ⟨a,0,none⟩),.int .i64 A] W0 fun x w'=>Dv B W0 a P s l (.ok (Ms.next (Ms.put {s with inp:=L} A (ofI n)))) x w':=by
 have c:∃b off cap,W0.cell? ⟨a,120,none⟩=some (.slice (some ⟨b,off,none⟩) (L.length+1) cap)∧L.length+1≤cap∧W0.cell? ⟨b,off,none⟩=some (.int .u64 n)∧W0.frozen? ⟨a,120,none⟩=false∧∀v,(v=Value.slice (some ⟨b,off+1,none⟩) L.length (cap - 1)∨(cap=1∧v=.slice (some ⟨b,off,none⟩) L.length 0))→MIn B (W0.setCell ⟨a,120,none⟩ v) a P {s with inp:=L} l∧Below B W0 (W0.setCell ⟨a,120,none⟩ v):=by
  obtain⟨⟨q,h1,hpg⟩,le⟩:=h;have hb:Bx W0 a (rowOf P s q):=h1.ins (bx_ a (rowOf P s q)) (by simp[obs]);have hI:IvIn W0 q.iv s.inp:=h1.ins (inOb q.iv s.inp) (by simp[obs]);obtain⟨va,cap,e1,e2,e3⟩:=hI.go;rw[hi]at e1 e2;replace e2:L.length+1≤cap:=by simpa using e2
  rcases e3 with e3|⟨b,off,rfl,e3⟩
  ·rw[hi]at e3;simp at e3
  ·have hblt:b<W0.heap.size:=hI.lt b (by rw[e1];rfl);have rm:∀j,j<cap→(W0.cell? ⟨b,off+j,none⟩).isSome=true∧W0.frozen? ⟨b,off+j,none⟩=false:=by
    obtain⟨a2,cap2,f1,f2⟩:=hI.rm;rw[hi,e1]at f1;injection f1 with f3 _ f4;subst f3 f4;rcases f2 with⟨f2,_⟩|⟨b2,off2,f5,f6⟩
    ·cases f2
    ·cases f5
     exact f6
   have e0:=e3 0 (by rw[hi];simp);simp only[hi,List.getElem_cons_zero,Nat.add_zero]at e0;refine⟨b,off,cap,?_,e2,e0,hb.fr 120,fun v hv=>?_⟩
   ·have:=hb.at_ 120 q.iv (mRow_at 1);rw[e1]at this;exact this
   ·refine MIn.take L v h1 hpg le ?_ (by rw[e1];rcases hv with rfl|⟨_,rfl⟩<;>rfl);rcases hv with rfl|⟨hc,rfl⟩
    ·refine⟨⟨_,_,rfl,by omega,.inr ⟨b,off+1,rfl,fun j hj=>?_⟩⟩,fun k r=>by cases r;exact hblt,⟨_,_,rfl,.inr ⟨b,off+1,rfl,fun j hj=>by rw[show off+1+j=off+(j+1)by omega];exact rm (j+1) (by omega)⟩⟩⟩;have:=e3 (j+1) (by rw[hi];simp;omega);simp only[hi,List.getElem_cons_succ]at this;rw[show off+1+j=off+(j+1)by omega];exact this
    ·have hL0:L.length=0:=by omega
     exact⟨⟨_,_,rfl,by omega,.inl hL0⟩,fun k r=>by cases r;exact hblt,⟨_,_,rfl,.inr ⟨b,off,rfl,fun j hj=>absurd hj (Nat.not_lt_zero j)⟩⟩⟩
 have hlt:=h.alt;have hle:=h.le;clear h hi;obtain⟨b,off,cap,c120,hcap,cb,f120,htk⟩:=c;replace htk:=ζ htk;have hn0:((L.length:Int)+1==0)=false:=by simpa using(by omega:¬(L.length:Int)+1=0)
 have hLy:=ζ (fun X l' (q:MIn B X a P {s with inp:=L} l')=>lay_any B a A (ofI n) P _ _ X q hA hp);rw[ofI_agg n hn]at hLy;have hc2:=ζ (fun X=>(integer_any n X).mono (R':=fun x w'=>x=.returned (.agg #[.bool false,.int .u64 n,.int .u64 0,.int .u64 0,.int .u64 0,.int .u8 0,.int .i64 0])∧Bl X w') (by rintro x w' ⟨rfl,rfl⟩;exact⟨rfl,(Bl.refl _).alloc _⟩));simp only[Dv];clear hA hp hn;go_enter Tryz.func104,Tryz.ntmps104;by_cases hc1:cap=1
 ·subst hc1;have hT:=ζ (htk.out _ (.inr ⟨rfl,rfl⟩));have hL0:L.length=0:=by omega
  rw[hL0]at hT;go_upto_region 4 with fail
  refine wp_world (fun V=>MIn B V a P {s with inp:=L} l∧Below B W0 V) hT.out ?_;clear hT htk c120 cb f120 hlt;rintro V ⟨h,hB⟩;replace h:=ζ h;replace hB:=ζ hB;go_wp2_with fail;refine(hc2.out _).mono ?_;rintro r V2 ⟨rfl,e1⟩;replace hB:=ζ (hB.out.trans (h.out.bl e1).2);replace h:=ζ (h.out.bl e1).1;clear e1;go_wp2_with fail;refine(hLy.out _ _ h.out).mono ?_;rintro r V3 ⟨rfl,h6,hB6⟩;replace hB:=ζ (hB.out.trans hB6);replace h:=ζ h6;clear h6 hB6 hLy;go_wp2_with fail
  first|go_end0|((try simp only[Exit.inBlock,Exit.then]);refine xre ?_)
  exact⟨rfl,h.out,hB.out⟩
 ·have hT:=ζ (htk.out _ (.inl rfl));have hc2':1<cap:=by omega
  go_upto_region 4 with fail;refine wp_world (fun V=>MIn B V a P {s with inp:=L} l∧Below B W0 V) hT.out ?_;clear hT htk c120 cb f120 hlt;rintro V ⟨h,hB⟩;replace h:=ζ h;replace hB:=ζ hB;go_wp2_with fail;refine(hc2.out _).mono ?_;rintro r V2 ⟨rfl,e1⟩;replace hB:=ζ (hB.out.trans (h.out.bl e1).2);replace h:=ζ (h.out.bl e1).1;clear e1;go_wp2_with fail;refine(hLy.out _ _ h.out).mono ?_;rintro r V3 ⟨rfl,h6,hB6⟩;replace hB:=ζ (hB.out.trans hB6);replace h:=ζ h6;clear h6 hB6 hLy;go_wp2_with fail
  first|go_end0|((try simp only[Exit.inBlock,Exit.then]);refine xre ?_)
  exact⟨rfl,h.out,hB.out⟩
open T
theorem MIn.gateAt {B:Nat}{w:World}{a:Nat}{P:PImg}{s:Ms}{l:List Ob}(h:MIn B w a P s l)(g:Nat)(hg:g<P.gates.length):∃(b off gc:Nat),w.cell? ⟨a,2,none⟩=some (.slice (some ⟨b,off,none⟩) P.gates.length gc)∧b<w.heap.size∧w.cell? ⟨b,off+g*4,none⟩=some (.int .i64 P.gates[g].c):=by
 obtain⟨q,hB,h2,_,_⟩:=h.parts;obtain⟨b,off,xa,xc,ya,yc,e1,e2,e3,e4,_⟩:=h2.gates g hg;refine⟨b,off,q.gc,hB.at_ 2 _ (by unfold rowOf;rw[mRow_idx,←e1];rfl),e3,e4⟩
theorem MIn.codeAt {B:Nat}{w:World}{a:Nat}{P:PImg}{s:Ms}{l:List Ob}(h:MIn B w a P s l)(k:Nat)(hk:k<P.comps.length):∃(b off cc:Nat) (ka:Option Addr) (kc:Nat),w.cell? ⟨a,1,none⟩=some (.slice (some ⟨b,off,none⟩) P.comps.length cc)∧b<w.heap.size∧w.cell? ⟨b,off+k*2+1,none⟩=some (.slice ka P.comps[k].code.length kc)∧LIn w.heap.size w ka P.comps[k].code:=by
 obtain⟨q,hB,h2,_,_⟩:=h.parts;obtain⟨b,off,ra,rc,ka,kc,e1,e2,e3,e4,e5,e6,e7⟩:=h2.comps k hk;refine⟨b,off,q.cc,ka,kc,hB.at_ 1 _ (by unfold rowOf;rw[mRow_idx,←e1];rfl),e3,e5,e7⟩
theorem comp_any (B:Nat)(a:Nat)(P:PImg)(s:Ms)(l:List Ob)(w:World)(h:MIn B w a P s l)(hg:s.at_.gate<P.gates.length):
 Calls Tryz.prog 73 #[.pointer (some ⟨a,0,none⟩)] w fun x w'=>x=.returned (.int .i64 P.gates[s.at_.gate].c)∧Below w.heap.size w w':=by
 obtain⟨b,off,gc,c2,hb,c3⟩:=h.gateAt s.at_.gate hg;have c5:=h.cell.1;have hlt:=h.alt;have g1:(s.at_.gate:Int)<P.gates.length:=by omega
 generalize P.gates[s.at_.gate].c=q at*;generalize s.at_.gate=g at*;generalize P.gates.length=n at*;replace h:=Hid.mk h;go_enter Tryz.func73,Tryz.ntmps73;go_wp2_with fail;go_quiet (fail)
 all_goals
  go_wp2_with fail;go_ret;exact⟨rfl,drewN_below _ _⟩
theorem fetch_ok (B:Nat)(a:Nat)(P:PImg)(s:Ms)(l:List Ob)(k:Nat)(w:World)(h:MIn B w a P s l)(hg:s.at_.gate<P.gates.length)(hk:P.gates[s.at_.gate].c=k)(hkl:k<P.comps.length)(hp:s.at_.pc<P.comps[k].code.length):
 Calls Tryz.prog 40 #[.pointer (some ⟨a,0,none⟩)] w fun x w'=>x=.returned P.comps[k].code[s.at_.pc].agg∧Below w.heap.size w w':=by
 obtain⟨b,off,cc,ka,kc,c1,hb,c2,hL⟩:=h.codeAt k hkl;obtain⟨b2,off2,e2,_,lt2,hv⟩:=hL s.at_.pc hp;have c6:=h.cell.2.1;have hlt:=h.alt;have hC:=fun W (q:Below w.heap.size w W)=>comp_any B a P s l W (h.gr q) hg
 rw[hk]at hC;have KS:∀W,Below w.heap.size w W→W.cell? ⟨a,1,none⟩=some (.slice (some ⟨b,off,none⟩) P.comps.length cc)∧W.cell? ⟨b,off+k*2+1,none⟩=some (.slice ka P.comps[k].code.length kc):=fun W q=>⟨(q.cell (p:=⟨a,1,none⟩) hlt).trans c1,(q.cell (p:=⟨b,_,none⟩) hb).trans c2⟩
 have VS:=fun W (q:Below w.heap.size w W)=>hv.below q lt2
 have p6:=fun W (q:Below w.heap.size w W)=>(q.cell (p:=⟨a,6,none⟩) hlt).trans c6
 have g1:(k:Int)<P.comps.length:=by omega
 have g2:(s.at_.pc:Int)<P.comps[k].code.length:=by omega
 clear hL;generalize P.comps[k].code[s.at_.pc]=x at*;generalize P.comps[k].code.length=n at*;generalize s.at_.pc=pc at*;generalize P.comps.length=nc at*;simp only[Ins.agg];subst e2;replace h:=Hid.mk h;replace hv:=Hid.mk hv;replace hC:=Hid.mk hC;replace KS:=Hid.mk KS;replace VS:=Hid.mk VS;replace p6:=Hid.mk p6;go_enter Tryz.func40,Tryz.ntmps40;go_wp2_with fail;go_region_held3 (fun W=>W.cell? ⟨a,1,none⟩=some (.slice (some ⟨b,off,none⟩) nc cc)∧W.cell? ⟨b,off+k*2+1,none⟩=some (.slice (some ⟨b2,off2,none⟩) n kc)) ((refine KS.out _ ?_;repeat(first|assumption|exact Below.refl _ _|refine Below.alloc ?_ (by simp<;>omega) _|refine Below.setCell ?_ (by simp<;>omega) _|refine Below.drew ?_))) (first|(go_at_call 73;refine(hC.out _ (by repeat(first|assumption|exact Below.refl _ _|refine Below.alloc ?_ (by simp<;>omega) _|refine Below.setCell ?_ (by simp<;>omega) _|refine Below.drew ?_))).mono ?_;rintro y w1 ⟨rfl,q1⟩;have Q1:Below (w.heap.size+1) (w.alloc (.cells #[.int .u8 0,.int .i64 0,.int .i64 0,.int .i64 0,.int .i64 0] 29)) w1:=Below.trans (by repeat(first|assumption|exact Below.refl _ _|refine Below.alloc ?_ (by simp<;>omega) _|refine Below.setCell ?_ (by simp<;>omega) _|refine Below.drew ?_)) (q1.mono (by simp));have Q2:Below w.heap.size w w1:=((Below.refl _ w).alloc (Nat.le_refl _) _).trans (Q1.mono (by omega))))
 all_goals
  have A1:=at_below (At.new w #[.int .u8 0,.int .i64 0,.int .i64 0,.int .i64 0,.int .i64 0] 29) Q1 (Nat.lt_succ_self _);have z0:w1.cell? ⟨w.heap.size,0,none⟩=some (.int .u8 0):=A1.2.1 0;have z1:w1.cell? ⟨w.heap.size,1,none⟩=some (.int .i64 0):=A1.2.1 1;have z2:w1.cell? ⟨w.heap.size,2,none⟩=some (.int .i64 0):=A1.2.1 2;have z3:w1.cell? ⟨w.heap.size,3,none⟩=some (.int .i64 0):=A1.2.1 3;have z4:w1.cell? ⟨w.heap.size,4,none⟩=some (.int .i64 0):=A1.2.1 4;have zf:=A1.2.2;have zl:=A1.1;have p6':=p6.out w1 Q2;obtain⟨u0,u1,u2,u3,u4⟩:=VS.out w1 Q2;have lta:a<w1.heap.size:=Nat.lt_of_lt_of_le hlt Q2.size;have ltb:b2<w1.heap.size:=Nat.lt_of_lt_of_le lt2 Q2.size;have g3:¬(n:Int)≤pc:=by omega
  clear c1 c2 c6;replace Q1:=Hid.mk Q1;replace Q2:=Hid.mk Q2;replace A1:=Hid.mk A1;go_wp2_with fail;simp[bodyPost,results,Tryz.results40,go_sem,z0,z1,z2,z3,z4];exact((((Q2.out.setCell (Nat.le_refl _) _).setCell (Nat.le_refl _) _).setCell (Nat.le_refl _) _).setCell (Nat.le_refl _) _).setCell (Nat.le_refl _) _
theorem fetch_bad (B:Nat)(a:Nat)(P:PImg)(s:Ms)(l:List Ob)(k:Nat)(w:World)(h:MIn B w a P s l)(hg:s.at_.gate<P.gates.length)(hk:P.gates[s.at_.gate].c=k)(hkl:k<P.comps.length)(hp:P.comps[k].code.length≤s.at_.pc):
 Calls Tryz.prog 40 #[.pointer (some ⟨a,0,none⟩)] w fun x w'=>x=pan (flt 8)∧Below w.heap.size w w':=by
 obtain⟨b,off,cc,ka,kc,c1,hb,c2,hL⟩:=h.codeAt k hkl;clear hL;have c6:=h.cell.2.1;have hlt:=h.alt;have hC:=fun W (q:Below w.heap.size w W)=>comp_any B a P s l W (h.gr q) hg
 rw[hk]at hC;have KS:∀W,Below w.heap.size w W→W.cell? ⟨a,1,none⟩=some (.slice (some ⟨b,off,none⟩) P.comps.length cc)∧W.cell? ⟨b,off+k*2+1,none⟩=some (.slice ka P.comps[k].code.length kc):=fun W q=>⟨(q.cell (p:=⟨a,1,none⟩) hlt).trans c1,(q.cell (p:=⟨b,_,none⟩) hb).trans c2⟩
 have p6:=fun W (q:Below w.heap.size w W)=>(q.cell (p:=⟨a,6,none⟩) hlt).trans c6
 have g1:(k:Int)<P.comps.length:=by omega
 have hF:=Hid.mk (fail_any 8);generalize P.comps[k].code.length=n at*;generalize s.at_.pc=pc at*;generalize P.comps.length=nc at*;unfold pan at hF ⊢;replace h:=Hid.mk h;replace hC:=Hid.mk hC;replace KS:=Hid.mk KS;replace p6:=Hid.mk p6;go_enter Tryz.func40,Tryz.ntmps40;go_wp2_with fail;go_region_held3 (fun W=>W.cell? ⟨a,1,none⟩=some (.slice (some ⟨b,off,none⟩) nc cc)∧W.cell? ⟨b,off+k*2+1,none⟩=some (.slice ka n kc)) ((refine KS.out _ ?_;repeat(first|assumption|exact Below.refl _ _|refine Below.alloc ?_ (by simp<;>omega) _|refine Below.setCell ?_ (by simp<;>omega) _|refine Below.drew ?_))) (first|(go_at_call 73;refine(hC.out _ (by repeat(first|assumption|exact Below.refl _ _|refine Below.alloc ?_ (by simp<;>omega) _|refine Below.setCell ?_ (by simp<;>omega) _|refine Below.drew ?_))).mono ?_;rintro y w1 ⟨rfl,q1⟩;have Q1:Below (w.heap.size+1) (w.alloc (.cells #[.int .u8 0,.int .i64 0,.int .i64 0,.int .i64 0,.int .i64 0] 29)) w1:=Below.trans (by repeat(first|assumption|exact Below.refl _ _|refine Below.alloc ?_ (by simp<;>omega) _|refine Below.setCell ?_ (by simp<;>omega) _|refine Below.drew ?_)) (q1.mono (by simp));have Q2:Below w.heap.size w w1:=((Below.refl _ w).alloc (Nat.le_refl _) _).trans (Q1.mono (by omega))))
 all_goals
  have A1:=at_below (At.new w #[.int .u8 0,.int .i64 0,.int .i64 0,.int .i64 0,.int .i64 0] 29) Q1 (Nat.lt_succ_self _);have z0:w1.cell? ⟨w.heap.size,0,none⟩=some (.int .u8 0):=A1.2.1 0;have z1:w1.cell? ⟨w.heap.size,1,none⟩=some (.int .i64 0):=A1.2.1 1;have z2:w1.cell? ⟨w.heap.size,2,none⟩=some (.int .i64 0):=A1.2.1 2;have z3:w1.cell? ⟨w.heap.size,3,none⟩=some (.int .i64 0):=A1.2.1 3;have z4:w1.cell? ⟨w.heap.size,4,none⟩=some (.int .i64 0):=A1.2.1 4;have zf:=A1.2.2;have zl:=A1.1;have p6':=p6.out w1 Q2;have lta:a<w1.heap.size:=Nat.lt_of_lt_of_le hlt Q2.size;have g3:(n:Int)≤pc:=by omega
  clear c1 c2 c6;replace Q1:=Hid.mk Q1;replace Q2:=Hid.mk Q2;replace A1:=Hid.mk A1;go_wp2_with(refine(hF.out _).mono ?_;rintro y w2 ⟨rfl,rfl⟩);exact⟨rfl,rfl,Q2.out⟩
end C
open Go.RowKit
def codeBase (j:Nat):Int:=1048576+(j:Int)*65536
theorem CodeCap_yes (m:PImg)(j:Nat)(e:Int)(ra ca ga:Option Addr)(rn rc cc gn gc:Nat)(w:World)(hc:CompIn w.heap.size w ca m.comps)(hj:j<m.comps.length)(hl:m.comps.length≤maxG)(he:0≤e∧e<m.comps[j].code.length)(hk:m.comps[j].code.length≤maxI):
 Calls Tryz.prog 138 #[.agg #[.slice ra rn rc,.slice ca m.comps.length cc,.slice ga gn gc,.int .i64 m.depth],.int .i64 j,.int .i64 e] w fun x w'=>x=.returned (.tuple #[.agg #[.int .u64 (codeBase j),.int .u64 (codeBase j+m.comps[j].code.length*8),.int .u64 (codeBase j+e*8),.int .u8 16,.int .i64 0],.bool true])∧Gr w w':=by
 have hh:hasI m.comps j e=true:=by
  unfold hasI;rw[if_pos ⟨by omega,by omega,he.1⟩,Int.toNat_natCast,List.getElem?_eq_getElem hj];simpa using he.2
 have hq:=fun W (h:CompIn W.heap.size W ca m.comps)=>hasInst_any m j e ra ca ga rn rc cc gn gc W h
 rw[hh]at hq;have hg:∀W,Gr w W→CompIn W.heap.size W ca m.comps:=fun W h=>(hc.below h.below).mono (gr_size h)
 obtain⟨b,off,ra',rc',ka,kc,rfl,_,hb,_,c1,_,_⟩:=hc j hj;clear hc hh;generalize m.comps[j].code.length=k at*;unfold maxG at hl;unfold maxI at hk;have jl:(j:Int)<m.comps.length:=by omega
 have e1:IntKind.u64.wrap (j:Int)=j:=by rw[IntKind.wrap_u64];omega
 have e2:IntKind.u64.wrap ((j:Int)*65536)=(j:Int)*65536:=by rw[IntKind.wrap_u64];omega
 have e3:IntKind.u64.wrap (1048576+(j:Int)*65536)=codeBase j:=by unfold codeBase;rw[IntKind.wrap_u64];omega
 have e4:IntKind.u64.wrap (k:Int)=k:=by rw[IntKind.wrap_u64];omega
 have e5:IntKind.u64.wrap ((k:Int)*8)=(k:Int)*8:=by rw[IntKind.wrap_u64];omega
 have e6:IntKind.u64.wrap (codeBase j+(k:Int)*8)=codeBase j+(k:Int)*8:=by unfold codeBase;rw[IntKind.wrap_u64];omega
 have e7:IntKind.u64.wrap e=e:=by rw[IntKind.wrap_u64];omega
 have e8:IntKind.u64.wrap (e*8)=e*8:=by rw[IntKind.wrap_u64];omega
 have e9:IntKind.u64.wrap (codeBase j+e*8)=codeBase j+e*8:=by unfold codeBase;rw[IntKind.wrap_u64];omega
 generalize codeBase j=cb at*;go_enter Tryz.func138,Tryz.ntmps138;go_wp2_with fail;have hG0:Gr w ((w.alloc (.cells #[.slice ra rn rc,.slice (some ⟨b,off,none⟩) m.comps.length cc,.slice ga gn gc,.int .i64 m.depth] 40)).alloc (.cells #[.int .u64 0,.int .u64 0,.int .u64 0,.int .u8 0,.int .i64 0] 73)):=((Gr.refl w).alloc _).alloc _;have M:Box ((w.alloc (.cells #[.slice ra rn rc,.slice (some ⟨b,off,none⟩) m.comps.length cc,.slice ga gn gc,.int .i64 m.depth] 40)).alloc (.cells #[.int .u64 0,.int .u64 0,.int .u64 0,.int .u8 0,.int .i64 0] 73)) w.heap.size #[.slice ra rn rc,.slice (some ⟨b,off,none⟩) m.comps.length cc,.slice ga gn gc,.int .i64 m.depth] 40:=(Box.new w _ _).alloc _;have X:Box ((w.alloc (.cells #[.slice ra rn rc,.slice (some ⟨b,off,none⟩) m.comps.length cc,.slice ga gn gc,.int .i64 m.depth] 40)).alloc (.cells #[.int .u64 0,.int .u64 0,.int .u64 0,.int .u8 0,.int .i64 0] 73)) (w.heap.size+1) #[.int .u64 0,.int .u64 0,.int .u64 0,.int .u8 0,.int .i64 0] 73:=Box.next _ _ _ _
 refine(hq _ (hg _ hG0)).mono ?_;rintro x w1 ⟨rfl,hG⟩;replace M:=M.gr hG;replace X:=X.gr hG;replace hG:=hG0.trans hG;replace c1:=(hG.cell hb _).trans c1;have⟨z0,p0,f0⟩:=M.at;have⟨z1,p1,f1⟩:=X.at;clear hq hg hG0;replace M:=Hid.mk M;replace X:=Hid.mk X;replace hG:=Hid.mk hG;go_wp2_with fail;have b4:=((((X.out.set 0 (.int .u64 cb)).set 1 (.int .u64 (cb+k*8))).set 2 (.int .u64 (cb+e*8))).set 3 (.int .u8 16)).set 4 (.int .i64 0);have hG4:=((((hG.out.setCell (w.heap.size+1) 0 (.int .u64 cb) (by omega)).setCell (w.heap.size+1) 1 (.int .u64 (cb+k*8)) (by omega)).setCell (w.heap.size+1) 2 (.int .u64 (cb+e*8)) (by omega)).setCell (w.heap.size+1) 3 (.int .u8 16) (by omega)).setCell (w.heap.size+1) 4 (.int .i64 0) (by omega);have⟨_,q4,_⟩:=b4.at;clear z0 p0 f0 z1 p1 f1 X M hG b4 c1;generalize ((((w1.setCell ⟨w.heap.size+1,0,none⟩ (.int .u64 cb)).setCell ⟨w.heap.size+1,1,none⟩ (.int .u64 (cb+k*8))).setCell ⟨w.heap.size+1,2,none⟩ (.int .u64 (cb+e*8))).setCell ⟨w.heap.size+1,3,none⟩ (.int .u8 16)).setCell ⟨w.heap.size+1,4,none⟩ (.int .i64 0)=W4 at*
 simp[bodyPost,results,Tryz.results138,go_sem,q4];exact hG4
end Go.Proofs.YtkhbiaaangnkdaaGreatDoor
