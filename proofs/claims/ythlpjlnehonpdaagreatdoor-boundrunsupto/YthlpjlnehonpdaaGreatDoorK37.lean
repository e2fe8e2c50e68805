import Derived.Test.YthlpjlnehonpdaaGreatDoorK36
import Derived.Laws.EntriesVeiled
namespace Go.Proofs.YthlpjlnehonpdaaGreatDoor
set_option maxRecDepth 100000
set_option maxHeartbeats 40000000
namespace F
open Go.RowKit
open T
theorem own_slice {w:World}{b:Nat}{v:Value}{E:List Int}(h:IOwn w b v E):∃a cap,v=.slice a E.length cap:=by
 rcases h.2 with⟨rfl,h0⟩|⟨g,cap,cur,rfl,_⟩
 ·exact⟨none,0,by rw[h0]⟩
 ·exact⟨_,cap,rfl⟩
def comeP (h cc bw:Nat)(ca:Option Addr):CP:=⟨h+2,bw,h+4,h,bw+1,h+3,cc,ca⟩
theorem come_start {L:List Ins}{E:List Int}{cc:Nat}{ca:Option Addr}{w w1 w3 w4:World}{v:Value}{s:Nat→Bool}{t1 t2 t3 t4 t5:TypeId}{rb:Array Value}
 (hL:LIn w.heap.size w ca L)
 (a0:Below (w.heap.size+2) ((w.alloc (.cells #[.slice ca L.length cc] t1)).alloc (.cells rb t2)) w1)(a3:w1.heap.size=w.heap.size+4)
 (b1:SIn w3 (w.heap.size+3) L.length s)(b2:Kp (fun k=>k=w.heap.size+3) (w1.alloc (.cells #[.slice (some ⟨w.heap.size+3,0,none⟩) ((L.length+63)/64) ((L.length+63)/64),.int .i64 L.length] t3)) w3)
 (c1:IOwn w4 w3.heap.size v E)(c2:Below w3.heap.size w3 w4):
 CS (comeP w.heap.size cc w4.heap.size ca) L ((w4.alloc (.cells #[v] t4)).alloc (.cells #[(comeP w.heap.size cc w4.heap.size ca).fv] t5)) v s E∧Below w.heap.size w ((w4.alloc (.cells #[v] t4)).alloc (.cells #[(comeP w.heap.size cc w4.heap.size ca).fv] t5))∧At ((w4.alloc (.cells #[v] t4)).alloc (.cells #[(comeP w.heap.size cc w4.heap.size ca).fv] t5)) (w.heap.size+1) rb:=by
 have s3:=b2.size;rw[World.size_alloc,a3]at s3;have s4:=c2.size;generalize hsb:(Obj.cells #[.slice (some ⟨w.heap.size+3,0,none⟩) ((L.length+63)/64) ((L.length+63)/64),.int .i64 L.length] t3)=sb at*;have B1:Below (w.heap.size+2) w1 w3:=((Below.refl _ w1).alloc (by omega) sb).trans (b2.below (by rw[World.size_alloc];omega) (fun k q=>by omega));have B2:Below (w.heap.size+2) w1 w4:=B1.trans (c2.mono (by omega));have B3:Below (w.heap.size+2) ((w.alloc (.cells #[.slice ca L.length cc] t1)).alloc (.cells rb t2)) w4:=a0.trans B2;have B5:Below w4.heap.size w4 ((w4.alloc (.cells #[v] t4)).alloc (.cells #[(comeP w.heap.size cc w4.heap.size ca).fv] t5)):=((Below.refl _ w4).alloc (Nat.le_refl _) _).alloc (by rw[World.size_alloc];omega) _;have B6:=B3.trans (B5.mono (by omega));have ic:=at_below ((At.new w #[.slice ca L.length cc] t1).alloc (.cells rb t2)) B6 (by omega);have ir:=at_below (At.next w (.cells #[.slice ca L.length cc] t1) rb t2) B6 (by omega)
 have isn:At (w1.alloc sb) (w.heap.size+4) #[.slice (some ⟨w.heap.size+3,0,none⟩) ((L.length+63)/64) ((L.length+63)/64),.int .i64 L.length]:=by
  rw[←hsb];exact At.at_ w1 _ _ a3
 have is3:=at_below (at_below (at_kp isn b2 (by omega)) c2 (by omega)) B5 (by omega);have row:IOwn ((w4.alloc (.cells #[v] t4)).alloc (.cells #[(comeP w.heap.size cc w4.heap.size ca).fv] t5)) (w.heap.size+2) v E:=by
  have:=own_below c1 B5;refine⟨this.1,?_⟩;rcases this.2 with h2|⟨g,cap,cur,hv,hbg,rest⟩
  ·exact .inl h2
  ·exact .inr ⟨g,cap,cur,hv,by omega,rest⟩
 have BW:Below w.heap.size w ((w4.alloc (.cells #[v] t4)).alloc (.cells #[(comeP w.heap.size cc w4.heap.size ca).fv] t5)):=Below.trans (((Below.refl _ w).alloc (Nat.le_refl _) _).alloc (by rw[World.size_alloc];omega) _) (B6.mono (by omega));refine⟨⟨(At.new w4 #[v] t4).alloc _,row,is3,ic,At.next w4 _ _ _,(b1.below c2 (by omega)).below B5 (by omega),(hL.below BW).mono (by simp[comeP]),?_,?_,?_⟩,BW,ir⟩
 ·simp only[comeP];refine⟨?_,?_,?_,?_,?_,?_,?_⟩<;>omega
 ·intro g r;have h1:=World.ownsRow.lt c1 g r;simp only[comeP];refine⟨?_,?_,?_,?_,?_⟩<;>omega
 ·exact⟨by simp only[comeP];omega,by simp only[comeP];omega,by show w.heap.size+2≤_;have:=B5.size;omega⟩
def OI (p:CP)(L:List Ins)(E:List Int)(out:Int)(w wr:World):Prop:=Hid (∃v s W,CS p L wr v s W∧Ot L E out s W∧Below w.heap.size w wr∧At wr (w.heap.size+1) #[.slice none 0 0,.int .i64 0])
theorem comeTo_any (L:List Ins)(E:List Int)(cc ec:Nat)(ca ea:Option Addr)(out:Int)(w:World)(hL:LIn w.heap.size w ca L)(hE:NIn w.heap.size w ea E)(hnil:NilOk ea E.length ec)(hn:L.length<2000000)(he:E.length≤4000000):
 Calls Tryz.prog 87 #[.slice ca L.length cc,.slice ea E.length ec,.int .i64 out] w fun e w'=>∃X s,e=.returned (sv X L.length)∧SIn w' X L.length s∧w.heap.size≤X∧Below w.heap.size w w'∧∀q,q<L.length→(s q=true↔Rch L E out q∨(q:Int)=out):=by
 have hN:=newSet_any L.length ((w.alloc (.cells #[.slice ca L.length cc] 24)).alloc (.cells #[.slice none 0 0,.int .i64 0] 178)) hn;simp only[World.size_alloc,Nat.add_assoc]at hN;have hA:=fun W (q:SIn W (w.heap.size+3) L.length (fun _=>false))=>add_any (w.heap.size+3) L.length (fun _=>false) out W q hn
 have hCl:=fun W (q:Below w.heap.size w W)=>clone_any ea ec E W ((hE.below q).mono q.size) hnil he
 have hmf:∀(fn:Fn) (first cap:Array Value) (w:World),(Instr.makeFunc fn first cap).run Tryz.prog w=.ok (.func fn first cap) w:=fun _ _ _ _=>rfl
 unfold sv at*;replace hN:=Hid.mk hN;replace hA:=Hid.mk hA;replace hCl:=Hid.mk hCl;replace hL:=Hid.mk hL;replace hE:=Hid.mk hE;replace hnil:=Hid.mk hnil;go_enter Tryz.func87,Tryz.ntmps87;go_wp2_with(first|(go_at_call 128;refine hN.out.mono ?_;rintro x w1 ⟨rfl,a1,a2,a3⟩;replace a1:=Hid.mk a1;replace a2:=Hid.mk a2)|(go_at_call 129;refine(hA.out _ (a1.out.below ((Below.refl _ w1).alloc (Nat.le_refl _) _) (by omega))).mono ?_;rintro x w3 ⟨rfl,b1,b2⟩;have b3:Hid (Below w.heap.size w w3):=Hid.mk (Below.trans (((Below.refl _ w).alloc (Nat.le_refl _) _).alloc (by simp) _) ((a2.out.mono (by omega)).trans (Below.trans ((Below.refl _ w1).alloc (by omega) _) (b2.below (by simp;omega) (fun k q=>by omega)))));replace b1:=Hid.mk b1;replace b2:=Hid.mk b2)|(go_at_call 130;refine(hCl.out _ b3.out).mono ?_;rintro x w4 ⟨v,rfl,c1,c2⟩;obtain⟨va,vc,rfl⟩:=own_slice c1;replace c1:=Hid.mk c1;replace c2:=Hid.mk c2))
 obtain⟨d1,d2,d3⟩:=come_start (t1:=24) (t2:=178) (t3:=178) (t4:=22) (t5:=209) (rb:=#[.slice none 0 0,.int .i64 0]) hL.out a2.out a3 b1.out b2.out c1.out c2.out;have h0:OI (comeP w.heap.size cc w4.heap.size ca) L E out w ((w4.alloc (.cells #[.slice va E.length vc] 22)).alloc (.cells #[(comeP w.heap.size cc w4.heap.size ca).fv] 209)):=Hid.mk ⟨_,_,E,d1,Ot.start L E out,d2,d3⟩;clear d1 d2 d3 b3;simp only[comeP,CP.fv]at h0;generalize w4.heap.size=bw at*;go_loopw [10] (fun _ wr=>OI (comeP w.heap.size cc bw ca) L E out w wr) (fun _ wr=>2*(L.length - cnt L.length (setOf wr (w.heap.size+3)))+lenAt wr bw)
 case atStart=>exact h0
 case round=>
  clear h0;obtain⟨v1,s1,W,hC,hO,hB,hR⟩:=hrel.out;have hm:=cnt_set hC.st;obtain⟨z1,z2,z3,z4,z5⟩:=hC.boxes;rcases List.eq_nil_or_concat W with rfl|⟨W0,y,rfl⟩
  ·obtain⟨a0,cap,rfl⟩:=hC.nil;simp only[comeP,CP.fv]at z1 z2 z3 z4 z5;have hS:=Hid.mk hC.st;have r0:wr.cell? ⟨w.heap.size+1,0,none⟩=some (.slice none 0 0):=hR.2.1 0;have r1:wr.cell? ⟨w.heap.size+1,1,none⟩=some (.int .i64 0):=hR.2.1 1;have r2:=hR.2.2;have r3:=hR.1;have hstop:=Hid.mk hO.stop;replace hC:=Hid.mk hC;replace hO:=Hid.mk hO;replace hB:=Hid.mk hB;replace hR:=Hid.mk hR;clear hrel;go_wp2_with fail;have hF:∀a b,SIn ((wr.setCell ⟨w.heap.size+1,0,none⟩ a).setCell ⟨w.heap.size+1,1,none⟩ b) (w.heap.size+3) L.length s1∧Below w.heap.size w ((wr.setCell ⟨w.heap.size+1,0,none⟩ a).setCell ⟨w.heap.size+1,1,none⟩ b):=fun a b=>
    ⟨sin_kp (sin_kp hS.out (Kp.set (S:=fun k=>k=w.heap.size+1) wr _ a rfl) (by simp)) (Kp.set (S:=fun k=>k=w.heap.size+1) _ _ b rfl) (by simp),(hB.out.setCell (by simp) a).setCell (by simp) b⟩
   simp[bodyPost,results,Tryz.results87,go_sem,r0,r1];exact⟨s1,(hF _ _).1,(hF _ _).2,hstop.out⟩
  ·rw[List.concat_eq_append]at hC hO;obtain⟨g,cap,rfl,p1,p2,p3,p4,p5,p6⟩:=hC.pop;have hlw:lenAt wr bw=W0.length+1:=by
    have:wr.cell? ⟨bw,0,none⟩=_:=z1;simp[lenAt,this]
   simp only[comeP,CP.fv]at z1 z5;have hq:=walk_any (comeP w.heap.size cc bw ca) L out hn (L.length - cnt L.length s1) s1 W0 _ y 0 _ p5 hO.out (Nat.le_refl _) (by omega) (by have:=hO.len;simp at this;omega);simp only[comeP]at hq;have z5':(wr.setCell ⟨bw,0,none⟩ (.slice (some ⟨g,0,none⟩) W0.length cap)).cell? ⟨bw+1,0,none⟩=_:=p5.boxes.2.2.2.2;simp only[comeP,CP.fv]at z5';have hfr:wr.frozen? ⟨bw,0,none⟩=false:=hC.iw.2.2 0;have hWl:W0.length<8000000:=by have:=hO.len;simp at this;omega
   have hp1:(W0.length:Int)+1≤cap:=by omega
   have hc2:¬(cap:Int)<W0.length:=by omega
   have hstep:=fun s' D (q:Wf L out 0 s1 y s' D)=>hO.step q
   replace hq:=Hid.mk hq;replace hC:=Hid.mk hC;replace hO:=Hid.mk hO;replace hB:=Hid.mk hB;replace hR:=Hid.mk hR;replace p5:=Hid.mk p5;replace p6:=Hid.mk p6;replace hstep:=Hid.mk hstep;clear hrel z2 z3 z4 z5;go_wp2_with(go_at_call 131;refine hq.out.mono ?_;rintro x w6 ⟨rfl,v6,s6,D6,k1,k2,k3⟩);have hlo:w.heap.size+2≤bw:=hC.out.lo.2.1;have m1:cnt L.length (setOf w6 (w.heap.size+3))=cnt L.length s6:=cnt_set k1.st;have m2:cnt L.length (setOf wr (w.heap.size+3))=cnt L.length s1:=hm;have m3:=k2.ct;have m4:=cnt_le L.length s6;have m5:lenAt w6 bw=W0.length+D6.length:=by
    obtain⟨va6,vc6,e6⟩:=own_slice k1.row;have:w6.cell? ⟨bw,0,none⟩=some v6:=k1.boxes.1;rw[e6]at this;simp[lenAt,this]
   refine⟨Hid.mk ⟨v6,s6,W0++D6,k1,hstep.out s6 D6 k2,(hB.out.trans (p6.out.mono (by simp[comeP]))).trans (k3.mono (by omega)),at_below (hR.out.set_other _ (by omega)) k3 (by omega)⟩,?_⟩;rw[m1,m2,m5,hlw];simp at m3;omega
theorem less_any (x y:Int)(w:World):Calls Tryz.prog 191 #[.int .i64 x,.int .i64 y] w fun e w'=>e=.returned (.bool (decide (x<y)))∧w'=w:=by
 have hx:(x==x)=true:=by simp
 have hN:∀z W,Calls Tryz.prog 201 #[.int .i64 z] W fun e w'=>e=.returned (.bool false)∧w'=W:=by
  intro z W;go_enter Tryz.func201,Tryz.ntmps201;go_wp2_with fail;go_ret;exact⟨rfl,rfl⟩
 replace hN:=Hid.mk hN;go_enter Tryz.func191,Tryz.ntmps191;go_wp2_with(go_at_call 201;refine(hN.out _ _).mono ?_;rintro x w1 ⟨rfl,rfl⟩);go_ret;exact⟨rfl,rfl⟩
theorem len64_any (n:Nat)(w:World)(h:n≤2):Calls Tryz.prog 195 #[.int .u64 n] w fun e w'=>(∃k:Int,e=.returned (.int .i64 k))∧w'=w:=by
 obtain rfl|rfl|rfl:n=0∨n=1∨n=2:=by omega
 all_goals
  go_enter Tryz.func195,Tryz.ntmps195;go_wp2_with fail;go_ret;exact⟨⟨_,rfl⟩,rfl⟩
theorem len_any (n:Nat)(w:World)(h:n≤2):Calls Tryz.prog 183 #[.int .u64 n] w fun e w'=>(∃k:Int,e=.returned (.int .i64 k))∧w'=w:=by
 have hL:=len64_any n w h;replace hL:=Hid.mk hL;go_enter Tryz.func183,Tryz.ntmps183;go_wp2_with(go_at_call 195;refine hL.out.mono ?_;rintro x w1 ⟨⟨k,rfl⟩,rfl⟩);go_ret;exact⟨⟨_,rfl⟩,rfl⟩
def memB (E:List Int)(x:Int):Bool:=decide (x∈E)
theorem Index_any (a:Option Addr)(c:Nat)(E:List Int)(x:Int)(w:World)(hE:NIn w.heap.size w a E)(hl:E.length≤4000000):
 Calls Tryz.prog 181 #[.slice a E.length c,.int .i64 x] w fun e w'=>(∃k:Int,e=.returned (.int .i64 k)∧(decide (0≤k)=memB E x))∧w'=w:=by
 replace hE:=Hid.mk hE;go_enter Tryz.func181,Tryz.ntmps181;go_wp2_with fail;go_loopw [8] (fun i wr=>∃j:Nat,i=.int .i64 j∧j≤E.length∧wr=w∧Hid (∀k (hk:k<E.length),k<j→E[k]≠x)) (fun i _=>E.length - (intOf i).toNat)
 case atStart=>exact⟨0,rfl,by omega,rfl,Hid.mk (fun k hk h=>by omega)⟩
 case round=>
  obtain⟨j,rfl,hj,rfl,hI⟩:=hrel;by_cases hlt:j<E.length
  ·obtain⟨b,off,rfl,_,hb,hc⟩:=hE.out j hlt;have hi1:(j:Int)<E.length:=by omega
   by_cases he:x=E[j]
   ·have he':(x==E[j])=true:=by simpa using he
    have hans:decide ((0:Int)≤(j:Int))=memB E x:=by
     have:memB E x=true:=by rw[he];simp[memB]
     rw[this];simp
    replace he:=Hid.mk he;replace hans:=Hid.mk hans;go_wp2_with fail;go_ret;exact⟨⟨_,rfl,hans.out⟩,rfl⟩
   ·have he':(x==E[j])=false:=by simpa using he
    have hn:Hid (∀k (hk:k<E.length),k<j+1→E[k]≠x):=Hid.mk (fun k hk h=>by
     by_cases e:k=j
     ·subst e;exact fun r=>he r.symm
     ·exact hI.out k hk (by omega))
    replace he:=Hid.mk he;go_wp2_with fail;go_roundw
    all_goals first|exact⟨j+1,by simp,by omega,trivial,hn⟩|(simp only[intOf];omega)
  ·have hi1:¬(j:Int)<E.length:=by omega
   have hans:decide ((0:Int)≤ -1)=memB E x:=by
    have:¬x∈E:=fun r=>by
     obtain⟨k,hk,rfl⟩:=List.getElem_of_mem r;exact hI.out k hk (by omega) rfl
    have:memB E x=false:=by simpa [memB]using this
    rw[this];rfl
   replace hans:=Hid.mk hans;go_wp2_with fail;go_ret;exact⟨⟨_,rfl,hans.out⟩,rfl⟩
theorem Contains_any (a:Option Addr)(c:Nat)(E:List Int)(x:Int)(w:World)(hE:NIn w.heap.size w a E)(hl:E.length≤4000000):
 Calls Tryz.prog 168 #[.slice a E.length c,.int .i64 x] w fun e w'=>e=.returned (.bool (memB E x))∧w'=w:=by
 have hI:=Index_any a c E x w hE hl;replace hE:=Hid.mk hE;replace hI:=Hid.mk hI;go_enter Tryz.func168,Tryz.ntmps168;go_wp2_with(go_at_call 181;refine hI.out.mono ?_;rintro x w1 ⟨⟨k,rfl,hk⟩,rfl⟩;replace hk:=Hid.mk hk);go_ret;exact⟨by rw[←hk.out];rfl,rfl⟩
def srt:List Int→List Int
 |[x,y]=>if y<x then [y,x]else [x,y]
 |l=>l
theorem own_cell {w:World}{lo g cap n:Nat}{l:List Int}(h:IOwn w lo (.slice (some ⟨g,0,none⟩) n cap) l)(j:Nat)(hj:j<l.length):w.cell? ⟨g,j,none⟩=some (.int .i64 l[j]):=by
 have hc:=World.ownsRow.cells h (g:=g) rfl j (.int .i64 l[j]) (by simp[hj])
 rwa [addr_add,Nat.zero_add]at hc
theorem ins_few (a:Option Addr)(n c:Nat)(w:World)(hn:n≤1):Calls Tryz.prog 185 #[.slice a n c,.int .i64 0,.int .i64 n] w fun e w'=>e=.returned (.tuple #[])∧w'=w:=by
 have h1:¬(1:Int)<n:=by omega
 go_enter Tryz.func185,Tryz.ntmps185;go_wp2_with fail;refine wp_loop_rounds 1 ?_;rw[rounds_succ];go_wp2_with fail;go_end0;exact⟨rfl,rfl⟩
theorem ins_two (lo g cap:Nat)(x y:Int)(w:World)(h:IOwn w lo (.slice (some ⟨g,0,none⟩) 2 cap) [x,y]):Calls Tryz.prog 185 #[.slice (some ⟨g,0,none⟩) 2 cap,.int .i64 0,.int .i64 2] w fun e w'=>e=.returned (.tuple #[])∧IOwn w' lo (.slice (some ⟨g,0,none⟩) 2 cap) (srt [x,y])∧Kp (fun k=>k=g) w w':=by
 have c0:w.cell? ⟨g,0,none⟩=some (.int .i64 x):=own_cell h 0 (by simp);have c1:w.cell? ⟨g,1,none⟩=some (.int .i64 y):=own_cell h 1 (by simp);have fr:=World.ownsRow.frozenAt h;have hl:=fun W=>less_any y x W
 by_cases hyx:y<x
 ·have e:srt [x,y]=[y,x]:=by simp[srt,hyx]
  rw[e];have e2:decide (y<x)=true:=by simpa using hyx
  rw[e2]at hl;have hE:IOwn ((w.setCell ⟨g,1,none⟩ (.int .i64 x)).setCell ⟨g,0,none⟩ (.int .i64 y)) lo (.slice (some ⟨g,0,none⟩) 2 cap) [y,x]∧Kp (fun k=>k=g) w ((w.setCell ⟨g,1,none⟩ (.int .i64 x)).setCell ⟨g,0,none⟩ (.int .i64 y)):=
   ⟨(World.ownsRow.stored (World.ownsRow.stored h 1 (.int .i64 x)).1 0 (.int .i64 y)).1,(Kp.set (S:=fun k=>k=g) w _ _ rfl).trans (Kp.set (S:=fun k=>k=g) _ _ _ rfl) (fun k r=>.inl r)⟩
  replace h:=Hid.mk h;replace hl:=Hid.mk hl;replace hE:=Hid.mk hE;clear e e2 hyx;go_enter Tryz.func185,Tryz.ntmps185;go_wp2_with fail;refine wp_loop_rounds 2 ?_;rw[rounds_succ];go_wp2_with fail;refine wp_loop_rounds 2 ?_;rw[rounds_succ];go_wp2_with fail;refine wp_region_held_drew (S:=fun W=>W.cell? ⟨g,0,none⟩=some (.int .i64 x)∧W.cell? ⟨g,1,none⟩=some (.int .i64 y)) (by kernel_rfl) (by constructor<;>assumption) (fun hHeld=>?_);refine xz 0 rfl (h:=xz 1 rfl (h:=xz 2 rfl (h:=xz 3 rfl (h:=?_))));try simp only[xap]
  refine xz 4 rfl (h:=?_);try simp only[xap]
  refine xz 5 rfl (h:=?_);try simp only[xap]
  refine xz 6 rfl (h:=?_);try simp only[xap]
  refine xz 7 rfl (h:=?_);try simp only[xap]
  refine xz 8 rfl (h:=?_);try simp only[xap]
  refine xz 9 rfl (h:=?_);try simp only[xap]
  refine xz 10 rfl (h:=?_);try simp only[xap]
  refine xtk 11 (v:=.pointer (some ⟨g,0,none⟩)) rfl (Or.inl ⟨by rfl,?_⟩) ?_
  ·intro w hSw;(try dsimp only at hSw);first|(go_simp;done)|(go_simp;rfl)|rfl
  try simp only[xap]
  refine xz 12 rfl (h:=?_);try simp only[xap]
  refine xrd 13 rfl (fun K hK=>?_);go_simp;go_at_call 191;refine(hl.out _).mono ?_;rintro z w1 ⟨rfl,rfl⟩;refine hK.out _ _ (by assumption) (fun hHeld=>?_);clear hK K;try simp only[xap]
  refine xz 14 rfl (h:=?_);try simp only[xap]
  refine xdn ?_ _;clear hHeld;go_wp2_with fail;go_region_with (fail)
  all_goals
   go_wp2_with fail;rw[rounds_succ];go_wp2_with fail;refine wp_region_held_drew (S:=fun _=>True) (by kernel_rfl) trivial (fun hHeld=>?_);refine xz 0 rfl (h:=xz 1 rfl (h:=xz 2 rfl (h:=xz 3 rfl (h:=?_))));try simp only[xap]
   refine xtk 4 (v:=undef) rfl (Or.inr ⟨by rfl,rfl⟩) ?_;try simp only[xap]
   refine xtk 5 (v:=undef) rfl (Or.inr ⟨by rfl,rfl⟩) ?_;try simp only[xap]
   refine xtk 6 (v:=undef) rfl (Or.inr ⟨by rfl,rfl⟩) ?_;try simp only[xap]
   refine xtk 7 (v:=undef) rfl (Or.inr ⟨by rfl,rfl⟩) ?_;try simp only[xap]
   refine xtk 8 (v:=undef) rfl (Or.inr ⟨by rfl,rfl⟩) ?_;try simp only[xap]
   refine xtk 9 (v:=undef) rfl (Or.inr ⟨by rfl,rfl⟩) ?_;try simp only[xap]
   refine xtk 10 (v:=undef) rfl (Or.inr ⟨by rfl,rfl⟩) ?_;try simp only[xap]
   refine xtk 11 (v:=undef) rfl (Or.inr ⟨by rfl,rfl⟩) ?_;try simp only[xap]
   refine xtk 12 (v:=undef) rfl (Or.inr ⟨by rfl,rfl⟩) ?_;try simp only[xap]
   refine xtk 13 (v:=undef) rfl (Or.inr ⟨by rfl,rfl⟩) ?_;try simp only[xap]
   refine xz 14 rfl (h:=?_);try simp only[xap]
   refine xdn ?_ _;clear hHeld;go_wp2_with fail;rw[rounds_succ];go_wp2_with fail;go_end0;exact⟨rfl,hE.out.1,(((hE.out.2.trans (Kp.drew (fun _=>False) _) (fun _ r=>r.elim)).trans (Kp.drew (fun _=>False) _) (fun _ r=>r.elim)).trans (Kp.drew (fun _=>False) _) (fun _ r=>r.elim))⟩
 ·have e:srt [x,y]=[x,y]:=by simp[srt,hyx]
  rw[e];have e2:decide (y<x)=false:=by simpa using hyx
  rw[e2]at hl;replace h:=Hid.mk h;replace hl:=Hid.mk hl;clear e e2 hyx;go_enter Tryz.func185,Tryz.ntmps185;go_wp2_with fail;refine wp_loop_rounds 2 ?_;rw[rounds_succ];go_wp2_with fail;refine wp_loop_rounds 2 ?_;rw[rounds_succ];go_wp2_with fail;refine wp_region_held_drew (S:=fun W=>W.cell? ⟨g,0,none⟩=some (.int .i64 x)∧W.cell? ⟨g,1,none⟩=some (.int .i64 y)) (by kernel_rfl) (by constructor<;>assumption) (fun hHeld=>?_);refine xz 0 rfl (h:=xz 1 rfl (h:=xz 2 rfl (h:=xz 3 rfl (h:=?_))));try simp only[xap]
  refine xz 4 rfl (h:=?_);try simp only[xap]
  refine xz 5 rfl (h:=?_);try simp only[xap]
  refine xz 6 rfl (h:=?_);try simp only[xap]
  refine xz 7 rfl (h:=?_);try simp only[xap]
  refine xz 8 rfl (h:=?_);try simp only[xap]
  refine xz 9 rfl (h:=?_);try simp only[xap]
  refine xz 10 rfl (h:=?_);try simp only[xap]
  refine xtk 11 (v:=.pointer (some ⟨g,0,none⟩)) rfl (Or.inl ⟨by rfl,?_⟩) ?_
  ·intro w hSw;(try dsimp only at hSw);first|(go_simp;done)|(go_simp;rfl)|rfl
  try simp only[xap]
  refine xz 12 rfl (h:=?_);try simp only[xap]
  refine xrd 13 rfl (fun K hK=>?_);go_simp;go_at_call 191;refine(hl.out _).mono ?_;rintro z w1 ⟨rfl,rfl⟩;refine hK.out _ _ (by assumption) (fun hHeld=>?_);clear hK K;try simp only[xap]
  refine xz 14 rfl (h:=?_);try simp only[xap]
  refine xdn ?_ _;clear hHeld;go_wp2_with fail;rw[rounds_succ];go_wp2_with fail;go_end0;exact⟨rfl,h.out,Kp.drew _ _⟩
theorem Sort_any (lo:Nat)(v:Value)(l:List Int)(w:World)(hl:l.length≤2)(h:IOwn w lo v l):Calls Tryz.prog 169 #[v] w fun e w'=>e=.returned (.tuple #[])∧IOwn w' lo v (srt l)∧Kp (fun k=>v.ownBlock=some k) w w':=by
 obtain⟨a,cap,rfl⟩:=own_slice h;have hP:∀lim,Calls Tryz.prog 182 #[.slice a l.length cap,.int .i64 0,.int .i64 l.length,.int .i64 lim] w fun e w'=>e=.returned (.tuple #[])∧IOwn w' lo (.slice a l.length cap) (srt l)∧Kp (fun k=>(Value.slice a l.length cap).ownBlock=some k) w w':=by
  intro lim;have hI:Calls Tryz.prog 185 #[.slice a l.length cap,.int .i64 0,.int .i64 l.length] w fun e w'=>e=.returned (.tuple #[])∧IOwn w' lo (.slice a l.length cap) (srt l)∧Kp (fun k=>(Value.slice a l.length cap).ownBlock=some k) w w':=by
   match l,hl,h with
   |[],_,h=>
    refine(ins_few a 0 cap w (by omega)).mono ?_;rintro x w1 ⟨rfl,rfl⟩;exact⟨rfl,h,Kp.refl _ _⟩
   |[x],_,h=>
    refine(ins_few a 1 cap w (by omega)).mono ?_;rintro x w1 ⟨rfl,rfl⟩;exact⟨rfl,h,Kp.refl _ _⟩
   |[x,y],_,h=>
    obtain⟨g,rfl⟩:∃g,a=some ⟨g,0,none⟩:=by
     rcases h.2 with⟨h0,_⟩|⟨g,cap',cur,h0,_⟩
     ·cases h0
     ·exact⟨g,by injection h0⟩
    refine(ins_two lo g cap x y w h).mono ?_;rintro x w1 ⟨rfl,h1,h2⟩;refine⟨rfl,?_,h2.mono (fun k r=>.inl (by simp[Value.ownBlock,r]))⟩;exact h1
  have hl1:(l.length:Int)≤12:=by omega
  replace h:=Hid.mk h;replace hI:=Hid.mk hI;go_enter Tryz.func182,Tryz.ntmps182;go_wp2_with fail;refine wp_loop_rounds 1 ?_;rw[rounds_succ];go_wp2_with(go_at_call 185;refine hI.out.mono ?_;rintro x w1 ⟨rfl,h1,h2⟩;replace h1:=Hid.mk h1;replace h2:=Hid.mk h2);refine bodyPost_ret (results_none (by kernel_rfl) _ _ _) rfl ?_;exact⟨rfl,h1.out,h2.out⟩
 have hn:=len_any l.length w hl;have hw:IntKind.u64.wrap (l.length:Int)=l.length:=by rw[IntKind.wrap_u64];omega
 replace h:=Hid.mk h;replace hP:=Hid.mk hP;replace hn:=Hid.mk hn;go_enter Tryz.func169,Tryz.ntmps169;go_wp2_with(first|(go_at_call 183;refine hn.out.mono ?_;rintro x w1 ⟨⟨k,rfl⟩,rfl⟩)|(go_at_call 182;refine(hP.out _).mono ?_;rintro x w2 ⟨rfl,h1,h2⟩;replace h1:=Hid.mk h1;replace h2:=Hid.mk h2));go_end0;exact⟨rfl,h1.out,h2.out⟩
theorem sorted_ext:∀l1 l2:List Int,l1.Pairwise (·<·)→l2.Pairwise (·<·)→(∀x,x∈l1↔x∈l2)→l1=l2
 |[],[],_,_,_=>rfl
 |[],b::l2,_,_,h=>by have:=(h b).2 (by simp);simp at this
 |a::l1,[],_,_,h=>by have:=(h a).1 (by simp);simp at this
 |a::l1,b::l2,h1,h2,h=>by
  rw[List.pairwise_cons]at h1 h2;have e:a=b:=by
   have q1:=(h a).1 (by simp);have q2:=(h b).2 (by simp);rcases List.mem_cons.1 q1 with r|r
   ·exact r
   ·rcases List.mem_cons.1 q2 with t|t
    ·exact t.symm
    ·have a1:=h2.1 a r;have a2:=h1.1 b t;omega
  subst e;have:l1=l2:=sorted_ext l1 l2 h1.2 h2.2 (fun x=>by
   have hx:=h x
   constructor
   ·intro r;rcases List.mem_cons.1 (hx.1 (by simp[r]))with t|t
    ·subst t;have:=h1.1 x r;omega
    ·exact t
   ·intro r;rcases List.mem_cons.1 (hx.2 (by simp[r]))with t|t
    ·subst t;have:=h2.1 x r;omega
    ·exact t)
  rw[this]
def nxtI (L:List Ins)(pc:Int):List Int:=if thB L.length pc=true then((List.range L.length).filter (folB L pc.toNat)).map (fun q:Nat=>(q:Int))else []
theorem nxt_sorted (L:List Ins)(pc:Int):(nxtI L pc).Pairwise (·<·):=by
 unfold nxtI
 split
 ·rw[List.pairwise_map];exact(List.pairwise_lt_range.filter _).imp (fun h=>by omega)
 ·exact List.Pairwise.nil
theorem mem_nxt {L:List Ins}{p:Nat}(hp:p<L.length)(x:Int):x∈nxtI L p↔∃q:Nat,x=q∧folB L p q=true:=by
 unfold nxtI;rw[if_pos (thB_nat.2 hp)];simp only[List.mem_map,List.mem_filter,List.mem_range,Int.toNat_natCast]
 constructor
 ·rintro⟨q,⟨_,h⟩,rfl⟩;exact⟨q,rfl,h⟩
 ·rintro⟨q,rfl,h⟩;exact⟨q,⟨folB_lt h,h⟩,rfl⟩
def ddS (n:Nat)(l:List Int)(x:Int):List Int:=if thB n x=true∧memB l x=false then l++[x]else l
def ddF (n:Nat)(N:List Int):List Int:=N.foldl (ddS n) []
theorem dd_len (n:Nat):∀(N l:List Int),(N.foldl (ddS n) l).length≤l.length+N.length
 |[],l=>by simp
 |x::N,l=>by
  have:=dd_len n N (ddS n l x);have h2:(ddS n l x).length≤l.length+1:=by unfold ddS;split<;>simp
  simp only[List.foldl_cons,List.length_cons];omega
theorem dd_take (n:Nat)(N:List Int)(j:Nat)(hj:j<N.length):ddF n (N.take (j+1))=ddS n (ddF n (N.take j)) N[j]:=by
 unfold ddF;rw[List.take_add_one,List.getElem?_eq_getElem hj,Option.toList_some,List.foldl_append]
 rfl
theorem mem1 (z x:Int):z∈[x]↔z=x:=by simp
theorem mem2 (z x y:Int):z∈[x,y]↔z=x∨z=y:=by simp
theorem pw1 (x:Int):[x].Pairwise (·<·):=List.pairwise_singleton _ _
theorem pw2 (x y:Int)(h:x<y):[x,y].Pairwise (·<·):=by simpa using h
theorem dd_one (n:Nat)(x:Int):(srt (ddF n [x])).Pairwise (·<·)∧∀z,z∈srt (ddF n [x])↔thB n z=true∧z=x:=by
 by_cases h:thB n x=true
 ·have e:srt (ddF n [x])=[x]:=by simp[ddF,ddS,memB,h,srt]
  rw[e];refine⟨pw1 x,fun z=>?_⟩;rw[mem1];exact⟨fun r=>⟨r▸h,r⟩,fun r=>r.2⟩
 ·have e:srt (ddF n [x])=[]:=by simp[ddF,ddS,h,srt]
  rw[e];refine⟨List.Pairwise.nil,fun z=>?_⟩;exact⟨fun r=>by simp at r,fun r=>absurd (r.2▸r.1) h⟩
theorem dd_two (n:Nat)(x y:Int):(srt (ddF n [x,y])).Pairwise (·<·)∧∀z,z∈srt (ddF n [x,y])↔thB n z=true∧(z=x∨z=y):=by
 by_cases hx:thB n x=true<;>by_cases hy:thB n y=true
 ·by_cases e:y=x
  ·have e:srt (ddF n [x,y])=[x]:=by simp[ddF,ddS,memB,hx,e,srt]
   rw[e];refine⟨pw1 x,fun z=>?_⟩;rw[mem1];exact⟨fun r=>⟨r▸hx,.inl r⟩,fun r=>r.2.elim id (fun q=>by omega)⟩
  ·by_cases hlt:y<x
   ·have e:srt (ddF n [x,y])=[y,x]:=by simp[ddF,ddS,memB,hx,hy,e,srt,hlt]
    rw[e];refine⟨pw2 y x hlt,fun z=>?_⟩;rw[mem2];exact⟨fun r=>r.elim (fun q=>⟨q▸hy,.inr q⟩) (fun q=>⟨q▸hx,.inl q⟩),fun r=>r.2.elim .inr .inl⟩
   ·have e:srt (ddF n [x,y])=[x,y]:=by simp[ddF,ddS,memB,hx,hy,e,srt,hlt]
    rw[e];refine⟨pw2 x y (by omega),fun z=>?_⟩;rw[mem2];exact⟨fun r=>r.elim (fun q=>⟨q▸hx,.inl q⟩) (fun q=>⟨q▸hy,.inr q⟩),fun r=>r.2⟩
 ·have e:srt (ddF n [x,y])=[x]:=by simp[ddF,ddS,memB,hx,hy,srt]
  rw[e];refine⟨pw1 x,fun z=>?_⟩;rw[mem1];exact⟨fun r=>⟨r▸hx,.inl r⟩,fun r=>r.2.elim id (fun q=>absurd (q▸r.1) hy)⟩
 ·have e:srt (ddF n [x,y])=[y]:=by simp[ddF,ddS,memB,hx,hy,srt]
  rw[e];refine⟨pw1 y,fun z=>?_⟩;rw[mem1];exact⟨fun r=>⟨r▸hy,.inr r⟩,fun r=>r.2.elim (fun q=>absurd (q▸r.1) hx) id⟩
 ·have e:srt (ddF n [x,y])=[]:=by simp[ddF,ddS,hx,hy,srt]
  rw[e];refine⟨List.Pairwise.nil,fun z=>?_⟩;exact⟨fun r=>by simp at r,fun r=>r.2.elim (fun q=>absurd (q▸r.1) hx) (fun q=>absurd (q▸r.1) hy)⟩
theorem nxt_jump {L:List Ins}{p:Nat}(hp:p<L.length)(hw:wayN L[p].op=1):nxtI L p=srt (ddF L.length [L[p].m]):=
 sorted_ext _ _ (nxt_sorted L p) (dd_one _ _).1 (fun x=>by
  rw[mem_nxt hp,(dd_one _ _).2]
  constructor
  ·rintro⟨q,rfl,h⟩;rw[fol_jump hp hw]at h;simp at h;exact⟨thB_nat.2 h.1,h.2⟩
  ·rintro⟨h1,h2⟩;obtain⟨q,rfl,hq⟩:=thB_elim h1;exact⟨q,rfl,by rw[fol_jump hp hw];simp[hq,h2]⟩)
theorem nxt_next {L:List Ins}{p:Nat}(hp:p<L.length)(hw:wayN L[p].op=0):nxtI L p=srt (ddF L.length [(p:Int)+1]):=
 sorted_ext _ _ (nxt_sorted L p) (dd_one _ _).1 (fun x=>by
  rw[mem_nxt hp,(dd_one _ _).2]
  constructor
  ·rintro⟨q,rfl,h⟩;rw[fol_next hp hw]at h;simp at h;exact⟨thB_nat.2 h.1,by omega⟩
  ·rintro⟨h1,h2⟩;obtain⟨q,rfl,hq⟩:=thB_elim h1;exact⟨q,rfl,by rw[fol_next hp hw];simp[hq];omega⟩)
theorem nxt_branch {L:List Ins}{p:Nat}(hp:p<L.length)(hw:wayN L[p].op=2):nxtI L p=srt (ddF L.length [(p:Int)+1,L[p].m]):=
 sorted_ext _ _ (nxt_sorted L p) (dd_two _ _ _).1 (fun x=>by
  rw[mem_nxt hp,(dd_two _ _ _).2]
  constructor
  ·rintro⟨q,rfl,h⟩;rw[fol_branch hp hw]at h;simp at h;refine⟨thB_nat.2 h.1,?_⟩;rcases h.2 with r|r
   ·exact .inr r
   ·exact .inl (by omega)
  ·rintro⟨h1,h2⟩;obtain⟨q,rfl,hq⟩:=thB_elim h1;refine⟨q,rfl,?_⟩;rw[fol_branch hp hw];simp[hq];rcases h2 with r|r
   ·exact .inr (by omega)
   ·exact .inl r)
theorem nxt_ends {L:List Ins}{p:Nat}(hp:p<L.length)(hw:wayN L[p].op=4):nxtI L p=[]:=by
 unfold nxtI;rw[if_pos (thB_nat.2 hp),List.map_eq_nil_iff,List.filter_eq_nil_iff];intro q _;simp[folB,hp,wyF,hw]
theorem nxt_all {L:List Ins}{p:Nat}(hp:p<L.length)(hw:wayN L[p].op=3):nxtI L p=(List.range L.length).map (fun q:Nat=>(q:Int)):=by
 unfold nxtI;rw[if_pos (thB_nat.2 hp)]
 congr 1
 rw[List.filter_eq_self];intro q hq;have:=List.mem_range.1 hq;simp[folB,hp,wyF,hw,this]
theorem own_nin {w:World}{lo g cap:Nat}{a:Option Addr}{l:List Int}(h:IOwn w lo (.slice a g cap) l):NIn w.heap.size w a l:=by
 intro i hi;rcases h.2 with⟨h0,h1⟩|⟨g',cap',cur,hv,hbg,hh,rest⟩
 ·omega
 ·injection hv with e1 e2 e3
  subst e1;have hlt:g'<w.heap.size:=(Array.getElem?_eq_some_iff.1 hh).1;refine⟨g',0,rfl,hlt,hlt,?_⟩;rw[Nat.zero_add];have hc:=World.ownsRow.cells h (g:=g') rfl i (.int .i64 l[i]) (by simp[hi])
  rwa [addr_add,Nat.zero_add]at hc
theorem below_own {w:World}{lo n g:Nat}{v:Value}{xs:List Value}{e:TypeId}(h:w.ownsRow lo e n v g xs){w1:World}(hk:Kp (fun k=>v.ownBlock=some k) w w1)(hlo:lo≤w.heap.size):Below lo w w1:=
 hk.below hlo (fun k r=>(World.ownsRow.lt h k r).1)
theorem thoseThere_any (ca:Option Addr)(n cc:Nat)(na:Addr)(nc:Nat)(N:List Int)(w:World)(hN:NIn w.heap.size w (some na) N)(hl:N.length≤2):
 Calls Tryz.prog 137 #[.slice ca n cc,.slice (some na) N.length nc] w fun e w'=>∃v,e=.returned v∧IOwn w' w.heap.size v (srt (ddF n N))∧Below w.heap.size w w':=by
 have hT:=there_any ca n cc;have hC:=fun(W:World) (a:Option Addr) (c:Nat) (l:List Int) (x:Int) (h:IOwn W w.heap.size (.slice a l.length c) l) (h2:l.length≤4000000)=>Contains_any a c l x W (own_nin h) h2
 have hS:=fun(W:World) v (l:List Int) (h:IOwn W w.heap.size v l) (h2:l.length≤2)=>Sort_any w.heap.size v l W h2 h
 have hdl:∀j,(ddF n (N.take j)).length≤2:=fun j=>by
  have:=dd_len n (N.take j) [];unfold ddF;rw[List.length_take]at this;simp at this;omega
 replace hN:=Hid.mk hN;replace hT:=Hid.mk hT;replace hC:=Hid.mk hC;replace hS:=Hid.mk hS;replace hdl:=Hid.mk hdl;go_enter Tryz.func137,Tryz.ntmps137;go_wp2_with fail;go_loopw [5,10] (fun v i wr=>∃j:Nat,i=.int .i64 j∧j≤N.length∧Hid (IOwn wr w.heap.size v (ddF n (N.take j))∧Below w.heap.size w wr)) (fun _ i _=>N.length - (intOf i).toNat)
 case atStart=>exact⟨0,rfl,by omega,Hid.mk ⟨⟨rfl,.inl ⟨rfl,rfl⟩⟩,Below.refl _ _⟩⟩
 case round=>
  obtain⟨j,rfl,hj,⟨h1,h2⟩⟩:=hrel;by_cases hlt:j<N.length
  ·obtain⟨b,off,ena,hb0,hb,hc⟩:=hN.out j hlt;injection ena with ena;subst ena;have hc':=(h2.cell (p:=⟨b,off+j,none⟩) hb0).trans hc;have hi1:(j:Int)<N.length:=by omega
   have hs:=dd_take n N j hlt;have hl2:=hdl.out j;generalize N[j]=x at*;obtain⟨va,vc,rfl⟩:=own_slice h1;generalize ddF n (N.take j)=l at*
   cases et:thB n x with
   |false=>
    have e1:ddS n l x=l:=by simp[ddS,et]
    rw[e1]at hs;have hnew:Hid (IOwn wr w.heap.size (.slice va l.length vc) (ddF n (N.take (j+1)))∧Below w.heap.size w wr):=Hid.mk ⟨by rw[hs];exact h1,h2⟩;replace h1:=Hid.mk h1;replace h2:=Hid.mk h2;clear hs e1;go_wp2_with(first|(go_at_call 135;refine(hT.out _ _).mono ?_;rintro y w1 ⟨rfl,rfl⟩;rw[et]));go_roundw
    all_goals first|exact⟨j+1,by simp,by omega,hnew⟩|(simp only[intOf];omega)
   |true=>
    cases em:memB l x with
    |true=>
     have e1:ddS n l x=l:=by simp[ddS,em]
     rw[e1]at hs;have hnew:Hid (IOwn wr w.heap.size (.slice va l.length vc) (ddF n (N.take (j+1)))∧Below w.heap.size w wr):=Hid.mk ⟨by rw[hs];exact h1,h2⟩;replace h1:=Hid.mk h1;replace h2:=Hid.mk h2;clear hs e1;go_wp2_with(first|(go_at_call 135;refine(hT.out _ _).mono ?_;rintro y w1 ⟨rfl,rfl⟩;rw[et])|(go_at_call 168;refine(hC.out _ _ _ l x h1.out (by omega)).mono ?_;rintro y w1 ⟨rfl,rfl⟩;rw[em]));go_roundw
     all_goals first|exact⟨j+1,by simp,by omega,hnew⟩|(simp only[intOf];omega)
    |false=>
     have e1:ddS n l x=l++[x]:=by simp[ddS,et,em]
     rw[e1]at hs;have hsz:=h2.size;have h1':IOwn (wr.alloc (.cells #[.int .i64 x] 3)) w.heap.size (.slice va l.length vc) l:=own_below h1 (by(repeat(first|assumption|with_reducible exact Below.refl _ _|with_reducible refine Below.alloc ?_ (by simp<;>omega) _|with_reducible refine Below.setCell ?_ (by simp<;>omega) _|with_reducible refine Below.drew ?_)));have hlk:=World.ownsRow.lt h1;replace h1:=Hid.mk h1;replace h2:=Hid.mk h2;replace h1':=Hid.mk h1';replace hs:=Hid.mk hs;replace hlk:=Hid.mk hlk;clear e1;go_wp2_with(first|(go_at_call 135;refine(hT.out _ _).mono ?_;rintro y w1 ⟨rfl,rfl⟩;rw[et])|(go_at_call 168;refine(hC.out _ _ _ l x h1.out (by omega)).mono ?_;rintro y w1 ⟨rfl,rfl⟩;rw[em])|(at_builtin;refine wpList_append_int rfl (.tmp 23) (.tmp 25) rfl w.heap.size (.slice va l.length vc) l x rfl h1'.out _ rfl (At.new _ _ _) (by omega) (by simp;omega) ?_));intro g cap w2 g1 g2 g3 g4;have hnew:Hid (IOwn w2 w.heap.size (.slice (some ⟨g,0,none⟩) (l.length+1) cap) (ddF n (N.take (j+1)))∧Below w.heap.size w w2):=Hid.mk ⟨by rw[hs.out];exact g1,(h2.out.trans ((Below.refl _ _).alloc hsz _)).trans (Below.of_grown g2 (by simp;omega) (fun k r=>(hlk.out k r).1))⟩
     replace g1:=Hid.mk g1;replace g2:=Hid.mk g2;go_wp2_with fail;go_roundw
     all_goals first|exact⟨j+1,by simp,by omega,hnew⟩|(simp only[intOf];omega)
  ·have hi1:¬(j:Int)<N.length:=by omega
   have ej:N.take j=N:=List.take_of_length_le (by omega);have hl2:=hdl.out j;rw[ej]at h1 hl2;have hlo:=h2.size;replace h1:=Hid.mk h1;replace h2:=Hid.mk h2;go_wp2_with(first|(go_at_call 169;refine(hS.out _ _ (ddF n N) h1.out hl2).mono ?_;rintro y w1 ⟨rfl,k1,k2⟩;replace k1:=Hid.mk k1;replace k2:=Hid.mk k2));go_ret;exact⟨_,rfl,k1.out,h2.out.trans (below_own h1.out k2.out hlo)⟩
def AllAt (w:World)(n j:Nat)(wr:World):Prop:=
 Hid (Below w.heap.size w wr∧∃l:List Int,l.length=n∧IOwn wr w.heap.size (.slice (some ⟨w.heap.size,0,none⟩) n n) l∧∀k,k<j→l[k]?=some (k:Int))
theorem allOf_any (ca:Option Addr)(n cc:Nat)(w:World)(hn:n<2000000):Calls Tryz.prog 136 #[.slice ca n cc] w fun e w'=>∃v,e=.returned v∧IOwn w' w.heap.size v ((List.range n).map fun q:Nat=>(q:Int))∧Below w.heap.size w w':=by
 have hm:=make_ints n (by omega);have h0:AllAt w n 0 (w.alloc (.cells (Array.replicate n (.int .i64 0)) 3)):=Hid.mk ⟨by(repeat(first|assumption|with_reducible exact Below.refl _ _|with_reducible refine Below.alloc ?_ (by simp<;>omega) _|with_reducible refine Below.setCell ?_ (by simp<;>omega) _|with_reducible refine Below.drew ?_)),List.replicate n 0,by simp,⟨by simp,.inr ⟨w.heap.size,n,Array.replicate n (.int .i64 0),by simp,Nat.le_refl _,(MapKept.heap_alloc w _).1,by simp,by unfold maxLen;omega,by simp,by simp⟩⟩,fun k hk=>by omega⟩;have hE:∀wr,AllAt w n n wr→IOwn wr w.heap.size (.slice (some ⟨w.heap.size,0,none⟩) n n) ((List.range n).map fun q:Nat=>(q:Int))∧Below w.heap.size w wr:=fun wr q=>by
  obtain⟨q1,l,q2,q3,q4⟩:=q.out;have:l=(List.range n).map fun q:Nat=>(q:Int):=by
   apply List.ext_getElem?;intro k;by_cases hk:k<n
   ·rw[q4 k hk];simp[hk]
   ·rw[List.getElem?_eq_none (by omega),List.getElem?_eq_none (by simp;omega)]
  rw[←this];exact⟨q3,q1⟩
 have hS:∀j wr,AllAt w n j wr→j<n→(∃y,wr.cell? ⟨w.heap.size,j,none⟩=some y)∧wr.frozen? ⟨w.heap.size,j,none⟩=false∧AllAt w n (j+1) (wr.setCell ⟨w.heap.size,j,none⟩ (.int .i64 (j:Int))):=fun j wr q hj=>by
  obtain⟨q1,l,q2,q3,q4⟩:=q.out;have q3':IOwn wr w.heap.size (.slice (some ⟨w.heap.size,0,none⟩) l.length n) l:=by rw[q2];exact q3
  refine⟨⟨_,own_cell q3 j (by omega)⟩,World.ownsRow.frozenAt q3' j,Hid.mk ⟨q1.setCell (Nat.le_refl _) _,l.set j (j:Int),by simp[q2],?_,fun k hk=>?_⟩⟩
  ·have:=(World.ownsRow.stored q3' j (.int .i64 (j:Int))).1;unfold IOwn;rw[List.length_set,List.map_set,←q2]at*;exact this
  ·by_cases e:k=j
   ·subst e;simp[q2,hj]
   ·rw[List.getElem?_set_ne (fun r=>e r.symm)];exact q4 k (by omega)
 replace hE:=Hid.mk hE;replace hS:=Hid.mk hS;go_enter Tryz.func136,Tryz.ntmps136;go_wp2_with fail;go_loopw [10] (fun i wr=>∃j:Nat,i=.int .i64 j∧j≤n∧AllAt w n j wr) (fun i _=>n - (intOf i).toNat)
 case atStart=>exact⟨0,rfl,by omega,h0⟩
 case round=>
  obtain⟨j,rfl,hj,hI⟩:=hrel;by_cases hlt:j<n
  ·obtain⟨⟨y,s1⟩,s2,s3⟩:=hS.out j wr hI hlt;have hi1:(j:Int)<n:=by omega
   go_wp2_with fail;go_roundw
   all_goals first|exact⟨j+1,by simp,by omega,s3⟩|(simp only[intOf];omega)
  ·have hi1:¬(j:Int)<n:=by omega
   have ej:j=n:=by omega
   subst ej;go_wp2_with fail;go_ret;exact⟨_,rfl,(hE.out _ hI).1,(hE.out _ hI).2⟩
theorem nin_one (w:World)(x:Int):NIn (w.alloc (.cells #[.int .i64 x] 3)).heap.size (w.alloc (.cells #[.int .i64 x] 3)) (some ⟨w.heap.size,0,none⟩) [x]:=fun i hi=>by
 obtain rfl:i=0:=by simp at hi;omega
 exact⟨w.heap.size,0,rfl,by simp,by simp,(At.new w #[.int .i64 x] 3).2.1 0⟩
theorem nin_two (w:World)(x y:Int):NIn (w.alloc (.cells #[.int .i64 x,.int .i64 y] 3)).heap.size (w.alloc (.cells #[.int .i64 x,.int .i64 y] 3)) (some ⟨w.heap.size,0,none⟩) [x,y]:=fun i hi=>by
 obtain rfl|rfl:i=0∨i=1:=by simp at hi;omega
 ·exact⟨w.heap.size,0,rfl,by simp,by simp,(At.new w #[.int .i64 x,.int .i64 y] 3).2.1 0⟩
 ·exact⟨w.heap.size,0,rfl,by simp,by simp,(At.new w #[.int .i64 x,.int .i64 y] 3).2.1 1⟩
theorem own_lower {w:World}{b b':Nat}{v:Value}{l:List Int}(h:IOwn w b v l)(hb:b'≤b):IOwn w b' v l:=by
 refine⟨h.1,?_⟩;rcases h.2 with h2|⟨g,cap,cur,hv,hbg,rest⟩
 ·exact .inl h2
 ·exact .inr ⟨g,cap,cur,hv,by omega,rest⟩
theorem Next_any (L:List Ins)(ca:Option Addr)(cc:Nat)(pc:Int)(w:World)(hL:LIn w.heap.size w ca L)(hn:L.length<2000000):
 Calls Tryz.prog 90 #[.slice ca L.length cc,.int .i64 pc] w fun e w'=>∃v,e=.returned v∧IOwn w' w.heap.size v (nxtI L pc)∧Below w.heap.size w w':=by
 have hT:=there_any ca L.length cc
 cases et:thB L.length pc with
 |false=>
  have e0:nxtI L pc=[]:=by simp[nxtI,et]
  rw[e0];replace hL:=Hid.mk hL;replace hT:=Hid.mk hT;go_enter Tryz.func90,Tryz.ntmps90;go_wp2_with(first|(go_at_call 135;refine(hT.out _ _).mono ?_;rintro y w1 ⟨rfl,rfl⟩;rw[et]));go_ret;exact⟨_,rfl,⟨rfl,.inl ⟨rfl,rfl⟩⟩,Below.refl _ _⟩
 |true=>
  obtain⟨q,rfl,hq⟩:=thB_elim et;obtain⟨b,off,rfl,hb0,hb,five⟩:=hL q hq;have c0:=five.1;have c4:=five.2.2.2.2;have hW:=wayOf_any L[q].op;have hA:=allOf_any (some ⟨b,off,none⟩) L.length cc w hn;have hq1:(q:Int)<L.length:=by omega
  have hq2:¬(L.length:Int)≤q:=by omega
  have h1:=fun x=>thoseThere_any (some ⟨b,off,none⟩) L.length cc ⟨w.heap.size,0,none⟩ 1 [x] _ (nin_one w x) (by simp)
  have h2:=fun x y=>thoseThere_any (some ⟨b,off,none⟩) L.length cc ⟨w.heap.size,0,none⟩ 2 [x,y] _ (nin_two w x y) (by simp)
  simp only[List.length_cons,List.length_nil]at h1 h2;have fin:∀(o:Obj) (w1:World) (v:Value) (l:List Int),IOwn w1 (w.alloc o).heap.size v l→Below (w.alloc o).heap.size (w.alloc o) w1→IOwn w1 w.heap.size v l∧Below w.heap.size w w1:=fun o w1 v l r1 r2=>
   ⟨own_lower r1 (by simp),((Below.refl _ w).alloc (Nat.le_refl _) o).trans (r2.mono (by simp))⟩
  replace hL:=Hid.mk hL;replace five:=Hid.mk five;replace hT:=Hid.mk hT;replace hA:=Hid.mk hA;replace h1:=Hid.mk h1;replace h2:=Hid.mk h2;replace fin:=Hid.mk fin;rcases way_cases L[q].op with hy|hy|hy|hy|hy
  ·rw[nxt_ends hq hy];rw[hy]at hW;generalize L[q].op=op at*;generalize L[q].m=im at*;replace hW:=Hid.mk hW;go_enter Tryz.func90,Tryz.ntmps90;go_wp2_with(first|(go_at_call 135;refine(hT.out _ _).mono ?_;rintro y w1 ⟨rfl,rfl⟩;rw[et])|(go_at_call 132;refine(hW.out _).mono ?_;rintro y w1 ⟨rfl,rfl⟩));go_ret;exact⟨_,rfl,⟨rfl,.inl ⟨rfl,rfl⟩⟩,Below.refl _ _⟩
  ·rw[nxt_all hq hy];rw[hy]at hW;generalize L[q].op=op at*;generalize L[q].m=im at*;replace hW:=Hid.mk hW;go_enter Tryz.func90,Tryz.ntmps90;go_wp2_with(first|(go_at_call 135;refine(hT.out _ _).mono ?_;rintro y w1 ⟨rfl,rfl⟩;rw[et])|(go_at_call 132;refine(hW.out _).mono ?_;rintro y w1 ⟨rfl,rfl⟩)|(go_at_call 136;refine hA.out.mono ?_;rintro y w1 ⟨v,rfl,k1,k2⟩;replace k1:=Hid.mk k1;replace k2:=Hid.mk k2));go_ret;exact⟨_,rfl,k1.out,k2.out⟩
  ·rw[nxt_jump hq hy];rw[hy]at hW;generalize L[q].op=op at*;generalize L[q].m=im at*;replace hW:=Hid.mk hW;go_enter Tryz.func90,Tryz.ntmps90;go_wp2_with(first|(go_at_call 135;refine(hT.out _ _).mono ?_;rintro y w1 ⟨rfl,rfl⟩;rw[et])|(go_at_call 132;refine(hW.out _).mono ?_;rintro y w1 ⟨rfl,rfl⟩)|(go_at_call 137;refine(h1.out _).mono ?_;rintro y w1 ⟨v,rfl,k1,k2⟩;replace k1:=Hid.mk k1;replace k2:=Hid.mk k2));go_ret;exact⟨_,rfl,fin.out _ _ _ _ k1.out k2.out⟩
  ·rw[nxt_branch hq hy];rw[hy]at hW;generalize L[q].op=op at*;generalize L[q].m=im at*;replace hW:=Hid.mk hW;go_enter Tryz.func90,Tryz.ntmps90;go_wp2_with(first|(go_at_call 135;refine(hT.out _ _).mono ?_;rintro y w1 ⟨rfl,rfl⟩;rw[et])|(go_at_call 132;refine(hW.out _).mono ?_;rintro y w1 ⟨rfl,rfl⟩)|(go_at_call 137;refine(h2.out _ _).mono ?_;rintro y w1 ⟨v,rfl,k1,k2⟩;replace k1:=Hid.mk k1;replace k2:=Hid.mk k2));go_ret;exact⟨_,rfl,fin.out _ _ _ _ k1.out k2.out⟩
  ·rw[nxt_next hq hy];rw[hy]at hW;generalize L[q].op=op at*;generalize L[q].m=im at*;replace hW:=Hid.mk hW;go_enter Tryz.func90,Tryz.ntmps90;go_wp2_with(first|(go_at_call 135;refine(hT.out _ _).mono ?_;rintro y w1 ⟨rfl,rfl⟩;rw[et])|(go_at_call 132;refine(hW.out _).mono ?_;rintro y w1 ⟨rfl,rfl⟩)|(go_at_call 137;refine(h1.out _).mono ?_;rintro y w1 ⟨v,rfl,k1,k2⟩;replace k1:=Hid.mk k1;replace k2:=Hid.mk k2));go_ret;exact⟨_,rfl,fin.out _ _ _ _ k1.out k2.out⟩
end F
end Go.Proofs.YthlpjlnehonpdaaGreatDoor
