import Derived.Test.YtkhbiaaangnkdaaGreatDoorJ46
import Derived.Test.YtkhbiaaangnkdaaGreatDoorJ17
import Derived.Test.YtkhbiaaangnkdaaGreatDoorJ44
import Derived.Test.YtkhbiaaangnkdaaGreatDoorJ05
import Derived.Test.YtkhbiaaangnkdaaGreatDoorJ16
namespace Go.Proofs.YtkhbiaaangnkdaaGreatDoor
namespace C
open Go.RowKit
open T (Sep Ob Kp Mf TgIn boxOb Fm Tc Ed Vl Cp Bx tgOb mRow)
section
variable {P:PImg} {n:Nat} {s s':Ms} {e:Ed}
theorem Okm.more (h:Okm P n s)(k:Nat):Okm P (n+k) s:=⟨h.f,h.st,h.dp,h.inp,by have:=h.out;omega,by have:=h.tou;omega,h.t⟩
theorem Okm.ended (h:Okm P n s)(e:Ed):Okm P n (s.ended e):=⟨h.f,h.st,h.dp,h.inp,h.out,h.tou,h.t⟩
theorem okm_steps (hP:POk P):∀(k:Nat) {n:Nat} {s:Ms},Okm P n s→Okm P (n+k) (stepsM P k s)
 |0,_,_,h=>h
 |k+1,n,s,h=>by
  by_cases h0:s.over.e=0
  ·cases hq:stepM P s with
   |ok s'=>
    rw[stepsM_ok h0 hq];have:=okm_steps hP k (okm_step hP h hq)
    rwa [show n+1+k=n+(k+1)by omega]at this
   |error e=>
    rw[stepsM_err h0 hq];exact(h.more _).ended e
  ·rw[stepsM_end h0];exact h.more _
theorem okm_spent (h:Okm P n s):Okm P n (spent s):=by
 unfold spent
 split
 ·exact h.ended _
 ·exact h
theorem runM_nat (P:PImg)(N:Nat)(h:N≤100000)(s:Ms):runM P (N:Int) s=spent (stepsM P N s):=by
 unfold runM;rw[show (min (N:Int) 100000).toNat=N by omega]
theorem runM_end (P:PImg)(N:Int)(s:Ms)(h:¬s.over.e=0):runM P N s=s:=by
 unfold runM;rw[stepsM_end h];unfold spent;rw[if_neg h]
end
theorem run_oc (P:PImg)(hP:POk P)(s:Ms)(c n:Nat)(hs:Okm P c s)(hn:c+n≤1000000)(hn2:n≤100000)(t:Ms)(ht:runM P (n:Int) s=t)(B:Nat)(W:World)(a:Nat)(l:List Ob)(h:MIn B W a P s l):
 Calls Tryz.prog 8 #[.pointer (some ⟨a,0,none⟩),.int .i64 n] W fun x w'=>x=.returned (.agg #[.int .i64 t.over.e,.int .u64 t.over.v,.int .i64 t.over.f,.int .i64 t.at_.gate,.int .i64 t.at_.pc])∧MIn B w' a P t l∧Below B W w':=by
 rw[←ht];exact run_any B W a P s l c n hP h hs (by rw[show (min (n:Int) 100000).toNat=n by omega];exact hn)
end C
namespace Bd
open Go.RowKit
open T (Ed Fm Vl ofI)
open C (Ms stepM stepsM codeOf kOf argsOf resOf entF insM strM callM retM haltM inM recM twoR fitN runM spent bare)
def Gs (P:PImg)(k:Nat)(s s':Ms):Prop:=∀f,stepsM P (k+f) s=stepsM P f s'
theorem Gs.one {P:PImg}{s s':Ms}(h0:s.over.e=0)(h:stepM P s=.ok s'):Gs P 1 s s':=fun f=>by rw[Nat.add_comm];exact C.stepsM_ok h0 h
theorem Gs.trans {P:PImg}{s t u:Ms}{j k:Nat}(h:Gs P j s t)(g:Gs P k t u):Gs P (j+k) s u:=fun f=>by rw[Nat.add_assoc,h,g]
def AllI (r:Nat→Vl):Prop:=∀j,(r j).g=false
theorem AllI.upd {r:Nat→Vl}(h:AllI r)(i:Nat){v:Vl}(hv:v.g=false):AllI (T.updV r i v):=fun j=>by
 unfold T.updV
 split
 ·exact hv
 ·exact h j
structure Mn (L:List Ins)(n j:Nat)(s:Ms):Prop where
 g:s.at_.gate=0
 pc:s.at_.pc=j
 r:AllI s.at_.regs
 st:s.st=[]
 e:s.over=⟨0,0,0⟩
 i:(n - j)*L.length≤s.inp.length
structure Cd (L:List Ins)(n j i:Nat)(s:Ms):Prop where
 g:s.at_.gate=1
 pc:s.at_.pc=i
 r:AllI s.at_.regs
 st:∃f:Fm,s.st=[f]∧f.gate=0∧f.pc=j+1∧AllI f.regs
 e:s.over=⟨0,0,0⟩
 i:(n - (j+1))*L.length+(L.length - i)≤s.inp.length
section
variable {L:List Ins} {n j i:Nat} {s:Ms}
theorem Mn.run (h:Mn L n j s):s.over.e=0:=by rw[h.e]
theorem Cd.run (h:Cd L n j i s):s.over.e=0:=by rw[h.e]
theorem mn_step (hg:s.at_.gate=0)(hp:s.at_.pc=j){x:Ins}(hx:(mnL n)[j]?=some x):stepM (stP L n) s=insM (stP L n) s x.op x.a.toNat x.b.toNat x.c.toNat x.m:=by
 unfold stepM;rw[hg,hp,show codeOf (stP L n) (kOf (stP L n) 0)=mnL n from rfl,hx]
theorem cd_step (hg:s.at_.gate=1)(hp:s.at_.pc=i){x:Ins}(hx:(cdL L)[i]?=some x):stepM (stP L n) s=insM (stP L n) s x.op x.a.toNat x.b.toNat x.c.toNat x.m:=by
 unfold stepM;rw[hg,hp,show codeOf (stP L n) (kOf (stP L n) 1)=cdL L from rfl,hx]
theorem mn_call (h:Mn L n j s)(hj:j<n):∃t,Gs (stP L n) 1 s t∧Cd L n j 0 t:=by
 have hx:(mnL n)[j]?=some cll:=by
  unfold mnL;rw[List.getElem?_append_left (by rw[List.length_replicate];exact hj),List.getElem?_replicate,if_pos hj]
 have e:=mn_step (L:=L) h.g h.pc hx;have e2:insM (stP L n) s cll.op cll.a.toNat cll.b.toNat cll.c.toNat cll.m=callM (stP L n) s 1:=rfl;have e3:callM (stP L n) s 1=.ok {s with st:=s.st++[s.next.at_],at_:=entF (stP L n) 1 s.at_.regs 0}:=by
  unfold callM;rw[h.st]
  rfl
 rw[e2,e3]at e;refine⟨_,Gs.one h.run e,rfl,rfl,fun q=>?_,⟨s.next.at_,by show s.st++_=_;rw[h.st];rfl,h.g,?_,h.r⟩,h.e,?_⟩
 ·show(C.ovF s.at_.regs (fun _=>C.zV) 0 q).g=false;unfold C.ovF;rw[if_neg (by omega)]
  rfl
 ·show s.at_.pc+1=j+1;rw[h.pc]
 ·have:=h.i;show _≤s.inp.length;rw[show n - j=(n - (j+1))+1 by omega,Nat.add_mul]at this;omega
theorem cd_one (hL:∀x∈L,StI x)(h:Cd L n j i s)(hi:i<L.length):∃t,Gs (stP L n) 1 s t∧Cd L n j (i+1) t:=by
 have hx:(cdL L)[i]?=some L[i]:=by
  unfold cdL;rw[List.getElem?_append_left hi,List.getElem?_eq_getElem hi]
 have e:=cd_step (n:=n) h.g h.pc hx;have hI:=h.i;rcases hL L[i] (List.getElem_mem hi)with q|⟨b,hb,q⟩
 ·rw[q]at e;have e2:insM (stP L n) s 29 1 0 0 0=inM s 1:=rfl;replace e:stepM (stP L n) s=inM s 1:=e
  cases hs:s.inp with
  |nil=>rw[hs]at hI;simp at hI;omega
  |cons x l=>
   unfold inM at e;rw[hs]at e hI;rw[List.length_cons]at hI;dsimp only at e;refine⟨_,Gs.one h.run e,h.g,?_,AllI.upd h.r 1 rfl,h.st,h.e,?_⟩
   ·show s.at_.pc+1=i+1;rw[h.pc]
   ·show _≤l.length;omega
 ·rw[q]at e;replace e:stepM (stP L n) s=C.layM s 1 (recM s 3 b 2 0):=e;have e2:recM s 3 b 2 0=.ok (ofI (T.twoI 3 (s.at_.regs b).n (s.at_.regs 2).n)):=by
   unfold recM;rw[if_neg (by decide),if_neg (by decide),if_neg (by decide)];unfold twoR;rw[h.r b,h.r 2]
   rfl
  rw[e2]at e;refine⟨_,Gs.one h.run e,h.g,?_,AllI.upd h.r 1 rfl,h.st,h.e,?_⟩
  ·show s.at_.pc+1=i+1;rw[h.pc]
  ·show _≤s.inp.length;omega
theorem cd_all (hL:∀x∈L,StI x)(h:Cd L n j 0 s):∀k,k≤L.length→∃t,Gs (stP L n) k s t∧Cd L n j k t
 |0,_=>⟨s,fun f=>by rw[Nat.zero_add],h⟩
 |k+1,hk=>by
  obtain⟨t,g1,h1⟩:=cd_all hL h k (by omega);obtain⟨u,g2,h2⟩:=cd_one hL h1 (by omega);exact⟨u,g1.trans g2,h2⟩
theorem cd_ret (h:Cd L n j L.length s):∃t,Gs (stP L n) 1 s t∧Mn L n (j+1) t:=by
 have hx:(cdL L)[L.length]?=some rti:=by
  unfold cdL;rw[List.getElem?_append_right (Nat.le_refl _),Nat.sub_self]
  rfl
 have e:=cd_step (n:=n) h.g h.pc hx;obtain⟨f,hs,f1,f2,f3⟩:=h.st;have e2:insM (stP L n) s rti.op rti.a.toNat rti.b.toNat rti.c.toNat rti.m=retM (stP L n) s:=rfl;have e3:retM (stP L n) s=.ok {s with st:=[],at_:=C.backF f s.at_.regs 0}:=by
  unfold retM;rw[h.g,hs]
  rfl
 rw[e2,e3]at e;have hI:=h.i;refine⟨_,Gs.one h.run e,f1,f2,fun q=>?_,rfl,h.e,?_⟩
 ·show(C.ovF s.at_.regs f.regs 0 q).g=false;unfold C.ovF;rw[if_neg (by omega)];exact f3 q
 ·show _≤s.inp.length;omega
theorem mn_all (hL:∀x∈L,StI x)(h:Mn L n 0 s):∀k,k≤n→∃t,Gs (stP L n) (k*(L.length+2)) s t∧Mn L n k t
 |0,_=>⟨s,fun f=>by rw[Nat.zero_mul,Nat.zero_add],h⟩
 |k+1,hk=>by
  obtain⟨t,g1,h1⟩:=mn_all hL h k (by omega);obtain⟨u,g2,h2⟩:=mn_call h1 (by omega);obtain⟨v,g3,h3⟩:=cd_all hL h2 L.length (Nat.le_refl _);obtain⟨x,g4,h4⟩:=cd_ret h3;refine⟨x,?_,h4⟩;have:=((g1.trans g2).trans g3).trans g4
  rwa [show k*(L.length+2)+1+L.length+1=(k+1)*(L.length+2)by rw[Nat.add_mul];omega]at this
theorem mn_halt (h:Mn L n n s):∃v,stepM (stP L n) s=.error ⟨1,v,0⟩:=by
 have hx:(mnL n)[n]?=some hlt:=by
  unfold mnL;rw[List.getElem?_append_right (by rw[List.length_replicate];exact Nat.le_refl _),List.length_replicate,Nat.sub_self]
  rfl
 have e:=mn_step (L:=L) h.g h.pc hx;replace e:stepM (stP L n) s=haltM s 0:=e;unfold haltM at e;rw[h.r 0]at e;exact⟨_,e⟩
end
theorem st_start (L:List Ins)(n:Nat)(I:List Nat)(h:n*L.length≤I.length):Mn L n 0 (C.start (stP L n) 0 [] I):=
 ⟨rfl,rfl,fun q=>by
  show(C.ovF (C.intsF []) (fun _=>C.zV) 0 q).g=false;unfold C.ovF;rw[if_neg (by omega)]
  rfl,rfl,rfl,by
  show _≤(I.map fun x:Nat=>(x:Int)).length;rw[List.length_map,Nat.sub_zero];exact h⟩
theorem st_run {L:List Ins}{n:Nat}(hL:∀x∈L,StI x)(hl:L.length≤30)(hn:n≤5)(I:List Nat)(h:n*L.length≤I.length):
 (runM (stP L n) ((n*(L.length+2):Nat):Int) (C.start (stP L n) 0 [] I)).over.e=4∧
 runM (stP L n) 1 (runM (stP L n) ((n*(L.length+2):Nat):Int) (C.start (stP L n) 0 [] I))=runM (stP L n) ((n*(L.length+2):Nat):Int) (C.start (stP L n) 0 [] I)∧
 (runM (stP L n) ((n*(L.length+2)+1:Nat):Int) (C.start (stP L n) 0 [] I)).over.e=1:=by
 obtain⟨t,g,ht⟩:=mn_all hL (st_start L n I h) n (Nat.le_refl _);have hb:n*(L.length+2)≤5*32:=Nat.mul_le_mul (by omega) (by omega);have e1:=g 0;rw[Nat.add_zero]at e1;have e2:=g 1;obtain⟨v,hv⟩:=mn_halt ht;rw[C.stepsM_err ht.run hv]at e2;have r1:runM (stP L n) ((n*(L.length+2):Nat):Int) (C.start (stP L n) 0 [] I)=t.ended ⟨4,0,0⟩:=by
  rw[C.runM_nat _ _ (by omega),e1];show spent t=_;unfold spent;rw[if_pos ht.run]
 have r2:runM (stP L n) ((n*(L.length+2)+1:Nat):Int) (C.start (stP L n) 0 [] I)=t.ended ⟨1,v,0⟩:=by
  rw[C.runM_nat _ _ (by omega),e2]
  rfl
 rw[r1,r2];exact⟨rfl,C.runM_end _ _ _ (by show ¬(4:Int)=0;decide),rfl⟩
end Bd
set_option maxRecDepth 100000
set_option maxHeartbeats 40000000
namespace C
open Go.RowKit
open T (Sep Ob Kp Mf TgIn boxOb Fm Tc Ed Vl Cp Bx tgOb mRow updV flt)
theorem pick18_any (c:Int)(n:Nat)(hn:0<n)(hc: -9223372036854775808≤c∧c<9223372036854775808):∃g:Nat,g<n∧∀W,Calls Tryz.prog 5 #[.int .i64 c,.int .i64 n] W fun x w'=>x=.returned (.int .i64 g)∧w'=W:=by
 have hz:((n:Int)==0)=false:=beq_false_of_ne (by omega);by_cases h:c<0
 ·obtain⟨d,hd⟩:∃d:Nat, -(c+1)=d:=⟨(-(c+1)).toNat,by omega⟩;have w1:wrap64 (c+1)=c+1:=by unfold wrap64;omega
  have w2:wrap64 (-(c+1))=(d:Int):=by unfold wrap64;omega
  have w3:IntKind.i64.wrap (-(c+1))=(d:Int):=by rw[IntKind.wrap_i64];omega
  have hr:Int.tmod (d:Int) (n:Int)=((d%n:Nat):Int):=rfl;refine⟨d%n,Nat.mod_lt _ hn,fun W=>?_⟩;generalize d%n=g at*;replace hd:=ζ hd;go_enter Tryz.func5,Tryz.ntmps5;go_wp2_with fail;go_ret;exact⟨rfl,rfl⟩
 ·obtain⟨d,hd⟩:∃d:Nat,c=d:=⟨c.toNat,by omega⟩;subst hd;have hr:Int.tmod (d:Int) (n:Int)=((d%n:Nat):Int):=rfl;refine⟨d%n,Nat.mod_lt _ hn,fun W=>?_⟩;generalize d%n=g at*;go_enter Tryz.func5,Tryz.ntmps5;go_wp2_with fail;go_ret;exact⟨rfl,rfl⟩
theorem num_own {w:World}{lo n lc:Nat}{la:Option Addr}{L:List Nat}(hl:L.length=n)(h:w.ownsRow lo 25 1 (.slice la n lc) n (L.map uN)):NumIn w la L:=by
 obtain⟨va,c,e,h2⟩:=own_numn hl h;injection e with e1;subst e1;exact h2
theorem beg18_ok (m:PImg)(g:Nat)(A I:List Nat)(ra ca ga aa ia:Option Addr)(rc cc gc ac ic:Nat)(w:World)(ht:TabIn w)(hm:ImgIn w.heap.size w ra ca ga m)(hr:m.Rng)(hA:NumIn w aa A)(hI:InS w ia I ic)(hil:I.length≤2000000)(hrt:m.right=0)(hgl:g<m.gates.length)(hent:isEnt m g=true):Calls Tryz.prog 7 #[.agg #[.slice ra m.regs.length rc,.slice ca m.comps.length cc,.slice ga m.gates.length gc,.int .i64 m.depth],.int .i64 g,.slice aa A.length ac,.slice ia I.length ic] w fun x w'=>∃a B,x=.returned (.pointer (some ⟨a,0,none⟩))∧MIn B w' a (bare m) (start m g (entN A m.gates[g].args.length) I) []∧w.heap.size≤B∧Bl w w':=by
 have hRt:=ζ (fun X (q:Gr w X)=>imgRight_any m ra ca ga rc cc gc X (ht.gr q) ((hm.below q.below).mono q.below.size) hr);have hth:=ζ (th_of m hrt hr);have h7:m.gates[g].args.length≤7:=(hth.out.gates _ (List.getElem_mem hgl)).2.2.1;have hln:=entN_len A m.gates[g].args.length;have hNw:=ζ (fun X (q:Bl w X) aa ac (hn:NumIn X aa (entN A m.gates[g].args.length))=>new_ok m g (entN A m.gates[g].args.length) I ra ca ga aa ia rc cc gc ac ic X (TabIn.bl ht q) ((hm.below q).mono q.size) hr hrt hent (eq_len hgl A) hn (hI.bl q) hil);rw[hln]at hNw;rw[hrt]at hRt;obtain⟨gb,goff,xa,xc,ya,yc,rfl,_,hgb0,_,_,e2,_,_,_⟩:=hm.gates g hgl;replace e2:w.cell? ⟨gb,goff+g*4+2,none⟩=some (.slice xa m.gates[g].args.length xc):=e2;have hgi:(g:Int)<(m.gates.length:Int):=Int.ofNat_lt.2 hgl;generalize m.gates[g].args.length=n at*;have hA0:=ζ hA;replace hln:=ζ hln;clear hm hr ht hA hrt hI hil hth;go_enter Tryz.func7,Tryz.ntmps7
 go_wp2_with fail;refine(hRt.out _ ((Gr.refl w).alloc _)).mono ?_;rintro x W ⟨rfl,e1⟩;have hQ:=Bl.at_ (Bl.gr e1) (At.new w #[.slice ra m.regs.length rc,.slice ca m.comps.length cc,.slice (some ⟨gb,goff,none⟩) m.gates.length gc,.int .i64 m.depth] 40);have G:=ζ (((Gr.refl w).alloc (.cells #[.slice ra m.regs.length rc,.slice ca m.comps.length cc,.slice (some ⟨gb,goff,none⟩) m.gates.length gc,.int .i64 m.depth] 40)).trans e1).below;obtain⟨kp,hkp⟩:∃kp,w.heap.size=kp:=⟨_,rfl⟩;rw[hkp]at hQ ⊢;replace hkp:=ζ hkp;have hks:kp<W.heap.size:=hQ.1;have d1:W.cell? ⟨kp,2,none⟩=some (.slice (some ⟨gb,goff,none⟩) m.gates.length gc):=hQ.2.1 2;have d5:W.cell? ⟨gb,goff+g*4+2,none⟩=some (.slice xa n xc):=(G.out.cell (p:=⟨gb,_,none⟩) hgb0).trans e2;have hgb:gb<W.heap.size:=Nat.lt_of_lt_of_le hgb0 G.out.size;replace hA0:=ζ (hA0.out.bl G.out);replace hQ:=ζ hQ;clear e2 hgb0 e1 hRt;have hks':=ζ hks;go_upto_region 6 with fail
 replace d1:=ζ d1;replace d5:=ζ d5;clear hks;go_loopw [10,11] (fun v x wr=>∃(la:Option Addr) (lc j:Nat),v=.slice la j lc∧x=.int .i64 j∧j≤n∧Hz (wr.ownsRow W.heap.size 25 1 (.slice la j lc) j ((entN A j).map uN))∧Hz (Below W.heap.size W wr)) (fun _ x _=>n - (intOf x).toNat)
 case atStart=>exact⟨none,0,0,rfl,rfl,Nat.zero_le _,ζ (World.ownsRow_nil _ _ _ _),ζ (Below.refl _ _)⟩
 case round=>
  obtain⟨la,lc,j,rfl,rfl,hj,hown,hB⟩:=hrel;have e1:=(T.cell_of_block (hB.out.block kp hks'.out) 2).trans d1.out;have e5:=(T.cell_of_block (hB.out.block gb hgb) _).trans d5.out;by_cases hlt:j<n
  ·have q1:(j:Int)<(n:Int):=by omega
   have hwr:IntKind.u64.wrap (j:Int)=(j:Int):=by rw[IntKind.wrap_u64];omega
   by_cases hja:j<A.length
   ·have hji:(j:Int)<(A.length:Int):=Int.ofNat_lt.2 hja;obtain⟨ab,ao,rfl,hab,hac⟩:=hA0.out j hja;have e7:=(T.cell_of_block (hB.out.block ab hab) _).trans hac;have hvl:Hz (A.getD j j=A[j]):=ζ (by simp[hja]);go_upto_region 11 with fail
    clear e7 hwr;refine wp_region_lit ?_;iterate 3 (refine xp fun K hK=>?_;go_simp;with_reducible refine hK _ _ ?_;clear hK K;(try simp only[xap]))
    have hX:At (wr.alloc (.cells #[.int .u64 ((A[j]'hja:Nat):Int)] 25)) wr.heap.size #[.int .u64 ((A[j]'hja:Nat):Int)]:=At.new wr _ _;have ho2:(wr.alloc (.cells #[.int .u64 ((A[j]'hja:Nat):Int)] 25)).ownsRow W.heap.size 25 1 (.slice la j lc) j ((entN A j).map uN):=hown.out.alloc _;have hB2:Hz (Below W.heap.size W (wr.alloc (.cells #[.int .u64 ((A[j]'hja:Nat):Int)] 25))):=ζ (hB.out.alloc hB.out.size _);generalize hVV:wr.alloc (.cells #[.int .u64 ((A[j]'hja:Nat):Int)] 25)=V at*;clear hVV;generalize wr.heap.size=kX at*;refine xp fun K hK=>?_
    refine wp_append_z _ _ 46 25 (.int .u64 0) 1 8 rfl Tryz.underlying46 (by kernel_rfl) (by kernel_rfl) (by decide) (by decide) W.heap.size (.slice la j lc) j ((entN A j).map uN) [.int .u64 ((A[j]'hja:Nat):Int)] (by rfl) ho2 kX (by rfl) hX rfl (by simp[Value.oneCell']) (by omega) hB2.out.size ?_;intro g9 cap w9 k1 k2 k3;have hB3:Hz (Below W.heap.size W w9):=ζ (hB2.out.trans ⟨k2.os,k2.tape,k2.output,k2.size,fun k hk=>k2.block k (Nat.lt_of_lt_of_le hk hB2.out.size) (fun e=>by have:=(ho2.lt k e.symm).1;omega)⟩);have k4:Hz (w9.ownsRow W.heap.size 25 1 (.slice (some ⟨g9,0,none⟩) (j+1) cap) (j+1) ((entN A (j+1)).map uN)):=ζ (by rw[entN_succ,List.map_append,hvl.out];exact k1);clear k1 k2 k3 ho2 hX hB2 hB hown e1 e5;refine hK _ _ ?_;clear hK K;try simp only[xap]
    go_wp2_with fail;refine⟨⟨_,_,j+1,rfl,?_,hlt,k4,hB3⟩,?_⟩
    ·go_num
    ·simp[intOf];omega
   ·have hji:¬(j:Int)<(A.length:Int):=fun q=>hja (Int.ofNat_lt.1 q)
    have hvl:Hz (A.getD j j=j):=ζ (by simp[hja]);go_upto_region 11 with fail
    clear hwr;refine wp_region_lit ?_;iterate 3 (refine xp fun K hK=>?_;go_simp;with_reducible refine hK _ _ ?_;clear hK K;(try simp only[xap]))
    have hX:At (wr.alloc (.cells #[.int .u64 (j:Int)] 25)) wr.heap.size #[.int .u64 (j:Int)]:=At.new wr _ _;have ho2:(wr.alloc (.cells #[.int .u64 (j:Int)] 25)).ownsRow W.heap.size 25 1 (.slice la j lc) j ((entN A j).map uN):=hown.out.alloc _;have hB2:Hz (Below W.heap.size W (wr.alloc (.cells #[.int .u64 (j:Int)] 25))):=ζ (hB.out.alloc hB.out.size _);generalize hVV:wr.alloc (.cells #[.int .u64 (j:Int)] 25)=V at*;clear hVV;generalize wr.heap.size=kX at*;refine xp fun K hK=>?_
    refine wp_append_z _ _ 46 25 (.int .u64 0) 1 8 rfl Tryz.underlying46 (by kernel_rfl) (by kernel_rfl) (by decide) (by decide) W.heap.size (.slice la j lc) j ((entN A j).map uN) [.int .u64 (j:Int)] (by rfl) ho2 kX (by rfl) hX rfl (by simp[Value.oneCell']) (by omega) hB2.out.size ?_;intro g9 cap w9 k1 k2 k3;have hB3:Hz (Below W.heap.size W w9):=ζ (hB2.out.trans ⟨k2.os,k2.tape,k2.output,k2.size,fun k hk=>k2.block k (Nat.lt_of_lt_of_le hk hB2.out.size) (fun e=>by have:=(ho2.lt k e.symm).1;omega)⟩);have k4:Hz (w9.ownsRow W.heap.size 25 1 (.slice (some ⟨g9,0,none⟩) (j+1) cap) (j+1) ((entN A (j+1)).map uN)):=ζ (by rw[entN_succ,List.map_append,hvl.out];exact k1);clear k1 k2 k3 ho2 hX hB2 hB hown e1 e5;refine hK _ _ ?_;clear hK K;try simp only[xap]
    go_wp2_with fail;refine⟨⟨_,_,j+1,rfl,?_,hlt,k4,hB3⟩,?_⟩
    ·go_num
    ·simp[intOf];omega
  ·obtain rfl:j=n:=by omega
   have q1:¬(j:Int)<(j:Int):=by omega
   have hnum:=ζ (num_own hln.out hown.out);have gW:=ζ (Bl.trans G.out hB.out);have hQ1:=Bl.at_ hB.out hQ.out;have⟨l1,p1,_⟩:=hQ1;clear hQ1;go_wp2_with fail;refine(hNw.out _ gW.out _ _ hnum.out).mono ?_;rintro x W5 ⟨a,rfl,hM,e5⟩;have hsz:=ζ gW.out.size;have gF:=ζ (Bl.trans gW.out e5);replace hM:=ζ hM;go_wp2_with fail;go_ret;exact⟨a,_,rfl,hM.out,hsz.out,gF.out⟩
open T (Sep Ob Kp Mf TgIn boxOb Fm Tc Ed Vl Cp Bx tgOb mRow updV)
open Bd (stP mnL cdL StI cll hlt rti insN st_right st_rng st_run mn_len cd_len gtV hgB)
theorem wpList_append_insS {ops:Array Oper}{rest:List Oper}{o:Oper}{a:Act}{Q:Exit→Act→World→Prop}{w:World}(hgd:o.guard=none)(s x:Operand)
 (ho:o.op=.call {callee:=.builtin .append,args:=#[s,x],argTypes:=#[24,24]})
 (base:Nat)(v:Value)(L:List Ins)(k:Ins)(hs:a.eval s=v)(hL:LOwn w base v L)
 (X:Nat)(hx:a.eval x=.slice (some ⟨X,0,none⟩) 1 1)(hX:At w X k.vals.toArray)(hlen:L.length≤2000000)(hbase:base≤w.heap.size)
 (h:∀g cap w',LOwn w' base (.slice (some ⟨g,0,none⟩) (L.length+1) cap) (L++[k])→w.grownBy w' v.ownBlock→wpList Tryz.prog ops Q rest (a.put o.dst (.slice (some ⟨g,0,none⟩) (L.length+1) cap)) w'):
 wpList Tryz.prog ops Q (o::rest) a w:=by
 obtain⟨i0,hi,hz0,hz1,hz2⟩:=T.info_parts' (t:=29) (z:=.agg #[.int .u8 0,.int .i64 0,.int .i64 0,.int .i64 0,.int .i64 0]) (s:=5) (b:=40) (by kernel_rfl);have hn:∀j u,k.vals[j]?=some u→w.cell? ((⟨X,0,none⟩:Addr).add j)=some u:=by
  intro j u hj;rw[addr_addZ,Nat.zero_add,hX.2.1];simpa using hj
 refine wpList_append_lies _ hgd s x 24 ho base 29 i0 (.agg #[.int .u8 0,.int .i64 0,.int .i64 0,.int .i64 0,.int .i64 0]) 5 40 Tryz.underlying24 hi hz0 hz1 hz2 rfl (by decide) v L.length (flat L) hs hL ⟨X,0,none⟩ 1 1 k.vals hx rfl hn (fun u hu=>by simp only[Ins.vals,List.mem_cons,List.not_mem_nil,or_false]at hu;rcases hu with rfl|rfl|rfl|rfl|rfl<;>rfl) (by decide) (by unfold maxLen;omega) (by omega) hbase _ rfl ?_;intro g cap w' h1 h2 h3 h4;refine h g cap w' ?_ h2;unfold LOwn;rw[List.length_append,flat_snoc];exact h1
theorem lown_alloc {w:World}{b:Nat}{v:Value}{L:List Ins}(h:LOwn w b v L)(o:Obj):LOwn (w.alloc o) b v L:=World.ownsRow.alloc h _
theorem lown_bl {w W:World}{b:Nat}{v:Value}{L:List Ins}(h:LOwn w b v L)(g:Bl w W):LOwn W b v L:=own_below h g
theorem lown_lin {w:World}{b c:Nat}{a:Option Addr}{L:List Ins}(h:LOwn w b (.slice a L.length c) L):LIn w.heap.size w a L:=by
 obtain⟨a',c',e,h1⟩:=h.form;injection e with e1;subst e1;exact h1
theorem lown_lin2 {w:World}{b c k:Nat}{a:Option Addr}{L:List Ins}(hk:L.length=k)(h:LOwn w b (.slice a k c) L):LIn w.heap.size w a L:=by
 subst hk;exact lown_lin h
theorem cost_ne (k:Bool)(s c i:Int)(W:World):(binOp .neq 42 (.agg #[.bool k,.int .u64 s,.int .u64 c,.int .u64 i]) (.agg #[.bool k,.int .u64 s,.int .u64 c,.int .u64 i])).run Tryz.prog W=.ok (.bool false) W:=by simp[go_sem]
theorem img_st {W:World}{kc kg mc cc n:Nat}{ma ca:Option Addr}{L:List Ins}(h1:At W kc #[.slice none 0 0,.slice ma (n+1) mc,.slice none 0 0,.slice ca (L.length+1) cc])(h2:At W kg #[.int .i64 0,.int .i64 0,.slice none 0 0,.slice none 0 0,.int .i64 1,.int .i64 0,.slice none 0 0,.slice none 0 0])(h3:LIn W.heap.size W ma (mnL n))(h4:LIn W.heap.size W ca (cdL L)):
 ImgIn W.heap.size W none (some ⟨kc,0,none⟩) (some ⟨kg,0,none⟩) (stP L n):=by
 have e1:=mn_len n;have e2:=cd_len L;refine⟨fun i hi=>absurd hi (Nat.not_lt_zero i),fun i hi=>?_,fun i hi=>?_⟩
 ·have hi':i<2:=hi;rcases(by omega:i=0∨i=1)with rfl|rfl
  ·exact⟨kc,0,none,0,ma,mc,rfl,h1.1,h1.1,h1.2.1 0,by rw[show (stP L n).comps[0].code.length=n+1 from e1];exact h1.2.1 1,FIn.nil _ _ _ _ _,h3⟩
  ·exact⟨kc,0,none,0,ca,cc,rfl,h1.1,h1.1,h1.2.1 2,by rw[show (stP L n).comps[1].code.length=L.length+1 from e2];exact h1.2.1 3,FIn.nil _ _ _ _ _,h4⟩
 ·have hi':i<2:=hi;rcases(by omega:i=0∨i=1)with rfl|rfl
  ·exact⟨kg,0,none,0,none,0,rfl,h2.1,h2.1,h2.2.1 0,h2.2.1 1,h2.2.1 2,h2.2.1 3,FIn.nil _ _ _ _ _,FIn.nil _ _ _ _ _⟩
  ·exact⟨kg,0,none,0,none,0,rfl,h2.1,h2.1,h2.2.1 4,h2.2.1 5,h2.2.1 6,h2.2.1 7,FIn.nil _ _ _ _ _,FIn.nil _ _ _ _ _⟩
structure StIn (L:List Ins)(n kI kc kg:Nat)(W:World):Prop where
 i:ImgIn W.heap.size W none (some ⟨kc,0,none⟩) (some ⟨kg,0,none⟩) (stP L n)
 b:At W kI #[.slice none 0 0,.slice (some ⟨kc,0,none⟩) 2 2,.slice (some ⟨kg,0,none⟩) 2 2,.int .i64 1]
 t:TabIn W
theorem StIn.bl {L:List Ins}{n kI kc kg:Nat}{W V:World}(h:StIn L n kI kc kg W)(g:Bl W V):StIn L n kI kc kg V:=⟨(h.i.below g).mono g.size,Bl.at_ g h.b,h.t.below g h.t.size⟩
theorem st_made {W:World}{ma ca:Option Addr}{mc cc n:Nat}{L:List Ins}(ht:TabIn W)(h3:LIn W.heap.size W ma (mnL n))(h4:LIn W.heap.size W ca (cdL L))(ta tb tc:TypeId):StIn L n (W.heap.size+1+1) W.heap.size (W.heap.size+1) (((W.alloc (.cells #[.slice none 0 0,.slice ma (n+1) mc,.slice none 0 0,.slice ca (L.length+1) cc] ta)).alloc (.cells #[.int .i64 0,.int .i64 0,.slice none 0 0,.slice none 0 0,.int .i64 1,.int .i64 0,.slice none 0 0,.slice none 0 0] tb)).alloc (.cells #[.slice none 0 0,.slice (some ⟨W.heap.size,0,none⟩) 2 2,.slice (some ⟨W.heap.size+1,0,none⟩) 2 2,.int .i64 1] tc))∧Bl W (((W.alloc (.cells #[.slice none 0 0,.slice ma (n+1) mc,.slice none 0 0,.slice ca (L.length+1) cc] ta)).alloc (.cells #[.int .i64 0,.int .i64 0,.slice none 0 0,.slice none 0 0,.int .i64 1,.int .i64 0,.slice none 0 0,.slice none 0 0] tb)).alloc (.cells #[.slice none 0 0,.slice (some ⟨W.heap.size,0,none⟩) 2 2,.slice (some ⟨W.heap.size+1,0,none⟩) 2 2,.int .i64 1] tc)):=by
 have a1:=At.new W #[.slice none 0 0,.slice ma (n+1) mc,.slice none 0 0,.slice ca (L.length+1) cc] ta;have g1:=(Bl.refl W).alloc (.cells #[.slice none 0 0,.slice ma (n+1) mc,.slice none 0 0,.slice ca (L.length+1) cc] ta);have s1:(W.alloc (.cells #[.slice none 0 0,.slice ma (n+1) mc,.slice none 0 0,.slice ca (L.length+1) cc] ta)).heap.size=W.heap.size+1:=by simp
 generalize W.alloc (.cells #[.slice none 0 0,.slice ma (n+1) mc,.slice none 0 0,.slice ca (L.length+1) cc] ta)=W1 at*;have a2:=At.new W1 #[.int .i64 0,.int .i64 0,.slice none 0 0,.slice none 0 0,.int .i64 1,.int .i64 0,.slice none 0 0,.slice none 0 0] tb;have g2:=g1.alloc (.cells #[.int .i64 0,.int .i64 0,.slice none 0 0,.slice none 0 0,.int .i64 1,.int .i64 0,.slice none 0 0,.slice none 0 0] tb);have s2:(W1.alloc (.cells #[.int .i64 0,.int .i64 0,.slice none 0 0,.slice none 0 0,.int .i64 1,.int .i64 0,.slice none 0 0,.slice none 0 0] tb)).heap.size=W.heap.size+1+1:=by simp;omega
 replace a1:=a1.alloc (.cells #[.int .i64 0,.int .i64 0,.slice none 0 0,.slice none 0 0,.int .i64 1,.int .i64 0,.slice none 0 0,.slice none 0 0] tb);rw[s1]at a2;generalize W1.alloc (.cells #[.int .i64 0,.int .i64 0,.slice none 0 0,.slice none 0 0,.int .i64 1,.int .i64 0,.slice none 0 0,.slice none 0 0] tb)=W2 at*;have a3:=At.new W2 #[.slice none 0 0,.slice (some ⟨W.heap.size,0,none⟩) 2 2,.slice (some ⟨W.heap.size+1,0,none⟩) 2 2,.int .i64 1] tc;have g3:=g2.alloc (.cells #[.slice none 0 0,.slice (some ⟨W.heap.size,0,none⟩) 2 2,.slice (some ⟨W.heap.size+1,0,none⟩) 2 2,.int .i64 1] tc);rw[s2]at a3;exact⟨⟨img_st (a1.alloc _) (a2.alloc _) ((h3.below g3).mono g3.size) ((h4.below g3).mono g3.size),a3,ht.below g3 ht.size⟩,g3⟩
theorem make_u64n (n:Nat)(hn:n≤2000000)(w:World):(Instr.makeSlice 46 (.int .i64 n) (.int .i64 n)).run Tryz.prog w=.ok (.slice (some ⟨w.heap.size,0,none⟩) n n) (w.alloc (.cells (Array.replicate n (.int .u64 0)) 25)):=
 F.make_row (b:=8) Tryz.underlying46 (by kernel_rfl) rfl (by decide) n hn w
theorem ins_zero (w:World)(n:Nat)(t:TypeId):InS (w.alloc (.cells (Array.replicate n (.int .u64 0)) t)) (some ⟨w.heap.size,0,none⟩) (List.replicate n 0) n:=by
 have a:=At.new w (Array.replicate n (Value.int .u64 0)) t;refine .inr ⟨w.heap.size,0,rfl,a.1,fun i hi=>?_⟩;rw[List.length_replicate]at hi;rw[Nat.zero_add,a.2.1,Array.getElem?_replicate,if_pos hi];simp
section
variable {L:List Ins} {n:Nat} (hL:∀i∈L,StI i) (hl:L.length≤30) (hn:n≤5)
include hL hl hn
theorem st_gate {kI kc kg:Nat}{W:World}(h:StIn L n kI kc kg W):Calls Tryz.prog 6 #[.agg #[.slice none 0 0,.slice (some ⟨kc,0,none⟩) 2 2,.slice (some ⟨kg,0,none⟩) 2 2,.int .i64 1],.int .i64 0] W (fun e w'=>e=.returned (.agg #[.bool true,.int .u64 ((n*(L.length+2):Nat)+1:Int),.int .u64 (if n=0 then 0 else 1),.int .u64 (n*insN L)])∧Bl W w')∧
 Calls Tryz.prog 6 #[.agg #[.slice none 0 0,.slice (some ⟨kc,0,none⟩) 2 2,.slice (some ⟨kg,0,none⟩) 2 2,.int .i64 1],.int .i64 1] W (fun e w'=>e=.returned (.agg #[.bool true,.int .u64 ((L.length:Int)+1),.int .u64 0,.int .u64 (insN L)])∧Bl W w'):=by
 obtain⟨e1,e2⟩:=Bd.gate_st hL hl hn;have h1:=Bd.Gate_any (stP L n) none (some ⟨kc,0,none⟩) (some ⟨kg,0,none⟩) 0 2 2 0 W h.t h.i (st_rng hL hl hn);have h2:=Bd.Gate_any (stP L n) none (some ⟨kc,0,none⟩) (some ⟨kg,0,none⟩) 0 2 2 1 W h.t h.i (st_rng hL hl hn);rw[e1]at h1;rw[e2]at h2;rw[show ((n*(L.length+2):Nat):Int)=(n:Int)*((L.length:Int)+2)by rw[Int.natCast_mul,Int.natCast_add];rfl];exact⟨h1,h2⟩
theorem st_begun {kI kc kg:Nat}{W:World}(h:StIn L n kI kc kg W)(ia:Option Addr)(ic:Nat)(hI:InS W ia (List.replicate (n*L.length) 0) ic):Calls Tryz.prog 7 #[.agg #[.slice none 0 0,.slice (some ⟨kc,0,none⟩) 2 2,.slice (some ⟨kg,0,none⟩) 2 2,.int .i64 1],.int .i64 0,.slice none 0 0,.slice ia (n*L.length) ic] W fun x w'=>∃a B,x=.returned (.pointer (some ⟨a,0,none⟩))∧MIn B w' a (stP L n) (start (stP L n) 0 [] (List.replicate (n*L.length) 0)) []∧W.heap.size≤B∧Bl W w':=by
 have hb:n*L.length≤5*30:=Nat.mul_le_mul hn hl;have:=beg18_ok (stP L n) 0 [] (List.replicate (n*L.length) 0) none (some ⟨kc,0,none⟩) (some ⟨kg,0,none⟩) none ia 0 2 2 0 ic W h.t h.i (st_rng hL hl hn) (fun i hi=>absurd hi (Nat.not_lt_zero i)) hI (by rw[List.length_replicate];omega) (st_right hL hl hn) (by decide:0<2) rfl;rw[List.length_replicate]at this;exact this
theorem st_goes:∃u1 u2:Ms,
 (∀B Y a l,MIn B Y a (stP L n) (start (stP L n) 0 [] (List.replicate (n*L.length) 0)) l→Calls Tryz.prog 8 #[.pointer (some ⟨a,0,none⟩),.int .i64 ((n*(L.length+2):Nat):Int)] Y fun x w'=>x=.returned (.agg #[.int .i64 4,.int .u64 u1.over.v,.int .i64 u1.over.f,.int .i64 u1.at_.gate,.int .i64 u1.at_.pc])∧MIn B w' a (stP L n) u1 l∧Below B Y w')∧
 (∀B Y a l,MIn B Y a (stP L n) u1 l→Calls Tryz.prog 8 #[.pointer (some ⟨a,0,none⟩),.int .i64 1] Y fun x w'=>x=.returned (.agg #[.int .i64 4,.int .u64 u1.over.v,.int .i64 u1.over.f,.int .i64 u1.at_.gate,.int .i64 u1.at_.pc])∧MIn B w' a (stP L n) u1 l∧Below B Y w')∧
 (∀B Y a l,MIn B Y a (stP L n) (start (stP L n) 0 [] (List.replicate (n*L.length) 0)) l→Calls Tryz.prog 8 #[.pointer (some ⟨a,0,none⟩),.int .i64 ((n*(L.length+2)+1:Nat):Int)] Y fun x w'=>x=.returned (.agg #[.int .i64 1,.int .u64 u2.over.v,.int .i64 u2.over.f,.int .i64 u2.at_.gate,.int .i64 u2.at_.pc])∧MIn B w' a (stP L n) u2 l∧Below B Y w'):=by
 have hb:n*L.length≤5*30:=Nat.mul_le_mul hn hl;have hb2:n*(L.length+2)≤5*32:=Nat.mul_le_mul hn (by omega);obtain⟨E1,E2,E3⟩:=st_run hL hl hn (List.replicate (n*L.length) 0) (by rw[List.length_replicate];exact Nat.le_refl _);have hP:POk (stP L n):=pok_of (stP L n) (st_right hL hl hn) (st_rng hL hl hn);have ok0:Okm (stP L n) 0 (start (stP L n) 0 [] (List.replicate (n*L.length) 0)):=start_ok (st_right hL hl hn) (st_rng hL hl hn) (by decide:0<2) (fun x hx=>by cases hx) (fun x hx=>by rw[List.eq_of_mem_replicate hx];decide) (by rw[List.length_replicate];omega);have ok1:Okm (stP L n) (0+n*(L.length+2)) (runM (stP L n) ((n*(L.length+2):Nat):Int) (start (stP L n) 0 [] (List.replicate (n*L.length) 0))):=by
  rw[runM_nat _ _ (by omega)];exact okm_spent (okm_steps hP _ ok0)
 have h1:=run_oc (stP L n) hP _ 0 (n*(L.length+2)) ok0 (by omega) (by omega) _ rfl;have h2:=run_oc (stP L n) hP _ (0+n*(L.length+2)) 1 ok1 (by omega) (by omega) _ E2;have h3:=run_oc (stP L n) hP _ 0 (n*(L.length+2)+1) ok0 (by omega) (by omega) _ rfl;rw[E1]at h1 h2;rw[E3]at h3;exact⟨_,_,h1,h2,h3⟩
end
end C
namespace Bd
open Go.RowKit
open T (Kp)
def flt (L:List Ins):List Value:=L.flatMap fun k=>[.int .u8 k.op,.int .i64 k.a,.int .i64 k.b,.int .i64 k.c,.int .i64 k.m]
theorem flt_at:∀(L:List Ins) (i:Nat) (hi:i<L.length) (j:Nat),j<5→(flt L)[i*5+j]?=[Value.int .u8 L[i].op,.int .i64 L[i].a,.int .i64 L[i].b,.int .i64 L[i].c,.int .i64 L[i].m][j]?
 |[],i,hi,_,_=>by simp at hi
 |k::L,0,_,j,hj=>by
  unfold flt;rw[List.flatMap_cons,Nat.zero_mul,Nat.zero_add,List.getElem?_append_left (by simpa using hj)]
  rfl
 |k::L,i+1,hi,j,hj=>by
  have h:=flt_at L i (by simpa using hi) j hj;unfold flt at h ⊢;rw[List.flatMap_cons,List.getElem?_append_right (by simp;omega)];simp only[List.length_cons,List.length_nil,List.getElem_cons_succ];rw[←h]
  congr 1
  omega
theorem lin_of {w:World}{k:Nat}{L:List Ins}(h:At w k (flt L).toArray):LIn w.heap.size w (some ⟨k,0,none⟩) L:=fun i hi=>by
 have hc:∀j,j<5→w.cell? ⟨k,i*5+j,none⟩=[Value.int .u8 L[i].op,.int .i64 L[i].a,.int .i64 L[i].b,.int .i64 L[i].c,.int .i64 L[i].m][j]?:=fun j hj=>by
  rw[h.2.1,List.getElem?_toArray];exact flt_at L i hi j hj
 refine⟨k,0,rfl,h.1,h.1,?_⟩;rw[Nat.zero_add];exact⟨hc 0 (by omega),hc 1 (by omega),hc 2 (by omega),hc 3 (by omega),hc 4 (by omega)⟩
theorem headB_any (w:World)(ht:TabIn w):
 Calls Tryz.prog 4 #[] w fun e w'=>e=.returned (.bool true)∧Below w.heap.size w w':=by
 have hT:=ζ (fun W (q:Below w.heap.size w W)=>ht.below q ht.size);have G1:=ζ (fun W c g (t:TabIn W) (h:ImgIn W.heap.size W none (some ⟨c,0,none⟩) (some ⟨g,0,none⟩) (oneP sm1))=>Gate_any (oneP sm1) none (some ⟨c,0,none⟩) (some ⟨g,0,none⟩) 0 1 1 0 W t h (one_rng (by decide) (ops_in sm1 (by kernel_rfl))));have G2:=ζ (fun W c g (t:TabIn W) (h:ImgIn W.heap.size W none (some ⟨c,0,none⟩) (some ⟨g,0,none⟩) (oneP sm2))=>Gate_any (oneP sm2) none (some ⟨c,0,none⟩) (some ⟨g,0,none⟩) 0 1 1 0 W t h (one_rng (by decide) (ops_in sm2 (by kernel_rfl))));have G3:=ζ (fun W c g (t:TabIn W) (h:ImgIn W.heap.size W none (some ⟨c,0,none⟩) (some ⟨g,0,none⟩) (oneP sm3))=>Gate_any (oneP sm3) none (some ⟨c,0,none⟩) (some ⟨g,0,none⟩) 0 1 1 0 W t h (one_rng (by decide) (ops_in sm3 (by kernel_rfl))));have D3:=ζ (fun W c g (t:TabIn W) (h:ImgIn W.heap.size W none (some ⟨c,0,none⟩) (some ⟨g,0,none⟩) (oneP sm3))=>Deep_any (oneP sm3) none (some ⟨c,0,none⟩) (some ⟨g,0,none⟩) 0 1 1 0 W t h (one_rng (by decide) (ops_in sm3 (by kernel_rfl))))
 rw[sm1_h,if_pos rfl,Int.toNat_zero,gate_one (by decide),sm1_c]at G1;rw[sm2_h,if_pos rfl,Int.toNat_zero,gate_one (by decide),sm2_c]at G2;rw[sm3_h,if_pos rfl,Int.toNat_zero,gate_one (by decide),sm3_c]at G3;rw[sm3_h,if_pos rfl,Int.toNat_zero,deep_one (by decide)]at D3;have O1:=ζ (fun W k (h:At W k (flt sm1).toArray)=>one_any sm1 (some ⟨k,0,none⟩) 2 W (lin_of h));have O2:=ζ (fun W k (h:At W k (flt sm2).toArray)=>one_any sm2 (some ⟨k,0,none⟩) 5 W (lin_of h));have O3:=ζ (fun W k (h:At W k (flt sm3).toArray)=>one_any sm3 (some ⟨k,0,none⟩) 3 W (lin_of h));unfold imA gtV at*;replace ht:=ζ ht;have hI:∀(L:List Ins) (W W':World) c g,ImgIn W.heap.size W none (some ⟨c,0,none⟩) (some ⟨g,0,none⟩) (oneP L)→Below W.heap.size W W'→ImgIn W'.heap.size W' none (some ⟨c,0,none⟩) (some ⟨g,0,none⟩) (oneP L):=fun L W W' c g h q=>(h.below q).mono q.size
 replace hI:=ζ hI;go_enter Tryz.func4,Tryz.ntmps4;have hB:Hz (Below w.heap.size w w):=ζ (Below.refl _ _);go_upto_region 2 with(go_at_call 9;refine(O1.out _ w.heap.size (At.new w _ _)).mono ?_;rintro r W1 ⟨c1,g1,rfl,im1,b1⟩;replace b1:=(bl_alloc w _).trans (b1.mono (by simp));replace im1:=ζ im1;replace b1:=ζ b1)
 replace hB:=ζ (hB.out.trans (b1.out.mono hB.out.size));clear b1 O1;refine wp_world (fun X=>At X W1.heap.size #[.slice none (oneP sm1).regs.length 0,.slice (some ⟨c1,0,none⟩) (oneP sm1).comps.length 1,.slice (some ⟨g1,0,none⟩) (oneP sm1).gates.length 1,.int .i64 (oneP sm1).depth]∧Below W1.heap.size W1 X) ⟨(by first|exact At.new W1 _ _|simpa using At.new W1 #[.slice none (oneP sm1).regs.length 0,.slice (some ⟨c1,0,none⟩) (oneP sm1).comps.length 1,.slice (some ⟨g1,0,none⟩) (oneP sm1).gates.length 1,.int .i64 (oneP sm1).depth] _),(by repeat(first|exact Below.refl _ _|refine Below.alloc ?_ (by simp<;>omega) _|refine Below.setCell ?_ (by simp<;>omega) _))⟩ ?_;rintro X1 ⟨a1,hb1⟩;replace im1:=ζ (hI.out _ _ _ _ _ im1.out hb1);replace hB:=ζ (hB.out.trans (hb1.mono hB.out.size));generalize W1.heap.size=kx1 at*;have bx1:=ζ a1;clear a1 hb1;go_upto_region 3 with(go_at_call 9;refine(O2.out _ X1.heap.size (At.new X1 _ _)).mono ?_;rintro r W2 ⟨c2,g2,rfl,im2,b2⟩;replace b2:=(bl_alloc X1 _).trans (b2.mono (by simp));replace im2:=ζ im2;replace b2:=ζ b2)
 replace bx1:=ζ (at_past bx1.out b2.out);replace im1:=ζ (hI.out _ _ _ _ _ im1.out b2.out);replace hB:=ζ (hB.out.trans (b2.out.mono hB.out.size));clear b2 O2;refine wp_world (fun X=>At X W2.heap.size #[.slice none (oneP sm2).regs.length 0,.slice (some ⟨c2,0,none⟩) (oneP sm2).comps.length 1,.slice (some ⟨g2,0,none⟩) (oneP sm2).gates.length 1,.int .i64 (oneP sm2).depth]∧Below W2.heap.size W2 X) ⟨(by first|exact At.new W2 _ _|simpa using At.new W2 #[.slice none (oneP sm2).regs.length 0,.slice (some ⟨c2,0,none⟩) (oneP sm2).comps.length 1,.slice (some ⟨g2,0,none⟩) (oneP sm2).gates.length 1,.int .i64 (oneP sm2).depth] _),(by repeat(first|exact Below.refl _ _|refine Below.alloc ?_ (by simp<;>omega) _|refine Below.setCell ?_ (by simp<;>omega) _))⟩ ?_;rintro X2 ⟨a2,hb2⟩;replace bx1:=ζ (at_past bx1.out hb2);replace im1:=ζ (hI.out _ _ _ _ _ im1.out hb2);replace im2:=ζ (hI.out _ _ _ _ _ im2.out hb2);replace hB:=ζ (hB.out.trans (hb2.mono hB.out.size))
 generalize W2.heap.size=kx2 at*;have bx2:=ζ a2;clear a2 hb2;go_upto_region 4 with(go_at_call 9;refine(O3.out _ X2.heap.size (At.new X2 _ _)).mono ?_;rintro r W3 ⟨c3,g3,rfl,im3,b3⟩;replace b3:=(bl_alloc X2 _).trans (b3.mono (by simp));replace im3:=ζ im3;replace b3:=ζ b3)
 replace bx1:=ζ (at_past bx1.out b3.out);replace bx2:=ζ (at_past bx2.out b3.out);replace im1:=ζ (hI.out _ _ _ _ _ im1.out b3.out);replace im2:=ζ (hI.out _ _ _ _ _ im2.out b3.out);replace hB:=ζ (hB.out.trans (b3.out.mono hB.out.size));clear b3 O3;refine wp_world (fun X=>At X W3.heap.size #[.slice none (oneP sm3).regs.length 0,.slice (some ⟨c3,0,none⟩) (oneP sm3).comps.length 1,.slice (some ⟨g3,0,none⟩) (oneP sm3).gates.length 1,.int .i64 (oneP sm3).depth]∧Below W3.heap.size W3 X) ⟨(by first|exact At.new W3 _ _|simpa using At.new W3 #[.slice none (oneP sm3).regs.length 0,.slice (some ⟨c3,0,none⟩) (oneP sm3).comps.length 1,.slice (some ⟨g3,0,none⟩) (oneP sm3).gates.length 1,.int .i64 (oneP sm3).depth] _),(by repeat(first|exact Below.refl _ _|refine Below.alloc ?_ (by simp<;>omega) _|refine Below.setCell ?_ (by simp<;>omega) _))⟩ ?_;rintro X3 ⟨a3,hb3⟩;replace bx1:=ζ (at_past bx1.out hb3);replace bx2:=ζ (at_past bx2.out hb3)
 replace im1:=ζ (hI.out _ _ _ _ _ im1.out hb3);replace im2:=ζ (hI.out _ _ _ _ _ im2.out hb3);replace im3:=ζ (hI.out _ _ _ _ _ im3.out hb3);replace hB:=ζ (hB.out.trans (hb3.mono hB.out.size));generalize W3.heap.size=kx3 at*;have bx3:=ζ a3;clear a3 hb3;have q0:X3.cell? ⟨kx1,0,none⟩=some (.slice none (oneP sm1).regs.length 0):=bx1.out.2.1 0;have q1:X3.cell? ⟨kx1,1,none⟩=some (.slice (some ⟨c1,0,none⟩) (oneP sm1).comps.length 1):=bx1.out.2.1 1;have q2:X3.cell? ⟨kx1,2,none⟩=some (.slice (some ⟨g1,0,none⟩) (oneP sm1).gates.length 1):=bx1.out.2.1 2;have q3:X3.cell? ⟨kx1,3,none⟩=some (.int .i64 (oneP sm1).depth):=bx1.out.2.1 3;have hc1:=ζ (G1.out X3 _ _ (hT.out _ hB.out) im1.out);go_upto_region 5 with(go_at_call 6;refine hc1.out.mono ?_;rintro r V1 ⟨rfl,b1⟩;replace b1:=ζ b1)
 clear q0 q1 q2 q3 hc1 G1;replace bx1:=ζ (at_past bx1.out b1.out);replace bx2:=ζ (at_past bx2.out b1.out);replace bx3:=ζ (at_past bx3.out b1.out);replace im1:=ζ (hI.out _ _ _ _ _ im1.out b1.out);replace im2:=ζ (hI.out _ _ _ _ _ im2.out b1.out);replace im3:=ζ (hI.out _ _ _ _ _ im3.out b1.out);replace hB:=ζ (hB.out.trans (b1.out.mono hB.out.size));clear b1;refine wp_world (fun X=>At X V1.heap.size #[.bool true,.int .u64 2,.int .u64 0,.int .u64 0]∧Below V1.heap.size V1 X) ⟨(by first|exact At.new V1 _ _|simpa using At.new V1 #[.bool true,.int .u64 2,.int .u64 0,.int .u64 0] _),(by repeat(first|exact Below.refl _ _|refine Below.alloc ?_ (by simp<;>omega) _|refine Below.setCell ?_ (by simp<;>omega) _))⟩ ?_;rintro X4 ⟨a4,hb4⟩;replace bx1:=ζ (at_past bx1.out hb4);replace bx2:=ζ (at_past bx2.out hb4);replace bx3:=ζ (at_past bx3.out hb4);replace im1:=ζ (hI.out _ _ _ _ _ im1.out hb4);replace im2:=ζ (hI.out _ _ _ _ _ im2.out hb4)
 replace im3:=ζ (hI.out _ _ _ _ _ im3.out hb4);replace hB:=ζ (hB.out.trans (hb4.mono hB.out.size));generalize V1.heap.size=kc1 at*;have cx1:=ζ a4;clear a4 hb4;have q0:X4.cell? ⟨kx2,0,none⟩=some (.slice none (oneP sm2).regs.length 0):=bx2.out.2.1 0;have q1:X4.cell? ⟨kx2,1,none⟩=some (.slice (some ⟨c2,0,none⟩) (oneP sm2).comps.length 1):=bx2.out.2.1 1;have q2:X4.cell? ⟨kx2,2,none⟩=some (.slice (some ⟨g2,0,none⟩) (oneP sm2).gates.length 1):=bx2.out.2.1 2;have q3:X4.cell? ⟨kx2,3,none⟩=some (.int .i64 (oneP sm2).depth):=bx2.out.2.1 3;have hc2:=ζ (G2.out X4 _ _ (hT.out _ hB.out) im2.out);go_upto_region 6 with(go_at_call 6;refine hc2.out.mono ?_;rintro r V2 ⟨rfl,b2⟩;replace b2:=ζ b2)
 clear q0 q1 q2 q3 hc2 G2;replace bx1:=ζ (at_past bx1.out b2.out);replace bx2:=ζ (at_past bx2.out b2.out);replace bx3:=ζ (at_past bx3.out b2.out);replace cx1:=ζ (at_past cx1.out b2.out);replace im1:=ζ (hI.out _ _ _ _ _ im1.out b2.out);replace im2:=ζ (hI.out _ _ _ _ _ im2.out b2.out);replace im3:=ζ (hI.out _ _ _ _ _ im3.out b2.out);replace hB:=ζ (hB.out.trans (b2.out.mono hB.out.size));clear b2;refine wp_world (fun X=>At X V2.heap.size #[.bool true,.int .u64 5,.int .u64 0,.int .u64 2]∧Below V2.heap.size V2 X) ⟨(by first|exact At.new V2 _ _|simpa using At.new V2 #[.bool true,.int .u64 5,.int .u64 0,.int .u64 2] _),(by repeat(first|exact Below.refl _ _|refine Below.alloc ?_ (by simp<;>omega) _|refine Below.setCell ?_ (by simp<;>omega) _))⟩ ?_;rintro X5 ⟨a5,hb5⟩;replace bx1:=ζ (at_past bx1.out hb5);replace bx2:=ζ (at_past bx2.out hb5);replace bx3:=ζ (at_past bx3.out hb5);replace cx1:=ζ (at_past cx1.out hb5)
 replace im1:=ζ (hI.out _ _ _ _ _ im1.out hb5);replace im2:=ζ (hI.out _ _ _ _ _ im2.out hb5);replace im3:=ζ (hI.out _ _ _ _ _ im3.out hb5);replace hB:=ζ (hB.out.trans (hb5.mono hB.out.size));generalize V2.heap.size=kc2 at*;have cx2:=ζ a5;clear a5 hb5;have q0:X5.cell? ⟨kx3,0,none⟩=some (.slice none (oneP sm3).regs.length 0):=bx3.out.2.1 0;have q1:X5.cell? ⟨kx3,1,none⟩=some (.slice (some ⟨c3,0,none⟩) (oneP sm3).comps.length 1):=bx3.out.2.1 1;have q2:X5.cell? ⟨kx3,2,none⟩=some (.slice (some ⟨g3,0,none⟩) (oneP sm3).gates.length 1):=bx3.out.2.1 2;have q3:X5.cell? ⟨kx3,3,none⟩=some (.int .i64 (oneP sm3).depth):=bx3.out.2.1 3;have hc3:=ζ (G3.out X5 _ _ (hT.out _ hB.out) im3.out);go_upto_region 7 with(go_at_call 6;refine hc3.out.mono ?_;rintro r V3 ⟨rfl,b3⟩;replace b3:=ζ b3)
 clear q0 q1 q2 q3 hc3 G3;replace bx1:=ζ (at_past bx1.out b3.out);replace bx2:=ζ (at_past bx2.out b3.out);replace bx3:=ζ (at_past bx3.out b3.out);replace cx1:=ζ (at_past cx1.out b3.out);replace cx2:=ζ (at_past cx2.out b3.out);replace im1:=ζ (hI.out _ _ _ _ _ im1.out b3.out);replace im2:=ζ (hI.out _ _ _ _ _ im2.out b3.out);replace im3:=ζ (hI.out _ _ _ _ _ im3.out b3.out);replace hB:=ζ (hB.out.trans (b3.out.mono hB.out.size));clear b3;refine wp_world (fun X=>At X V3.heap.size #[.bool false,.int .u64 0,.int .u64 0,.int .u64 0]∧Below V3.heap.size V3 X) ⟨(by first|exact At.new V3 _ _|simpa using At.new V3 #[.bool false,.int .u64 0,.int .u64 0,.int .u64 0] _),(by repeat(first|exact Below.refl _ _|refine Below.alloc ?_ (by simp<;>omega) _|refine Below.setCell ?_ (by simp<;>omega) _))⟩ ?_;rintro X6 ⟨a6,hb6⟩;replace bx1:=ζ (at_past bx1.out hb6);replace bx2:=ζ (at_past bx2.out hb6);replace bx3:=ζ (at_past bx3.out hb6)
 replace cx1:=ζ (at_past cx1.out hb6);replace cx2:=ζ (at_past cx2.out hb6);replace im1:=ζ (hI.out _ _ _ _ _ im1.out hb6);replace im2:=ζ (hI.out _ _ _ _ _ im2.out hb6);replace im3:=ζ (hI.out _ _ _ _ _ im3.out hb6);replace hB:=ζ (hB.out.trans (hb6.mono hB.out.size));generalize V3.heap.size=kc3 at*;have cx3:=ζ a6;clear a6 hb6;have q0:X6.cell? ⟨kx3,0,none⟩=some (.slice none (oneP sm3).regs.length 0):=bx3.out.2.1 0;have q1:X6.cell? ⟨kx3,1,none⟩=some (.slice (some ⟨c3,0,none⟩) (oneP sm3).comps.length 1):=bx3.out.2.1 1;have q2:X6.cell? ⟨kx3,2,none⟩=some (.slice (some ⟨g3,0,none⟩) (oneP sm3).gates.length 1):=bx3.out.2.1 2;have q3:X6.cell? ⟨kx3,3,none⟩=some (.int .i64 (oneP sm3).depth):=bx3.out.2.1 3;have hd:=ζ (D3.out X6 _ _ (hT.out _ hB.out) im3.out);unfold tupi at hd;go_upto_region 8 with(go_at_call 10;refine hd.out.mono ?_;rintro r V4 ⟨rfl,b4⟩;replace b4:=ζ b4)
 clear q0 q1 q2 q3 hd D3;replace bx1:=ζ (at_past bx1.out b4.out);replace bx2:=ζ (at_past bx2.out b4.out);replace bx3:=ζ (at_past bx3.out b4.out);replace cx1:=ζ (at_past cx1.out b4.out);replace cx2:=ζ (at_past cx2.out b4.out);replace cx3:=ζ (at_past cx3.out b4.out);replace im1:=ζ (hI.out _ _ _ _ _ im1.out b4.out);replace im2:=ζ (hI.out _ _ _ _ _ im2.out b4.out);replace im3:=ζ (hI.out _ _ _ _ _ im3.out b4.out);replace hB:=ζ (hB.out.trans (b4.out.mono hB.out.size));have e10:V4.cell? ⟨kc1,0,none⟩=some (.bool true):=cx1.out.2.1 0;have e11:V4.cell? ⟨kc1,1,none⟩=some (.int .u64 2):=cx1.out.2.1 1;have e12:V4.cell? ⟨kc1,2,none⟩=some (.int .u64 0):=cx1.out.2.1 2;have e13:V4.cell? ⟨kc1,3,none⟩=some (.int .u64 0):=cx1.out.2.1 3;have e20:V4.cell? ⟨kc2,0,none⟩=some (.bool true):=cx2.out.2.1 0;have e21:V4.cell? ⟨kc2,1,none⟩=some (.int .u64 5):=cx2.out.2.1 1;have e22:V4.cell? ⟨kc2,2,none⟩=some (.int .u64 0):=cx2.out.2.1 2
 have e23:V4.cell? ⟨kc2,3,none⟩=some (.int .u64 2):=cx2.out.2.1 3;have e30:V4.cell? ⟨kc3,0,none⟩=some (.bool false):=cx3.out.2.1 0;have e31:V4.cell? ⟨kc3,1,none⟩=some (.int .u64 0):=cx3.out.2.1 1;have e32:V4.cell? ⟨kc3,2,none⟩=some (.int .u64 0):=cx3.out.2.1 2;have e33:V4.cell? ⟨kc3,3,none⟩=some (.int .u64 0):=cx3.out.2.1 3;go_wp2_with fail;go_ret;exact⟨rfl,hB.out⟩
end Bd
end Go.Proofs.YtkhbiaaangnkdaaGreatDoor
