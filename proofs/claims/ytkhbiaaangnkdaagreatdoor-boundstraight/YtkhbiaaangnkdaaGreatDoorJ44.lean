import Derived.Test.YtkhbiaaangnkdaaGreatDoorJ43
import Derived.Test.YtkhbiaaangnkdaaGreatDoorJ11
namespace Go.Proofs.YtkhbiaaangnkdaaGreatDoor
namespace C
open Go.RowKit
open T (Sep Ob Kp Mf TgIn boxOb Fm Tc Ed Vl Cp Bx tgOb mRow mRow_idx mRow_tail mRow_at updV flt Vl.row_len Sl Rg rgB rgT RgIn)
theorem own_iv {w:World}{lo:Nat}{v:Value}{L:List Int}(h:w.ownsRow lo 25 1 v L.length (L.map u64I)):IvIn w v L∧∀k,v.ownBlock=some k→lo≤k:=by
 have hlt:=h.lt;refine⟨⟨?_,fun k q=>(hlt k q).2,?_⟩,fun k q=>(hlt k q).1⟩
 ·rcases h.2 with⟨rfl,h9⟩|⟨g,cap,cur,rfl,hb,hg,hc1,hc2,hc3,hc4⟩
  ·exact⟨none,0,by rw[h9],by omega,.inl h9⟩
  ·refine⟨_,cap,rfl,hc1,.inr ⟨g,0,rfl,fun i hi=>?_⟩⟩;have:w.cell? ⟨g,0+i,none⟩=cur[i]?:=by simp[World.cell?,hg]
   rw[this];have h2:(L.map u64I)[i]?=some (.int .u64 L[i]):=by simp[hi,u64I]
   rw[←hc4,List.getElem?_take_of_lt (by omega)]at h2;rw[←h2];simp
 ·rcases h.2 with⟨rfl,h9⟩|⟨g,cap,cur,rfl,hb,hg,hc1,hc2,hc3,hc4⟩
  ·exact⟨none,0,by rw[h9],.inl ⟨rfl,rfl⟩⟩
  ·refine⟨_,cap,rfl,.inr ⟨g,0,rfl,fun j hj=>?_⟩⟩;have e1:w.cell? ⟨g,0+j,none⟩=cur[j]?:=by simp[World.cell?,hg]
   rw[e1];have hj2:j<cur.size:=by omega
   exact⟨by simp[hj2],by simp[World.frozen?,hg]⟩
def slOf (k:PSlot):Sl:=⟨k.t.cap,k.t.b,k.t.e,k.t.lo,k.t.hi,k.t.p,k.t.s,k.c.toNat⟩
def rgOf (r:PReg):Rg:=⟨r.b.toNat,r.n,r.data,r.slots.map slOf⟩
theorem rg_in {w:World}{a:Option Addr}{L:List PReg}(h:RegIn w.heap.size w a L)(hr:∀r∈L,r.Rng):RgIn w a (L.map rgOf):=fun i hi=>by
 have hi':i<L.length:=by simpa using hi
 obtain⟨b,off,sa,sc,ha,h1,h2,c0,c1,c2,c3,hs⟩:=h i hi';have hR:=hr L[i] (List.getElem_mem hi');have e:(L.map rgOf)[i]=rgOf L[i]:=by simp
 rw[e];refine⟨b,off,sa,sc,ha,h2,?_,c1,c2,?_,fun j hj=>?_⟩
 ·rw[c0];show _=some (Value.int .u64 ((L[i].b.toNat:Nat):Int));rw[Int.toNat_of_nonneg hR.1.1]
 ·show _=some (Value.slice sa (L[i].slots.map slOf).length sc);rw[List.length_map];exact c3
 ·have hj':j<L[i].slots.length:=by
   have:j<(L[i].slots.map slOf).length:=hj;simpa using this
  obtain⟨b2,off2,ha2,_,hb2,hc⟩:=hs j hj';refine⟨b2,off2,ha2,hb2,fun o v q=>?_⟩;have e2:(rgOf L[i]).slots[j]=slOf L[i].slots[j]:=by simp[rgOf]
  rw[e2]at q;have ho:o<8:=by have:=(List.getElem?_eq_some_iff.1 q).1;simpa [Sl.vals]using this
  have e3:(slOf L[i].slots[j]).vals=L[i].slots[j].vals:=by
   have hk:=(hR.2.2.2.2 L[i].slots[j] (List.getElem_mem hj')).2.1;simp only[slOf,T.Sl.vals,PSlot.vals,PTyp.vals,List.cons_append,List.nil_append];rw[Int.toNat_of_nonneg hk]
  rw[e3]at q;rw[hc o ho];exact q
theorem rg_ok {L:List PReg}(hr:∀r∈L,r.Rng):∀r∈L.map rgOf,r.Ok:=fun r hx=>by
 obtain⟨x,hx2,rfl⟩:=List.mem_map.1 hx;have h:=hr x hx2;refine⟨by have:=h.1.2;have:=h.1.1;show x.b.toNat<_;omega,h.2.2.1,?_⟩;show(x.slots.map slOf).length≤_;rw[List.length_map];exact h.2.2.2.1
def bare (m:PImg):PImg:={m with regs:=[]}
theorem fits_of {m:PImg}(hP:POk (bare m)):(bare m).Fits:=by
 refine⟨⟨by unfold FitB;show 0*56≤_;omega,fun r hr=>by cases hr⟩,⟨?_,fun r hr=>?_⟩,⟨?_,fun r hr=>?_⟩⟩
 ·have:=hP.cl;unfold FitB;omega
 ·obtain⟨k,hk,rfl⟩:=List.getElem_of_mem hr;have h1:=(hP.roots k).1;have h2:=(hP.code k).1;rw[rootsOf_at _ k hk]at h1;rw[codeOf_at _ k hk]at h2;unfold FitB;omega
 ·have:=hP.gl;unfold FitB;omega
 ·obtain⟨k,hk,rfl⟩:=List.getElem_of_mem hr;have h1:=hP.gates k hk;unfold FitB;omega
def start (m:PImg)(g:Nat)(A I:List Nat):Ms:=⟨entF (bare m) g (intsF A) A.length,[],I.map fun x:Nat=>(x:Int),[],[],⟨0,0,0⟩,rgB (m.regs.map rgOf) m.regs.length,rgT (m.regs.map rgOf) m.regs.length⟩
theorem nil_in (B e k:Nat)(W:World):(rowOb B e k (.slice none 0 0) 0 []).In W:=World.ownsRow_nil _ _ _ _
theorem sep_void {B:Nat}{W:World}{l:List Ob}(h:Sep B W l)(e k:Nat)(hB:B≤W.heap.size):Sep B W (rowOb B e k (.slice none 0 0) 0 []::l):=
 h.add _ (nil_in B e k W) (fun _ q=>by cases q) (Below.refl _ _) hB
theorem sep_low {B B':Nat}{W:World}{l:List Ob}(h:Sep B W l)(hb:B'≤B):Sep B' W l:=⟨h.ins,h.dis,fun o ho k q=>Nat.le_trans hb (h.ge o ho k q)⟩
def zrow (p0 p1 p2:Value)(d:Int)(km:Nat)(f:Fm)(iv:Value):List Value:=mRow p0 p1 p2 d km f (.slice none 0 0) iv (.slice none 0 0) (.slice none 0 0) ⟨0,0,0⟩
theorem build_mc (r0 c0 g0 i0:Option Addr)(r1 r2 c1 c2 g1 g2 i1 i2 km:Nat)(d:Int)(f:Fm)(W:World):(Instr.build 82 #[(0,.agg #[.slice r0 r1 r2,.slice c0 c1 c2,.slice g0 g1 g2,.int .i64 d]),(1,.pointer (some ⟨km,0,none⟩)),(2,.agg f.row.toArray),(4,.slice i0 i1 i2)]).run Tryz.prog W=.ok (.agg (zrow (.slice r0 r1 r2) (.slice c0 c1 c2) (.slice g0 g1 g2) d km f (.slice i0 i1 i2)).toArray) W:=by kernel_rfl
theorem yields_mc {ops:Array Oper}{S:World→Prop}{op:Oper}{a:Act}(hw:Region.wanted op (yielded ops a.tmps)=true)(x0 x1 x2 x3:Operand)(ho:op.op=.build 82 #[(0,x0),(1,x1),(2,x2),(4,x3)])
 (r0 c0 g0 i0:Option Addr)(r1 r2 c1 c2 g1 g2 i1 i2 km:Nat)(d:Int)(f:Fm)(h0:a.eval x0=.agg #[.slice r0 r1 r2,.slice c0 c1 c2,.slice g0 g1 g2,.int .i64 d])(h1:a.eval x1=.pointer (some ⟨km,0,none⟩))(h2:a.eval x2=.agg f.row.toArray)(h3:a.eval x3=.slice i0 i1 i2):
 YieldsIf Tryz.prog ops S op (.agg (zrow (.slice r0 r1 r2) (.slice c0 c1 c2) (.slice g0 g1 g2) d km f (.slice i0 i1 i2)).toArray) a:=
 .inl ⟨hw,fun w _=>by
  unfold execOp;simp only[ho,List.map_toArray,List.map_cons,List.map_nil,h0,h1,h2,h3,build_mc,Sem.run_bind,Sem.run_pure,Result.andThen_ok]⟩
def InS (w:World)(a:Option Addr)(L:List Nat)(c:Nat):Prop:=(a=none∧L=[]∧c=0)∨∃b off,a=some ⟨b,off,none⟩∧b<w.heap.size∧∀i (h:i<L.length),w.cell? ⟨b,off+i,none⟩=some (.int .u64 L[i])
theorem InS.bl {w W:World}{a:Option Addr}{L:List Nat}{c:Nat}(h:InS w a L c)(g:Bl w W):InS W a L c:=by
 rcases h with h|⟨b,off,e,hl,hc⟩
 ·exact .inl h
 ·exact .inr ⟨b,off,e,Nat.lt_of_lt_of_le hl g.size,fun i hi=>(g.cell (p:=⟨b,_,none⟩) hl).trans (hc i hi)⟩
theorem clone_in (L:List Nat)(a:Option Addr)(c:Nat)(w:World)(h:InS w a L c)(hl:L.length≤2000000):
 Calls Tryz.prog 37 #[.slice a L.length c] w fun x w'=>∃i0 i2,x=.returned (.slice i0 L.length i2)∧IvIn w' (.slice i0 L.length i2) (L.map fun x:Nat=>(x:Int))∧(∀k,(Value.slice i0 L.length i2).ownBlock=some k→w.heap.size≤k)∧Bl w w':=by
 rcases h with⟨rfl,rfl,rfl⟩|⟨b,off,rfl,hb,hc⟩
 ·refine(clnil_u64 w).mono ?_;rintro x w' ⟨rfl,rfl⟩;exact⟨none,0,rfl,⟨⟨none,0,rfl,Nat.le_refl _,.inl rfl⟩,fun k q=>(by cases q),⟨none,0,rfl,.inl ⟨rfl,rfl⟩⟩⟩,fun k q=>(by cases q),Bl.refl _⟩
 ·refine(clone_u64 b off L.length c ((L.map fun x:Nat=>(x:Int)).map u64I) w hb (by simp) (fun j u q=>?_) (fun u q=>?_) hl).mono ?_
  ·rw[List.getElem?_map,List.getElem?_map]at q;by_cases hj:j<L.length
   ·rw[List.getElem?_eq_getElem hj]at q;injection q with q
    rw[hc j hj,←q]
    rfl
   ·rw[List.getElem?_eq_none (by omega)]at q
    cases q
  ·obtain⟨x,_,rfl⟩:=List.mem_map.1 q
   rfl
  ·rintro x w' ⟨v,rfl,h1,h2⟩;have h3:w'.ownsRow w.heap.size 25 1 v (L.map fun x:Nat=>(x:Int)).length ((L.map fun x:Nat=>(x:Int)).map u64I):=by rw[List.length_map];exact h1
   obtain⟨h4,h5⟩:=own_iv h3;obtain⟨i0,i2,e,_⟩:=h4.go;rw[List.length_map]at e;subst e;exact⟨i0,i2,rfl,h4,h5,h2⟩
end C
set_option maxRecDepth 100000
set_option maxHeartbeats 40000000
namespace C
open Go.RowKit
open T (Sep Ob Kp Mf TgIn boxOb Fm Tc Ed Vl Cp Bx tgOb mRow mRow_idx mRow_tail mRow_at updV flt Vl.row_len Sl Rg rgB rgT RgIn newTagged_any)
theorem ent_lt {m:PImg}{g:Int}(h:isEnt m g=true):0≤g∧g<m.gates.length:=by
 unfold isEnt at h
 split at h
 ·assumption
 ·cases h
theorem run_box (row:Array Value)(W:World):(Instr.box 82 (.agg row)).run Tryz.prog W=.ok (.pointer (some ⟨W.heap.size,0,none⟩)) (W.alloc (.cells row 82)):=rfl
theorem wp_box_mc {o:Oper}{a:Act}{K:Act→World→Prop}{Q:Exit→Act→World→Prop}{w:World}{x:Operand}(ho:o.op=.box 82 x)(row:Array Value)(hx:a.eval x=.agg row)(h:K (a.put o.dst (.pointer (some ⟨w.heap.size,0,none⟩))) (w.alloc (.cells row 82))):o.wp Tryz.prog a w K Q:=by
 unfold Oper.wp execOp;simp only[ho,hx,run_box,Sem.run_bind,Sem.run_pure,Result.andThen_ok];exact h
theorem new_ok (m:PImg)(g:Nat)(A I:List Nat)(ra ca ga aa ia:Option Addr)(rc cc gc ac ic:Nat)(w:World)(ht:TabIn w)(hm:ImgIn w.heap.size w ra ca ga m)(hr:m.Rng)(hq:m.right=0)(hent:isEnt m g=true)(hal:A.length=(argsOf m g).length)(hA:NumIn w aa A)(hI:InS w ia I ic)(hil:I.length≤2000000):
 Calls Tryz.prog 16 #[.agg #[.slice ra m.regs.length rc,.slice ca m.comps.length cc,.slice ga m.gates.length gc,.int .i64 m.depth],.int .i64 g,.slice aa A.length ac,.slice ia I.length ic] w fun x w'=>∃a,x=.returned (.tuple #[.pointer (some ⟨a,0,none⟩),.int .i64 0])∧MIn w.heap.size w' a (bare m) (start m g A I) []∧Below w.heap.size w w':=by
 have hRt:=ζ (fun X (q:Gr w X)=>imgRight_any m ra ca ga rc cc gc X (ht.gr q) ((hm.below q.below).mono q.below.size) hr);have hP:POk (bare m):=pok_of m hq hr;have hEn:=ζ (fun X (q:Bl w X)=>isEntry_any m g ra ca ga m.regs.length rc m.comps.length cc gc m.depth X ((hm.gates.below q).mono q.size) (fun x hx=>by
  obtain⟨k,hk,rfl⟩:=List.getElem_of_mem hx;have:m.gates[k].args.length≤7:=(hP.gates k hk).2.2.2.2.1;omega))
 rw[hent]at hEn;rw[hq]at hRt;obtain⟨_,e2⟩:=ent_lt hent;have hk:g<m.gates.length:=by omega
 rw[argsOf_at m g hk]at hal;have hA7:A.length≤7:=by rw[hal];exact(hP.gates g hk).2.2.2.2.1
 have hCp:=ζ (fun X (q:Bl w X)=>Copy_any (bare m) none ca ga 0 cc gc X ⟨fun i hi=>absurd hi (Nat.not_lt_zero i),(hm.comps.below q).mono q.size,(hm.gates.below q).mono q.size⟩ (fits_of hP));have hNT:=ζ (fun X (q:Bl w X)=>newTagged_any (m.regs.map rgOf) ra rc (.slice ca m.comps.length cc) (.slice ga m.gates.length gc) (.int .i64 m.depth) X (rg_in ((hm.regs.below q).mono q.size) hr.regs.2) (rg_ok hr.regs.2) (by rw[List.length_map];exact hr.regs.1));rw[List.length_map]at hNT;have hIt:=ζ (fun X (q:Bl w X)=>integers_any A aa ac X (hA.bl q) (by omega));have hCl:=ζ (fun X (q:Bl w X)=>clone_in I ia ic X (hI.bl q) hil);obtain⟨b,off,xa,xc,ya,yc,rfl,_,hb,c0,c1,c2,c3,hx,_⟩:=hm.gates g hk;replace c2:w.cell? ⟨b,off+g*4+2,none⟩=some (.slice xa m.gates[g].args.length xc):=c2;have hc2:=ζ (fun X (q:Bl w X)=>(q.cell (p:=⟨b,off+g*4+2,none⟩) hb).trans c2);have gi:(g:Int)<m.gates.length:=by omega
 rw[←hal]at hc2;have hal2:=ζ hal;clear hm hr ht hq hent hx c0 c1 c3 c2 hal hA hI;go_enter Tryz.func16,Tryz.ntmps16;go_wp2_with fail;refine(hRt.out _ ((Gr.refl w).alloc _)).mono ?_;rintro x W1 ⟨rfl,e1⟩;have g1:=ζ ((Gr.refl w).alloc (.cells #[.slice ra m.regs.length rc,.slice ca m.comps.length cc,.slice (some ⟨b,off,none⟩) m.gates.length gc,.int .i64 m.depth] 40) |>.trans e1).below;have a1:=Bl.at_ (Bl.gr e1) (At.new w #[.slice ra m.regs.length rc,.slice ca m.comps.length cc,.slice (some ⟨b,off,none⟩) m.gates.length gc,.int .i64 m.depth] 40);have⟨l1,p1,_⟩:=a1;replace a1:=ζ a1;clear e1 hRt;go_wp2_with fail;refine(hEn.out _ g1.out).mono ?_;rintro x W2 ⟨rfl,e1⟩;replace g1:=ζ (Bl.trans g1.out e1);replace a1:=ζ (Bl.at_ e1 a1.out);clear p1 l1 e1 hEn;have⟨l1,p1,_⟩:=a1.out;have c2:=hc2.out W2 g1.out;have hb2:b<W2.heap.size:=Nat.lt_of_lt_of_le hb g1.out.size;go_wp2_with fail;refine(hCp.out _ g1.out).mono ?_
 rintro x X5 ⟨ra2,rc2,ca2,cc2,ga2,gc2,rfl,hOwn,e1⟩;have gX5:Bl w X5:=Bl.trans g1.out e1;have a5:=ζ (Bl.at_ e1 a1.out);have hlo:w.heap.size≤W2.heap.size:=g1.out.size;have hOwn:=ζ hOwn;clear p1 l1 c2 a1;go_upto_region 9 with fail
 refine wp_world (fun X=>Bl X5 X∧At X X5.heap.size #[.slice ra2 0 rc2,.slice ca2 m.comps.length cc2,.slice ga2 m.gates.length gc2,.int .i64 m.depth]) ?_ ?_
 ·exact⟨(Bl.refl X5).alloc _,At.new X5 _ _⟩
 rintro X ⟨gX,aX⟩;have a0:=Bl.at_ gX a5.out;have gwX:Bl w X:=gX5.trans gX;have hBX:w.heap.size≤X.heap.size:=gwX.size;have hg9:=ζ gwX;have KT:Hz (∀Y,Bl X Y→(Y.cell? ⟨X5.heap.size,0,none⟩=some (.slice ra2 0 rc2)∧Y.cell? ⟨X5.heap.size,1,none⟩=some (.slice ca2 m.comps.length cc2)∧Y.cell? ⟨X5.heap.size,2,none⟩=some (.slice ga2 m.gates.length gc2)∧Y.cell? ⟨X5.heap.size,3,none⟩=some (.int .i64 m.depth))∧Y.cell? ⟨w.heap.size,0,none⟩=some (.slice ra m.regs.length rc)∧Y.cell? ⟨w.heap.size,1,none⟩=some (.slice ca m.comps.length cc)∧Y.cell? ⟨w.heap.size,2,none⟩=some (.slice (some ⟨b,off,none⟩) m.gates.length gc)∧Y.cell? ⟨w.heap.size,3,none⟩=some (.int .i64 m.depth)):=ζ (fun Y q=>⟨⟨(Bl.at_ q aX).2.1 0,(Bl.at_ q aX).2.1 1,(Bl.at_ q aX).2.1 2,(Bl.at_ q aX).2.1 3⟩,(Bl.at_ q a0).2.1 0,(Bl.at_ q a0).2.1 1,(Bl.at_ q a0).2.1 2,(Bl.at_ q a0).2.1 3⟩);have hSep:Hz (Sep w.heap.size X [ouOb w.heap.size (.slice none 0 0) [],tcOb w.heap.size (.slice none 0 0) [],snapOb W2.heap.size X5]):=ζ (sep_void (sep_void (sep_low ((snap_sep W2.heap.size X5).gr gX) hlo) _ _ hBX) _ _ hBX)
 obtain⟨hk1,hk2,hk3,hk4⟩:=hP.kl g hk;have hImg:Hz (∀Y,Bl X5 Y→ImgIn Y.heap.size Y ra2 ca2 ga2 (bare m)):=ζ (fun Y q=>(img_snap hOwn.out (fun k _ hk=>q.block k hk)).into);have hEt:=ζ (fun Y (q:Bl X Y) va (hs:SrcV Y va (intsF A) A.length)=>entered_any (bare m) (.slice ra2 0 rc2) (.int .i64 m.depth) g (eOf (bare m) g) (kOf (bare m) g) A.length (intsF A) ca2 ga2 cc2 gc2 va A.length Y hk (hImg.out Y (gX.trans q)).gates (hImg.out Y (gX.trans q)).comps hk3 hk2 hk1 (fun x hx=>by
  have:=(hP.roots (kOf (bare m) g)).2 x (by rw[rootsOf_at _ _ hk1];exact hx);omega) (by
  have:=(hP.roots (kOf (bare m) g)).1;rw[rootsOf_at _ _ hk1]at this;omega) hs (by omega))
 rw[←rootsOf_at (bare m) _ hk1]at hEt;have hEe:rootsJ ⟨g,eOf (bare m) g,ovF (intsF A) (fun _=>zV) A.length⟩ (rootsOf (bare m) (kOf (bare m) g)) (rootsOf (bare m) (kOf (bare m) g)).length=entF (bare m) g (intsF A) A.length:=rfl;rw[hEe]at hEt;clear hEe;replace hNT:=ζ (fun Y (q:Bl X Y)=>hNT.out Y (gwX.trans q));replace hIt:=ζ (fun Y (q:Bl X Y)=>hIt.out Y (gwX.trans q));replace hCl:=ζ (fun Y (q:Bl X Y)=>hCl.out Y (gwX.trans q));have hfin:Hz (∀(U4:World) SM km i0 i2,Bl X U4→Sep w.heap.size U4 (inOb (.slice i0 I.length i2) (I.map fun x:Nat=>(x:Int))::tgOb SM km (rgB (m.regs.map rgOf) m.regs.length) (rgT (m.regs.map rgOf) m.regs.length)::[ouOb w.heap.size (.slice none 0 0) [],tcOb w.heap.size (.slice none 0 0) [],snapOb W2.heap.size X5])→MIn w.heap.size (U4.alloc (.cells (zrow (.slice ra2 0 rc2) (.slice ca2 m.comps.length cc2) (.slice ga2 m.gates.length gc2) m.depth km (entF (bare m) g (intsF A) A.length) (.slice i0 I.length i2)).toArray 82)) U4.heap.size (bare m) (start m g A I) []):=ζ (fun U4 SM km i0 i2 q hS=>by
  have hB4:w.heap.size≤U4.heap.size:=Nat.le_trans hBX q.size;have h1:=sep_void hS 78 114 hB4;have hat:=At.new U4 (zrow (.slice ra2 0 rc2) (.slice ca2 m.comps.length cc2) (.slice ga2 m.gates.length gc2) m.depth km (entF (bare m) g (intsF A) A.length) (.slice i0 I.length i2)).toArray 82;have h2:=h1.add (bx_ U4.heap.size (zrow (.slice ra2 0 rc2) (.slice ca2 m.comps.length cc2) (.slice ga2 m.gates.length gc2) m.depth km (entF (bare m) g (intsF A) A.length) (.slice i0 I.length i2))) ⟨hat.1,fun o v e=>(hat.2.1 o).trans (by simpa using e),hat.2.2⟩ (fun k e=>by have:k=U4.heap.size:=e;omega) ((Below.refl _ U4).alloc (Nat.le_refl _) _) hB4;refine⟨⟨⟨ra2,rc2,ca2,cc2,ga2,gc2,km,.slice none 0 0,.slice i0 I.length i2,.slice none 0 0,.slice none 0 0,SM,W2.heap.size,X5⟩,?_,hOwn.out⟩,by rw[World.size_alloc];omega⟩;have h3:=sep_perm h2 (List.Perm.cons _ (List.perm_middle (a:=tgOb SM km (rgB (m.regs.map rgOf) m.regs.length) (rgT (m.regs.map rgOf) m.regs.length)) (l₁:=[rowOb w.heap.size 78 114 (.slice none 0 0) 0 [],inOb (.slice i0 I.length i2) (I.map fun x:Nat=>(x:Int))])))
  rw[List.append_nil];exact h3)
 generalize hfE:entF (bare m) g (intsF A) A.length=fE at hEt hfin;replace hfE:=ζ hfE;replace hP:=ζ hP;clear hCp hImg aX a0 gX gX5 gwX a5 hk1 hk2 hk3 hk4 hOwn hlo g1;generalize X5.heap.size=kp at*;generalize hk0:w.heap.size=k0 at*;replace hk0:=ζ hk0;have f0:Bl X X.drew:=(Bl.refl X).drew;refine wp_region_held_drew (S:=(fun X=>(X.cell? ⟨kp,0,none⟩=some (.slice ra2 0 rc2)∧X.cell? ⟨kp,1,none⟩=some (.slice ca2 m.comps.length cc2)∧X.cell? ⟨kp,2,none⟩=some (.slice ga2 m.gates.length gc2)∧X.cell? ⟨kp,3,none⟩=some (.int .i64 m.depth))∧X.cell? ⟨k0,0,none⟩=some (.slice ra m.regs.length rc)∧X.cell? ⟨k0,1,none⟩=some (.slice ca m.comps.length cc)∧X.cell? ⟨k0,2,none⟩=some (.slice (some ⟨b,off,none⟩) m.gates.length gc)∧X.cell? ⟨k0,3,none⟩=some (.int .i64 m.depth))) (by kernel_rfl) (KT.out _ f0) (fun hHeld=>?_);refine xz 0 rfl (h:=xz 1 rfl (h:=xz 3 rfl (h:=xz 4 rfl (h:=xz 5 rfl (h:=xz 8 rfl (h:=?_))))));try simp only[xap]
 refine xrd 2 rfl (fun K hK=>?_);go_simp;refine(hNT.out _ f0).mono ?_;rintro r U1 ⟨SM,rfl,hTg,hSM,e1⟩;have f1:=Bl.trans f0 e1;have hSep1:=ζ ((hSep.out.gr f0).add (tgOb SM _ _ _) hTg (fun k q=>Nat.le_of_lt (hSM k q)) e1 (Nat.le_trans hBX f0.size));replace hTg:=ζ hTg;replace hSM:=ζ hSM;clear hHeld e1;refine hK.out _ _ (KT.out _ f1) (fun hHeld=>?_);clear hK K;try simp only[xap]
 refine xrd 6 rfl (fun K hK=>?_);go_simp;refine(hIt.out _ f1).mono ?_;rintro r U2 ⟨va,rfl,hsrc,e1⟩;have f2:=Bl.trans f1 e1;replace hSep1:=ζ (hSep1.out.gr e1);replace hsrc:=ζ hsrc;clear hHeld e1;refine hK.out _ _ (KT.out _ f2) (fun hHeld=>?_);clear hK K;try simp only[xap]
 refine xrd 7 rfl (fun K hK=>?_);go_simp;refine(hEt.out _ f2 va hsrc.out).mono ?_;rintro r U3 ⟨rfl,e1⟩;have f3:=Bl.trans f2 e1;replace hSep1:=ζ (hSep1.out.gr e1);clear hHeld e1;refine hK.out _ _ (KT.out _ f3) (fun hHeld=>?_);clear hK K;try simp only[xap]
 refine xrd 9 rfl (fun K hK=>?_);go_simp;refine(hCl.out _ f3).mono ?_;rintro r U4 ⟨i0,i2,rfl,hIv,hIn,e1⟩;have f4:=Bl.trans f3 e1;have hSep2:=ζ (hSep1.out.add (inOb _ _) hIv hIn e1 (Nat.le_trans hBX f3.size));clear hHeld e1 hIv hIn;refine hK.out _ _ (KT.out _ f4) (fun hHeld=>?_);clear hK K;try simp only[xap]
 refine xtk 10 rfl (yields_mc (by rfl) _ _ _ _ rfl _ _ _ _ _ _ _ _ _ _ _ _ _ _ fE (by rfl) (by rfl) (by rfl) (by rfl)) ?_;try simp only[xap]
 refine xrd 11 rfl (fun K hK=>?_);rw[if_pos (by rfl)];refine wp_box_mc rfl _ rfl ?_;clear hHeld;refine hK.out _ _ (KT.out _ (f4.alloc _)) (fun hHeld=>?_);clear hK K;try simp only[xap]
 refine xz 12 rfl (h:=xz 13 rfl (h:=?_));try simp only[xap]
 refine xdn ?_ _;clear hHeld;go_wp2_with fail;refine bodyPost_ret (v:=.tuple #[.pointer (some ⟨U4.heap.size,0,none⟩),.int .i64 0]) (by simp[results,Tryz.results16,go_sem]) rfl ⟨U4.heap.size,rfl,?_,?_⟩
 ·have hz:=hfin.out U4 _ _ _ _ f4 hSep2.out;rw[←hk0.out]at hz;exact hz
 ·exact Below.mono ((hg9.out.trans f4).alloc _) (Nat.le_refl _)
open T (Sep Ob Kp Mf TgIn boxOb Fm Tc Ed Vl Cp Bx tgOb mRow mRow_idx mRow_tail mRow_at updV flt Vl.row_len regRow regRow_at regRow_len)
def tl (s:Ms):List Value:=[.int .i64 s.over.e,.int .u64 s.over.v,.int .i64 s.over.f,.int .i64 s.at_.gate,.int .i64 s.at_.pc]
theorem tl_one (s:Ms):(tl s).toArray.all (fun x=>x.oneCell')=true:=by simp[tl,Value.oneCell']
theorem stands_any (B:Nat)(a:Nat)(P:PImg)(s:Ms)(l:List Ob)(w:World)(h:MIn B w a P s l):
 Calls Tryz.prog 18 #[.pointer (some ⟨a,0,none⟩)] w fun x w'=>x=.returned (.agg (tl s).toArray)∧Bl w w':=by
 have hlt:=h.alt;have gV:Bl w (w.alloc (.cells #[.int .i64 0,.int .u64 0,.int .i64 0,.int .i64 0,.int .i64 0] 50)):=(Bl.refl w).alloc _;have KS:Hz (∀X,Bl w X→X.cell? ⟨a,123,none⟩=some (.int .i64 s.over.e)∧X.cell? ⟨a,124,none⟩=some (.int .u64 s.over.v)∧X.cell? ⟨a,125,none⟩=some (.int .i64 s.over.f)∧X.cell? ⟨a,5,none⟩=some (.int .i64 s.at_.gate)∧X.cell? ⟨a,6,none⟩=some (.int .i64 s.at_.pc)):=ζ (fun X q=>by
  obtain⟨k1,k2,k3,k4,k5,_⟩:=(h.gr q).cell;exact⟨k3,k4,k5,k1,k2⟩)
 have hR0:At (w.alloc (.cells #[.int .i64 0,.int .u64 0,.int .i64 0,.int .i64 0,.int .i64 0] 50)) w.heap.size (List.toArray [Value.int .i64 0,.int .u64 0,.int .i64 0,.int .i64 0,.int .i64 0]):=At.new w _ _;replace h:=ζ h;go_enter Tryz.func18,Tryz.ntmps18;go_upto_region 1 with fail
 generalize w.alloc (.cells #[.int .i64 0,.int .u64 0,.int .i64 0,.int .i64 0,.int .i64 0] 50)=V at*;have gD:Bl w V.drew:=gV.drew;have hR1:At V.drew w.heap.size (List.toArray [Value.int .i64 0,.int .u64 0,.int .i64 0,.int .i64 0,.int .i64 0]):=hR0.drew;have hth:=ζ (At.there hR1 0 5 (by decide));have hA8:=ζ (At.setAll hR1 (tl s) rfl);have g9:=gD.sets w.heap.size (Nat.le_refl _) (tl s) 0;have gD2:=g9;replace hR1:=ζ hR1;replace hR0:=ζ hR0;refine wp_region_held_drew (S:=(fun X=>X.cell? ⟨a,123,none⟩=some (.int .i64 s.over.e)∧X.cell? ⟨a,124,none⟩=some (.int .u64 s.over.v)∧X.cell? ⟨a,125,none⟩=some (.int .i64 s.over.f)∧X.cell? ⟨a,5,none⟩=some (.int .i64 s.at_.gate)∧X.cell? ⟨a,6,none⟩=some (.int .i64 s.at_.pc))) (by kernel_rfl) (KS.out _ gD) (fun hHeld=>?_);refine xz 0 rfl (h:=xz 1 rfl (h:=xz 2 rfl (h:=xz 3 rfl (h:=xz 4 rfl (h:=xz 5 rfl (h:=xz 6 rfl (h:=xz 7 rfl (h:=xz 8 rfl (h:=xz 9 rfl (h:=xz 10 rfl (h:=xz 11 rfl (h:=xz 12 rfl (h:=xz 13 rfl (h:=xz 14 rfl (h:=xz 15 rfl (h:=xz 16 rfl (h:=xz 17 rfl (h:=xz 18 rfl (h:=xz 19 rfl (h:=xz 20 rfl (h:=xz 21 rfl (h:=xz 22 rfl (h:=xz 23 rfl (h:=xz 24 rfl (h:=xz 25 rfl (h:=?_))))))))))))))))))))))))))
 try simp only[xap]
 refine xrd 26 rfl (fun K hK=>?_);rw[if_pos (by rfl)];refine wp_store_mid _ _ _ rfl _ _ (List.toArray (tl s)) rfl rfl (show World.there _ _ _ _ from hth.out) (by kernel_rfl) (tl_one s) ?_;clear hHeld;refine hK.out _ _ (KS.out _ gD2) (fun hHeld=>?_);clear hK K;try simp only[Act.put]
 refine xdn ?_ _;clear hHeld;generalize World.setCells _ _ _ _=Y9 at*;have hrun:=run_loadVar_mid (P:=Tryz.prog) Y9 w.heap.size 0 50 (tl s) _ hA8.out.range Tryz.underlying50 rfl (by kernel_rfl);replace g9:=ζ g9;go_wp2_with fail;refine bodyPost_ret (v:=.agg (tl s).toArray) ?_ rfl ⟨rfl,g9.out⟩;exact results_cellE Tryz.results18 _ _ rfl hrun
theorem steps_all (B:Nat)(W0:World)(a:Nat)(P:PImg)(s:Ms)(l:List Ob)(n k:Nat)(most:Int)(hmk:most.toNat=k)(hP:POk P)(h:MIn B W0 a P s l)(ok:Okm P n s)(hn:n+k≤1000000):
 Calls Tryz.prog 17 #[.pointer (some ⟨a,0,none⟩),.int .i64 most] W0 fun x w'=>x=.returned (.tuple #[])∧MIn B w' a P (stepsM P k s) l∧Below B W0 w':=by
 by_cases h0:s.over.e=0
 ·exact steps_any B W0 a P s l n k most hmk hP h ok hn h0
 ·rw[stepsM_end h0 k];exact steps_over B W0 a P s l most h h0
def spent (s:Ms):Ms:=if s.over.e=0 then s.ended ⟨4,0,0⟩else s
def runM (P:PImg)(fuel:Int)(s:Ms):Ms:=spent (stepsM P (min fuel 100000).toNat s)
theorem run_any (B:Nat)(W0:World)(a:Nat)(P:PImg)(s:Ms)(l:List Ob)(n:Nat)(fuel:Int)(hP:POk P)(h:MIn B W0 a P s l)(ok:Okm P n s)(hn:n+(min fuel 100000).toNat≤1000000):
 Calls Tryz.prog 8 #[.pointer (some ⟨a,0,none⟩),.int .i64 fuel] W0 fun x w'=>x=.returned (.agg (tl (runM P fuel s)).toArray)∧MIn B w' a P (runM P fuel s) l∧Below B W0 w':=by
 have hS:=ζ (fun X l' (q:MIn B X a P s l')=>steps_all B X a P s l' n (min fuel 100000).toNat (min fuel 100000) rfl hP q ok hn);unfold runM;generalize stepsM P (min fuel 100000).toNat s=s1 at*;generalize hmn:min fuel 100000=mn at*;unfold spent;by_cases h0:s1.over.e=0
 ·rw[if_pos h0];generalize hs2:s1.ended ⟨4,0,0⟩=s2;have hSt:=ζ (fun X l' (q:MIn B X a P s2 l')=>stands_any B a P s2 l' X q);replace h0:=ζ h0;replace hs2:=ζ hs2;have h2:=ζ (h.new #[.int .i64 0,.int .u64 0,.int .i64 0,.int .i64 0,.int .i64 0] 50);clear h;go_enter Tryz.func8,Tryz.ntmps8;go_upto_region 1 with fail
  refine wp_world (fun W=>MIn B W a P s (boxOb W0.heap.size #[.int .i64 0,.int .u64 0,.int .i64 0,.int .i64 0,.int .i64 0]::l)∧Below B W0 W) h2.out ?_;clear h2;rintro W ⟨h,hB⟩;generalize W0.heap.size=kr at*;replace h:=ζ h;replace hB:=ζ hB;go_wp2_with fail;refine(hS.out _ _ h.out).mono ?_;rintro r X1 ⟨rfl,h1,hB1⟩;replace hB:=ζ (hB.out.trans hB1);obtain⟨_,_,c3,c4,c5,fr⟩:=h1.cell;rw[h0.out]at c3;have hlt:=h1.alt;have hov:=h1.setOver ⟨4,0,0⟩;rw[hs2.out]at hov;replace hov:=ζ hov;clear h1 hB1 hS h;go_upto_region 6 with fail
  replace hB:=ζ (hB.out.trans hov.out.2);have h:=ζ hov.out.1;clear hov c3 c4 c5 fr hlt;generalize World.setCell (World.setCell (World.setCell _ _ _) _ _) _ _=X3 at*;refine wp_region_lit ?_;refine xp fun K hK=>?_
  go_simp;with_reducible refine hK _ _ ?_
  clear hK K;try simp only[xap]
  refine xp fun K hK=>?_
  go_simp;refine(hSt.out _ _ h.out).mono ?_;rintro r X2 ⟨rfl,e1⟩;replace hB:=ζ (hB.out.trans (h.out.bl e1).2);replace h:=ζ (h.out.bl e1).1;clear e1;with_reducible refine hK _ _ ?_
  clear hK K;try simp only[xap]
  have hA:=h.out.there (boxOb kr #[.int .i64 0,.int .u64 0,.int .i64 0,.int .i64 0,.int .i64 0]) (.head _);replace hA:At X2 kr (List.toArray [Value.int .i64 0,.int .u64 0,.int .i64 0,.int .i64 0,.int .i64 0]):=hA;have hth:=ζ (At.there hA 0 5 (by decide));have hA8:=ζ (At.setAll hA (tl s2) rfl);have hsd:=h.out.side (o:=boxOb kr #[.int .i64 0,.int .u64 0,.int .i64 0,.int .i64 0,.int .i64 0]) (o':=boxOb kr (tl s2).toArray) (W':=X2.setCells kr 0 (tl s2)) hA8.out (T.kp_setCells (fun k=>k=kr) kr rfl _ _ X2) (fun k q=>.inl q);replace hA:=ζ hA;replace hsd:=ζ hsd;refine wpList_store_mid rfl _ _ _ rfl _ _ (List.toArray (tl s2)) rfl rfl (show World.there _ _ _ _ from hth.out) (by kernel_rfl) (tl_one _) ?_;try simp only[Act.put]
  generalize World.setCells _ _ _ _=Y9 at*;have hrun:=run_loadVar_mid (P:=Tryz.prog) Y9 kr 0 50 (tl s2) _ hA8.out.range Tryz.underlying50 rfl (by kernel_rfl);go_wp2_with fail;refine bodyPost_ret (v:=.agg (tl s2).toArray) ?_ rfl ⟨rfl,hsd.out.1.drop,hB.out.trans hsd.out.2⟩;exact results_cellE Tryz.results8 _ _ rfl hrun
 ·rw[if_neg h0];have hSt:=ζ (fun X l' (q:MIn B X a P s1 l')=>stands_any B a P s1 l' X q);have h0':(s1.over.e==0)=false:=by simpa using h0
  have h2:=ζ (h.new #[.int .i64 0,.int .u64 0,.int .i64 0,.int .i64 0,.int .i64 0] 50);clear h;go_enter Tryz.func8,Tryz.ntmps8;go_upto_region 1 with fail
  refine wp_world (fun W=>MIn B W a P s (boxOb W0.heap.size #[.int .i64 0,.int .u64 0,.int .i64 0,.int .i64 0,.int .i64 0]::l)∧Below B W0 W) h2.out ?_;clear h2;rintro W ⟨h,hB⟩;generalize W0.heap.size=kr at*;replace h:=ζ h;replace hB:=ζ hB;go_wp2_with fail;refine(hS.out _ _ h.out).mono ?_;rintro r X1 ⟨rfl,h1,hB1⟩;replace hB:=ζ (hB.out.trans hB1);have c3:=h1.cell.2.2.1;have hlt:=h1.alt;replace h:=ζ h1;clear h1 hB1 hS;generalize s1.over.e=e9 at h0' c3 h0;go_upto_region 6 with fail
  clear c3 h0' h0 hlt;refine wp_region_lit ?_;refine xp fun K hK=>?_
  go_simp;with_reducible refine hK _ _ ?_
  clear hK K;try simp only[xap]
  refine xp fun K hK=>?_
  go_simp;refine(hSt.out _ _ h.out).mono ?_;rintro r X2 ⟨rfl,e1⟩;replace hB:=ζ (hB.out.trans (h.out.bl e1).2);replace h:=ζ (h.out.bl e1).1;clear e1;with_reducible refine hK _ _ ?_
  clear hK K;try simp only[xap]
  have hA:=h.out.there (boxOb kr #[.int .i64 0,.int .u64 0,.int .i64 0,.int .i64 0,.int .i64 0]) (.head _);replace hA:At X2 kr (List.toArray [Value.int .i64 0,.int .u64 0,.int .i64 0,.int .i64 0,.int .i64 0]):=hA;have hth:=ζ (At.there hA 0 5 (by decide));have hA8:=ζ (At.setAll hA (tl s1) rfl);have hsd:=h.out.side (o:=boxOb kr #[.int .i64 0,.int .u64 0,.int .i64 0,.int .i64 0,.int .i64 0]) (o':=boxOb kr (tl s1).toArray) (W':=X2.setCells kr 0 (tl s1)) hA8.out (T.kp_setCells (fun k=>k=kr) kr rfl _ _ X2) (fun k q=>.inl q);replace hA:=ζ hA;replace hsd:=ζ hsd;refine wpList_store_mid rfl _ _ _ rfl _ _ (List.toArray (tl s1)) rfl rfl (show World.there _ _ _ _ from hth.out) (by kernel_rfl) (tl_one _) ?_;try simp only[Act.put]
  generalize World.setCells _ _ _ _=Y9 at*;have hrun:=run_loadVar_mid (P:=Tryz.prog) Y9 kr 0 50 (tl s1) _ hA8.out.range Tryz.underlying50 rfl (by kernel_rfl);go_wp2_with fail;refine bodyPost_ret (v:=.agg (tl s1).toArray) ?_ rfl ⟨rfl,hsd.out.1.drop,hB.out.trans hsd.out.2⟩;exact results_cellE Tryz.results8 _ _ rfl hrun
open T (Sep Ob Kp Mf TgIn boxOb Fm Tc Ed Vl Cp Bx tgOb mRow updV flt Sl Rg rgB rgT slT dataT offT scT updT)
def SlOk (x:Sl):Prop:=x.cap=true→COk ⟨x.b,x.e,x.c,x.p,x.s⟩
theorem scT_in' {t:Nat→Option Cp}(ht:∀g c,t g=some c→COk c)(a:Nat){v:Vl}(hv:v.g=true→COk v.c):∀g c,scT t a v g=some c→COk c:=fun g c h=>by
 unfold scT at h;split at h
 ·split at h
  ·rename_i hg
   unfold updT at h;split at h
   ·injection h with h;subst h;exact hv hg
   ·exact off_in ht _ _ g c h
  ·exact off_in ht _ _ g c h
 ·exact ht g c h
theorem slT_in {t:Nat→Option Cp}(ht:∀g c,t g=some c→COk c)(base:Nat){L:List Sl}(hL:∀x∈L,SlOk x):∀n g c,slT t base L n g=some c→COk c
 |0=>ht
 |n+1=>by
  unfold slT;refine scT_in' (slT_in ht base hL n) _ (fun hg=>?_)
  cases hx:L[n]? with
  |none=>rw[hx]at hg;cases hg
  |some x=>
   rw[hx]at hg;have h1:=hL x (List.mem_of_getElem? hx);simp only[Option.map_some,Option.getD_some]at hg ⊢;unfold T.Sl.v at hg ⊢
   split at hg
   ·rename_i hc
    rw[if_pos hc];exact h1 hc
   ·cases hg
theorem rgT_in {L:List Rg}(hL:∀r∈L,∀x∈r.slots,SlOk x):∀n g c,rgT L n g=some c→COk c
 |0=>fun g c h=>by cases h
 |n+1=>by
  unfold rgT
  cases hx:L[n]? with
  |none=>exact rgT_in hL n
  |some r=>exact slT_in (off_in (rgT_in hL n) _ _) _ (hL r (List.mem_of_getElem? hx)) _
theorem slots_mem:∀(L:List PSlot),slotsR L=true→∀k∈L,k.right=true
 |[],_=>fun k hk=>by cases hk
 |k::l,h=>by
  unfold slotsR at h;rw[Bool.and_eq_true]at h;intro x hx;rcases List.mem_cons.1 hx with rfl|hx
  ·exact h.1
  ·exact slots_mem l h.2 x hx
theorem regs_mem:∀(L:List PReg) (f:Int),regsR L f=0→∀r∈L,slotsR r.slots=true
 |[],_,_=>fun r hr=>by cases hr
 |k::l,f,h=>by
  unfold regsR at h
  split at h
  ·split at h
   ·rename_i q
    intro r hr;rcases List.mem_cons.1 hr with rfl|hr
    ·exact q
    ·exact regs_mem l _ h r hr
   ·omega
  ·omega
theorem sl_ok {k:PSlot}(h:k.right=true)(hr:k.Rng):SlOk (slOf k):=fun hc=>by
 have hc':k.t.cap=true:=hc;unfold PSlot.right at h;rw[Bool.and_eq_true,Bool.and_eq_true]at h;have h1:=h.1.2;unfold PTyp.right at h1;rw[if_pos hc',Bool.and_eq_true]at h1;have h2:=dataB_s h1.1;obtain⟨⟨r1,r2,_,_,r5,_⟩,r7⟩:=hr;refine⟨r1,r2,?_,r5,h2⟩;show W64 ((k.c.toNat:Nat):Int);rw[Int.toNat_of_nonneg r7.1];exact r7
theorem regs_right {m:PImg}(h:m.right=0):regsR m.regs 0=0:=by
 unfold PImg.right at h
 split at h
 ·split at h
  ·assumption
  ·rename_i q;exact absurd h q
 ·omega
theorem ints_vok {A:List Nat}(hA:∀x∈A,x<18446744073709551616)(j:Nat):VOk (intsF A j):=by
 refine vok_nat ?_
 cases hx:A[j - 1]? with
 |none=>decide
 |some x=>exact hA x (List.mem_of_getElem? hx)
theorem start_ok {m:PImg}(h:m.right=0)(hr:m.Rng){g:Nat}(hg:g<m.gates.length){A I:List Nat}(hA:∀x∈A,x<18446744073709551616)(hI:∀x∈I,x<18446744073709551616)(hl:I.length≤2000000):Okm (bare m) 0 (start m g A I):=by
 have hP:POk (bare m):=pok_of m h hr;refine⟨ent_ok hP hg (ints_vok hA) _,fun f hf=>(by cases hf),by have:=hP.dp;show((0:Nat):Int)≤(bare m).depth;omega,⟨?_,fun x hx=>?_⟩,Nat.le_refl _,Nat.le_refl _,?_⟩
 ·show(I.map fun x:Nat=>(x:Int)).length≤_;rw[List.length_map];omega
 ·obtain⟨y,hy,rfl⟩:=List.mem_map.1 hx;have:=hI y hy;exact⟨by omega,by omega⟩
 ·refine rgT_in (fun r hr1 x hx=>?_) _;obtain⟨p,hp,rfl⟩:=List.mem_map.1 hr1;obtain⟨k,hk,rfl⟩:=List.mem_map.1 hx;exact sl_ok (slots_mem _ (regs_mem _ _ (regs_right h) p hp) k hk) ((hr.regs.2 p hp).2.2.2.2 k hk)
end C
end Go.Proofs.YtkhbiaaangnkdaaGreatDoor
