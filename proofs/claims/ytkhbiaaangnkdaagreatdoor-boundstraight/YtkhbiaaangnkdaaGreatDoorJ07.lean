import Derived.Test.YtkhbiaaangnkdaaGreatDoorJ01
import Derived.Deep.MidRow
import Derived.Test.YtkhbiaaangnkdaaGreatDoorJ06
import Derived.Laws.EntriesVeiled
namespace Go.Proofs.YtkhbiaaangnkdaaGreatDoor
open Go.RowKit
def rowV {α:Type}(pre:List Value)(f:α→List Value)(L:List α):List Value:=pre++L.flatMap f
theorem flat_len {α:Type}{f:α→List Value}{k:Nat}(hf:∀x,(f x).length=k):∀L:List α,(L.flatMap f).length=L.length*k
 |[]=>by simp
 |x::L=>by rw[List.flatMap_cons,List.length_append,hf,flat_len hf L,List.length_cons,Nat.add_mul];omega
theorem flat_at' {α:Type}{f:α→List Value}{k:Nat}(hf:∀x,(f x).length=k):∀(L:List α) (i:Nat) (h:i<L.length) (j:Nat),j<k→(L.flatMap f)[i*k+j]?=(f L[i])[j]?
 |x::L,0,_,j,hj=>by
  rw[List.flatMap_cons,Nat.zero_mul,Nat.zero_add,List.getElem?_append_left (by rw[hf];exact hj)]
  rfl
 |x::L,i+1,h,j,hj=>by
  rw[List.flatMap_cons,List.getElem?_append_right (by rw[hf,Nat.add_mul];omega),hf,show(i+1)*k+j - k=i*k+j by rw[Nat.add_mul];omega];exact flat_at' hf L i (by simpa using h) j hj
theorem rowv_at {α:Type}{pre:List Value}{f:α→List Value}{k:Nat}(hf:∀x,(f x).length=k)(L:List α)(i:Nat)(h:i<L.length)(j:Nat)(hj:j<k):(rowV pre f L)[pre.length+i*k+j]?=(f L[i])[j]?:=by
 unfold rowV;rw[List.getElem?_append_right (by omega),show pre.length+i*k+j - pre.length=i*k+j by omega];exact flat_at' hf L i h j hj
theorem row_len {α:Type}{pre:List Value}{f:α→List Value}{k:Nat}(hf:∀x,(f x).length=k)(L:List α):(rowV pre f L).length=pre.length+L.length*k:=by
 unfold rowV;rw[List.length_append,flat_len hf]
theorem At.range {w:World}{b:Nat}{cs:List Value}(h:At w b cs.toArray):w.rangeAt b 0 cs:=fun j v q=>by
 rw[Nat.zero_add,h.2.1];simpa using q
theorem At.there {w:World}{b:Nat}{cs:List Value}(h:At w b cs.toArray)(o n:Nat)(hn:o+n≤cs.length):w.there b o n:=fun j hj=>by
 refine⟨?_,h.2.2 _⟩;rw[h.2.1,List.getElem?_toArray,List.getElem?_eq_getElem (by omega)]
 rfl
theorem setCells_size (b:Nat):∀(vs:List Value) (o:Nat) (w:World),(w.setCells b o vs).heap.size=w.heap.size
 |[],_,_=>rfl
 |v::r,o,w=>by rw[World.setCells,setCells_size b r];simp
theorem At.setRange {w:World}{b:Nat}{cs ds:List Value}(h:At w b cs.toArray)(o:Nat)(vs:List Value)(_hl:ds.length=cs.length)(ho:o+vs.length≤cs.length)
 (hin:∀j,j<vs.length→ds[o+j]?=vs[j]?)(hout:∀i,i<o∨o+vs.length≤i→ds[i]?=cs[i]?):At (w.setCells b o vs) b ds.toArray:=by
 refine⟨by rw[setCells_size];exact h.1,fun i=>?_,fun i=>by rw[World.frozen?_setCells];exact h.2.2 i⟩;rw[List.getElem?_toArray];by_cases q:o≤i∧i<o+vs.length
 ·have e:i=o+(i - o):=by omega
  rw[e,World.cell?_setCells_in b vs o w (fun j hj=>(h.there o vs.length ho j hj).1) (i - o) (by omega),hin _ (by omega),List.getElem?_eq_getElem (by omega)]
 ·rw[World.cell?_setCells_out b vs o w ⟨b,i,none⟩ (fun _ _=>by show i<o∨o+vs.length≤i;omega),h.2.1,List.getElem?_toArray,hout i (by omega)]
theorem At.setAll {w:World}{b:Nat}{cs:List Value}(h:At w b cs.toArray)(vs:List Value)(hl:vs.length=cs.length):At (w.setCells b 0 vs) b vs.toArray:=
 h.setRange 0 vs hl (by omega) (fun j _=>by rw[Nat.zero_add]) (fun i q=>by rw[List.getElem?_eq_none (by omega),List.getElem?_eq_none (by omega)])
theorem At.other {w:World}{b b':Nat}{cs:Array Value}(h:At w b cs)(hne:b≠b')(o:Nat)(vs:List Value):At (w.setCells b' o vs) b cs:=
 ⟨by rw[setCells_size];exact h.1,fun i=>by rw[World.cell?_setCells_out b' vs o w ⟨b,i,none⟩ (fun e _=>absurd e hne)];exact h.2.1 i,fun i=>by rw[World.frozen?_setCells];exact h.2.2 i⟩
theorem Gr.setCells {w W:World}(h:Gr w W)(b:Nat)(hb:w.heap.size≤b):∀(vs:List Value) (o:Nat),Gr w (W.setCells b o vs):=fun vs=>by
 induction vs generalizing W with
 |nil=>exact fun _=>h
 |cons v r ih=>exact fun o=>ih (h.setCell b o v hb) (o+1)
theorem At.setElem {α:Type}{pre:List Value}{f:α→List Value}{k:Nat}(hf:∀x,(f x).length=k){w:World}{b:Nat}{L:List α}(h:At w b (rowV pre f L).toArray)(i:Nat)(hi:i<L.length)(x:α)(o:Nat)(ho:o=pre.length+i*k):At (w.setCells b o (f x)) b (rowV pre f (L.set i x)).toArray:=by
 have e1:=row_len (pre:=pre) hf L;have e2:=row_len (pre:=pre) hf (L.set i x);rw[List.length_set]at e2;have hk:i*k+k≤L.length*k:=by
  have:(i+1)*k≤L.length*k:=Nat.mul_le_mul_right k hi;rw[Nat.add_mul]at this;omega
 refine h.setRange o (f x) (by omega) (by rw[hf];omega) (fun j hj=>?_) (fun n hn=>?_)
 ·rw[hf]at hj;rw[ho,rowv_at hf (L.set i x) i (by simpa using hi) j hj];simp
 ·rw[hf]at hn;by_cases q:n<pre.length
  ·unfold rowV;rw[List.getElem?_append_left q,List.getElem?_append_left q]
  ·by_cases q2:n<pre.length+L.length*k
   ·have hk0:0<k:=by
     rcases Nat.eq_zero_or_pos k with h0|h0
     ·subst h0;simp at q2;omega
     ·exact h0
    have en:n=pre.length+(n - pre.length)/k*k+(n - pre.length)%k:=by
     have:=Nat.div_add_mod (n - pre.length) k;rw[Nat.mul_comm]at this;omega
    have hd:(n - pre.length)/k<L.length:=by
     rw[Nat.div_lt_iff_lt_mul hk0];omega
    have hm:=Nat.mod_lt (n - pre.length) hk0;have hne:i≠(n - pre.length)/k:=by
     intro e;rw[←e]at en;omega
    rw[en,rowv_at hf (L.set i x) _ (by simpa using hd) _ hm,rowv_at hf L _ hd _ hm,List.getElem_set_ne hne]
   ·rw[List.getElem?_eq_none (by omega),List.getElem?_eq_none (by omega)]
namespace Bd
open T (Kp)
theorem drewNb (w:World)(n:Nat):Below w.heap.size w (w.drewN n):=by
 induction n with
 |zero=>exact Below.refl _ _
 |succ n ih=>exact Below.drew ih
structure Pl where
 kA:Nat
 kF:Nat
 kQ:Nat
 b:Nat
 fv:Value
 qf:Nat
def pv (k:Nat):Value:=.pointer (some ⟨k,0,none⟩)
def Pl.qv (p:Pl):Value:=.func (.func p.qf) #[] #[pv p.kA,pv p.kF,pv p.kQ]
structure Rem {ε:Type}(p:Pl)(enc:ε→Value)(w:World)(nn:Nat)(M:Nat→Option ε):Prop where
 a:At w p.kA #[.map (some p.b)]
 f:At w p.kF #[p.fv]
 q:At w p.kQ #[p.qv]
 m:MpIn w p.b nn enc M
theorem at_keep {S:Nat→Prop}{w w':World}{k:Nat}{cs:Array Value}(h:At w k cs)(hk:Kp S w w')(hn:¬S k):At w' k cs:=
 ⟨Nat.lt_of_lt_of_le h.1 hk.size,fun o=>by
  have hb:=hk.block k h.1 hn;rw[←h.2.1 o];simp only[World.cell?,hb],fun o=>by
  have hb:=hk.block k h.1 hn;rw[←h.2.2 o];simp only[World.frozen?,hb]⟩
theorem kp_sets (W:World)(k:Nat):∀(vs:List Value) (o:Nat),Kp (fun q=>q=k) W (W.setCells k o vs):=fun vs=>by
 induction vs generalizing W with
 |nil=>exact fun _=>Kp.refl _ _
 |cons v vs ih=>exact fun o=>(Kp.set (S:=fun q=>q=k) W ⟨k,o,none⟩ v rfl).trans (ih (W.setCell ⟨k,o,none⟩ v) (o+1)) (fun _ q=>.inl q)
theorem at_map {ε:Type}{w:World}{k b n:Nat}{v:Value}{enc:ε→Value}{M:Nat→Option ε}(h:At w k #[v])(g:MpIn w b n enc M):k≠b:=by
 rintro rfl;obtain⟨D,⟨es,clock,hb,_⟩,_⟩:=g.go;have:=h.2.1 0;simp[World.cell?,hb]at this
section
variable {ε:Type} {p:Pl} {enc:ε→Value} {w w':World} {nn nn':Nat} {M M':Nat→Option ε}
theorem Rem.turn (h:Rem p enc w nn M)(hk:Kp (fun k=>k=p.b) w w')(hm:MpIn w' p.b nn' enc M'):Rem p enc w' nn' M':=
 ⟨at_keep h.a hk (at_map h.a h.m),at_keep h.f hk (at_map h.f h.m),at_keep h.q hk (at_map h.q h.m),hm⟩
theorem Rem.below (h:Rem p enc w nn M)(hb:Below w.heap.size w w'):Rem p enc w' nn M:=
 ⟨at_keep h.a (Kp.of_below (S:=fun _=>False) hb) id,at_keep h.f (Kp.of_below (S:=fun _=>False) hb) id,at_keep h.q (Kp.of_below (S:=fun _=>False) hb) id,h.m.below hb⟩
theorem Rem.above {M0:Nat→Option ε}{n0:Nat}{w0:World}{S:Nat→Prop}(h:Rem p enc w nn M)(h0:Rem p enc w0 n0 M0)(hk:Kp S w w')(hS:∀k,S k→w0.heap.size≤k):Rem p enc w' nn M:=
 ⟨at_keep h.a hk (fun q=>Nat.not_lt.2 (hS _ q) h0.a.1),at_keep h.f hk (fun q=>Nat.not_lt.2 (hS _ q) h0.f.1),at_keep h.q hk (fun q=>Nat.not_lt.2 (hS _ q) h0.q.1),h.m.keep hk (fun q=>Nat.not_lt.2 (hS _ q) h0.m.lt)⟩
end
def Aft {α:Type}(p:Pl)(enc:Option α→Value)(nx:Nat→List Nat)(f:Nat→List α→Option α)(U:List Nat)(S:Nat→Prop)(M:Nat→Option (Option α))(nn:Nat)(w w':World):Prop:=
 ∃M' nn',Rem p enc w' nn' M'∧Memo nx f U S M'∧More M M'∧nn'+2*left U M'≤nn+2*left U M∧Kp (fun k=>k=p.b) w w'
section
variable {α:Type}
def AskC (E:World→Prop)(p:Pl)(enc:Option α→Value)(tup:Option α→Value)(nx:Nat→List Nat)(f:Nat→List α→Option α)(U:List Nat)(d:Nat):Prop:=
 ∀(w:World) (n:Nat) (S:Nat→Prop) (M:Nat→Option (Option α)) (nn:Nat),E w→Rem p enc w nn M→Memo nx f U S M→(∀q,S q→Anc nx f q n)→n∈U→left U M≤d→nn+2*left U M≤1000000→
  Calls Tryz.prog p.qf #[.int .i64 n,pv p.kA,pv p.kF,pv p.kQ] w fun r w'=>r=.returned (tup (ev nx f U n))∧Aft p enc nx f U S M nn w w'
def FindC (ff:Nat)(caps:Array Value)(E:World→Prop)(p:Pl)(enc:Option α→Value)(tup:Option α→Value)(nx:Nat→List Nat)(f:Nat→List α→Option α)(U:List Nat)(d:Nat):Prop:=
 ∀(w:World) (n:Nat) (S:Nat→Prop) (M:Nat→Option (Option α)) (nn:Nat),E w→Rem p enc w nn M→Memo nx f U (fun x=>S x∨x=n) M→(∀q,S q→Anc nx f q n)→n∈U→left U M≤d→nn+2*left U M≤1000000→
  Calls Tryz.prog ff (#[.int .i64 n,p.qv]++caps) w fun r w'=>r=.returned (tup (ev nx f U n))∧Aft p enc nx f U (fun x=>S x∨x=n) M nn w w'
end
theorem wpList_put {ε:Type}{w:World}{ops:Array Oper}{rest:List Oper}{o:Oper}{a:Act}{Q:Exit→Act→World→Prop}(hg:o.guard=none)(m x v:Operand)(t e:TypeId)(hop:o.op=Op.mapUpdate t m x v)(ht:Tryz.prog.underlying t=some (.map 3 e))
 (b n:Nat)(enc:ε→Value)(M:Nat→Option ε)(hm:a.eval m=.map (some b))(h:MpIn w b n enc M)(hn:n<maxLen)(k:Nat)(hk:k<4611686018427387904)(y:ε)(hx:a.eval x=.int .i64 k)(hv:a.eval v=enc y)
 (hK:∀w',MpIn w' b (n+1) enc (fun q=>if q=k then some y else M q)→Kp (fun k=>k=b) w w'→wpList Tryz.prog ops Q rest (a.put o.dst undef) w'):wpList Tryz.prog ops Q (o::rest) a w:=by
 refine wpList_plain hg fun K' hK'=>?_
 obtain⟨w',hrun,r1,r2⟩:=h.put ht hn k hk y;unfold Oper.wp;simp[execOp,hop,hm,hx,hv,hrun,Result.andThen];exact hK' _ _ (hK w' r1 r2)
end Bd
set_option maxRecDepth 100000
set_option maxHeartbeats 40000000
namespace F
open T
theorem own_slice {w:World}{b:Nat}{v:Value}{E:List Int}(h:IOwn w b v E):∃a cap,v=.slice a E.length cap:=by
 rcases h.2 with⟨rfl,h0⟩|⟨g,cap,cur,rfl,_⟩
 ·exact⟨none,0,by rw[h0]⟩
 ·exact⟨_,cap,rfl⟩
def comeP (h cc bw:Nat)(ca:Option Addr):CP:=⟨h+2,bw,h+4,h,bw+1,h+3,cc,ca⟩
theorem come_start {L:List Ins}{E:List Int}{cc:Nat}{ca:Option Addr}{w w1 w3 w4:World}{v:Value}{s:Nat→Bool}{t1 t2 t3 t4 t5:TypeId}{rb:Array Value}
 (hL:LIn w.heap.size w ca L)
 (a0:Below (w.heap.size+2) ((w.alloc (.cells #[.slice ca L.length cc] t1)).alloc (.cells rb t2)) w1)(a3:w1.heap.size=w.heap.size+4)
 (b1:SIn w3 (w.heap.size+3) L.length s)(b2:Kp (fun k=>k=w.heap.size+3) (w1.alloc (.cells #[.slice (some ⟨w.heap.size+3,0,none⟩) ((L.length+63)/64) ((L.length+63)/64),.int .i64 L.length] t3)) w3)
 (c1:IOwn w4 w3.heap.size v E)(c2:Below w3.heap.size w3 w4):
 CS (comeP w.heap.size cc w4.heap.size ca) L ((w4.alloc (.cells #[v] t4)).alloc (.cells #[(comeP w.heap.size cc w4.heap.size ca).fv] t5)) v s E∧Below w.heap.size w ((w4.alloc (.cells #[v] t4)).alloc (.cells #[(comeP w.heap.size cc w4.heap.size ca).fv] t5))∧At ((w4.alloc (.cells #[v] t4)).alloc (.cells #[(comeP w.heap.size cc w4.heap.size ca).fv] t5)) (w.heap.size+1) rb:=by
 have s3:=b2.size;rw[World.size_alloc,a3]at s3;have s4:=c2.size;generalize hsb:(Obj.cells #[.slice (some ⟨w.heap.size+3,0,none⟩) ((L.length+63)/64) ((L.length+63)/64),.int .i64 L.length] t3)=sb at*;have B1:Below (w.heap.size+2) w1 w3:=((Below.refl _ w1).alloc (by omega) sb).trans (b2.below (by rw[World.size_alloc];omega) (fun k q=>by omega));have B2:Below (w.heap.size+2) w1 w4:=B1.trans (c2.mono (by omega));have B3:Below (w.heap.size+2) ((w.alloc (.cells #[.slice ca L.length cc] t1)).alloc (.cells rb t2)) w4:=a0.trans B2;have B5:Below w4.heap.size w4 ((w4.alloc (.cells #[v] t4)).alloc (.cells #[(comeP w.heap.size cc w4.heap.size ca).fv] t5)):=((Below.refl _ w4).alloc (Nat.le_refl _) _).alloc (by rw[World.size_alloc];omega) _;have B6:=B3.trans (B5.mono (by omega));have ic:=at_below ((At.new w #[.slice ca L.length cc] t1).alloc (.cells rb t2)) B6 (by omega);have ir:=at_below (At.next w (.cells #[.slice ca L.length cc] t1) rb t2) B6 (by omega)
 have isn:At (w1.alloc sb) (w.heap.size+4) #[.slice (some ⟨w.heap.size+3,0,none⟩) ((L.length+63)/64) ((L.length+63)/64),.int .i64 L.length]:=by
  rw[←hsb];exact At.at_ w1 _ _ a3
 have is3:=at_below (at_below (at_kp isn b2 (by omega)) c2 (by omega)) B5 (by omega);have row:IOwn ((w4.alloc (.cells #[v] t4)).alloc (.cells #[(comeP w.heap.size cc w4.heap.size ca).fv] t5)) (w.heap.size+2) v E:=by
  have:=own_below c1 B5;refine⟨this.1,?_⟩;rcases this.2 with h2|⟨g,cap,cur,hv,hbg,rest⟩
  ·exact .inl h2
  ·exact .inr ⟨g,cap,cur,hv,by omega,rest⟩
 have BW:Below w.heap.size w ((w4.alloc (.cells #[v] t4)).alloc (.cells #[(comeP w.heap.size cc w4.heap.size ca).fv] t5)):=Below.trans (((Below.refl _ w).alloc (Nat.le_refl _) _).alloc (by rw[World.size_alloc];omega) _) (B6.mono (by omega));refine⟨⟨(At.new w4 #[v] t4).alloc _,row,is3,ic,At.next w4 _ _ _,(b1.below c2 (by omega)).below B5 (by omega),(hL.below BW).mono (by simp[comeP]),?_,?_,?_⟩,BW,ir⟩
 ·simp only[comeP];refine⟨?_,?_,?_,?_,?_,?_,?_⟩<;>omega
 ·intro g r;have h1:=World.ownsRow.lt c1 g r;simp only[comeP];refine⟨?_,?_,?_,?_,?_⟩<;>omega
 ·exact⟨by simp only[comeP];omega,by simp only[comeP];omega,by show w.heap.size+2≤_;have:=B5.size;omega⟩
def OI (p:CP)(L:List Ins)(E:List Int)(out:Int)(w wr:World):Prop:=Hid (∃v s W,CS p L wr v s W∧Ot L E out s W∧Below w.heap.size w wr∧At wr (w.heap.size+1) #[.slice none 0 0,.int .i64 0])
theorem comeTo_any (L:List Ins)(E:List Int)(cc ec:Nat)(ca ea:Option Addr)(out:Int)(w:World)(hL:LIn w.heap.size w ca L)(hE:NIn w.heap.size w ea E)(hnil:NilOk ea E.length ec)(hn:L.length<2000000)(he:E.length≤4000000):
 Calls Tryz.prog 75 #[.slice ca L.length cc,.slice ea E.length ec,.int .i64 out] w fun e w'=>∃X s,e=.returned (sv X L.length)∧SIn w' X L.length s∧w.heap.size≤X∧Below w.heap.size w w'∧∀q,q<L.length→(s q=true↔Rch L E out q∨(q:Int)=out):=by
 have hN:=newSet_any L.length ((w.alloc (.cells #[.slice ca L.length cc] 24)).alloc (.cells #[.slice none 0 0,.int .i64 0] 167)) hn;simp only[World.size_alloc,Nat.add_assoc]at hN;have hA:=fun W (q:SIn W (w.heap.size+3) L.length (fun _=>false))=>add_any (w.heap.size+3) L.length (fun _=>false) out W q hn
 have hCl:=fun W (q:Below w.heap.size w W)=>clone_any ea ec E W ((hE.below q).mono q.size) hnil he
 have hmf:∀(fn:Fn) (first cap:Array Value) (w:World),(Instr.makeFunc fn first cap).run Tryz.prog w=.ok (.func fn first cap) w:=fun _ _ _ _=>rfl
 unfold sv at*;replace hN:=Hid.mk hN;replace hA:=Hid.mk hA;replace hCl:=Hid.mk hCl;replace hL:=Hid.mk hL;replace hE:=Hid.mk hE;replace hnil:=Hid.mk hnil;go_enter Tryz.func75,Tryz.ntmps75;go_wp2_with(first|(go_at_call 116;refine hN.out.mono ?_;rintro x w1 ⟨rfl,a1,a2,a3⟩;replace a1:=Hid.mk a1;replace a2:=Hid.mk a2)|(go_at_call 117;refine(hA.out _ (a1.out.below ((Below.refl _ w1).alloc (Nat.le_refl _) _) (by omega))).mono ?_;rintro x w3 ⟨rfl,b1,b2⟩;have b3:Hid (Below w.heap.size w w3):=Hid.mk (Below.trans (((Below.refl _ w).alloc (Nat.le_refl _) _).alloc (by simp) _) ((a2.out.mono (by omega)).trans (Below.trans ((Below.refl _ w1).alloc (by omega) _) (b2.below (by simp;omega) (fun k q=>by omega)))));replace b1:=Hid.mk b1;replace b2:=Hid.mk b2)|(go_at_call 118;refine(hCl.out _ b3.out).mono ?_;rintro x w4 ⟨v,rfl,c1,c2⟩;obtain⟨va,vc,rfl⟩:=own_slice c1;replace c1:=Hid.mk c1;replace c2:=Hid.mk c2))
 obtain⟨d1,d2,d3⟩:=come_start (t1:=24) (t2:=167) (t3:=167) (t4:=22) (t5:=202) (rb:=#[.slice none 0 0,.int .i64 0]) hL.out a2.out a3 b1.out b2.out c1.out c2.out;have h0:OI (comeP w.heap.size cc w4.heap.size ca) L E out w ((w4.alloc (.cells #[.slice va E.length vc] 22)).alloc (.cells #[(comeP w.heap.size cc w4.heap.size ca).fv] 202)):=Hid.mk ⟨_,_,E,d1,Ot.start L E out,d2,d3⟩;clear d1 d2 d3 b3;simp only[comeP,CP.fv]at h0;generalize w4.heap.size=bw at*;go_loopw [10] (fun _ wr=>OI (comeP w.heap.size cc bw ca) L E out w wr) (fun _ wr=>2*(L.length - cnt L.length (setOf wr (w.heap.size+3)))+lenAt wr bw)
 case atStart=>exact h0
 case round=>
  clear h0;obtain⟨v1,s1,W,hC,hO,hB,hR⟩:=hrel.out;have hm:=cnt_set hC.st;obtain⟨z1,z2,z3,z4,z5⟩:=hC.boxes;rcases List.eq_nil_or_concat W with rfl|⟨W0,y,rfl⟩
  ·obtain⟨a0,cap,rfl⟩:=hC.nil;simp only[comeP,CP.fv]at z1 z2 z3 z4 z5;have hS:=Hid.mk hC.st;have r0:wr.cell? ⟨w.heap.size+1,0,none⟩=some (.slice none 0 0):=hR.2.1 0;have r1:wr.cell? ⟨w.heap.size+1,1,none⟩=some (.int .i64 0):=hR.2.1 1;have r2:=hR.2.2;have r3:=hR.1;have hstop:=Hid.mk hO.stop;replace hC:=Hid.mk hC;replace hO:=Hid.mk hO;replace hB:=Hid.mk hB;replace hR:=Hid.mk hR;clear hrel;go_wp2_with fail;have hF:∀a b,SIn ((wr.setCell ⟨w.heap.size+1,0,none⟩ a).setCell ⟨w.heap.size+1,1,none⟩ b) (w.heap.size+3) L.length s1∧Below w.heap.size w ((wr.setCell ⟨w.heap.size+1,0,none⟩ a).setCell ⟨w.heap.size+1,1,none⟩ b):=fun a b=>
    ⟨sin_kp (sin_kp hS.out (Kp.set (S:=fun k=>k=w.heap.size+1) wr _ a rfl) (by simp)) (Kp.set (S:=fun k=>k=w.heap.size+1) _ _ b rfl) (by simp),(hB.out.setCell (by simp) a).setCell (by simp) b⟩
   simp[bodyPost,results,Tryz.results75,go_sem,r0,r1];exact⟨s1,(hF _ _).1,(hF _ _).2,hstop.out⟩
  ·rw[List.concat_eq_append]at hC hO;obtain⟨g,cap,rfl,p1,p2,p3,p4,p5,p6⟩:=hC.pop;have hlw:lenAt wr bw=W0.length+1:=by
    have:wr.cell? ⟨bw,0,none⟩=_:=z1;simp[lenAt,this]
   simp only[comeP,CP.fv]at z1 z5;have hq:=walk_any (comeP w.heap.size cc bw ca) L out hn (L.length - cnt L.length s1) s1 W0 _ y 0 _ p5 hO.out (Nat.le_refl _) (by omega) (by have:=hO.len;simp at this;omega);simp only[comeP]at hq;have z5':(wr.setCell ⟨bw,0,none⟩ (.slice (some ⟨g,0,none⟩) W0.length cap)).cell? ⟨bw+1,0,none⟩=_:=p5.boxes.2.2.2.2;simp only[comeP,CP.fv]at z5';have hfr:wr.frozen? ⟨bw,0,none⟩=false:=hC.iw.2.2 0;have hWl:W0.length<8000000:=by have:=hO.len;simp at this;omega
   have hp1:(W0.length:Int)+1≤cap:=by omega
   have hc2:¬(cap:Int)<W0.length:=by omega
   have hstep:=fun s' D (q:Wf L out 0 s1 y s' D)=>hO.step q
   replace hq:=Hid.mk hq;replace hC:=Hid.mk hC;replace hO:=Hid.mk hO;replace hB:=Hid.mk hB;replace hR:=Hid.mk hR;replace p5:=Hid.mk p5;replace p6:=Hid.mk p6;replace hstep:=Hid.mk hstep;clear hrel z2 z3 z4 z5;go_wp2_with(go_at_call 119;refine hq.out.mono ?_;rintro x w6 ⟨rfl,v6,s6,D6,k1,k2,k3⟩);have hlo:w.heap.size+2≤bw:=hC.out.lo.2.1;have m1:cnt L.length (setOf w6 (w.heap.size+3))=cnt L.length s6:=cnt_set k1.st;have m2:cnt L.length (setOf wr (w.heap.size+3))=cnt L.length s1:=hm;have m3:=k2.ct;have m4:=cnt_le L.length s6;have m5:lenAt w6 bw=W0.length+D6.length:=by
    obtain⟨va6,vc6,e6⟩:=own_slice k1.row;have:w6.cell? ⟨bw,0,none⟩=some v6:=k1.boxes.1;rw[e6]at this;simp[lenAt,this]
   refine⟨Hid.mk ⟨v6,s6,W0++D6,k1,hstep.out s6 D6 k2,(hB.out.trans (p6.out.mono (by simp[comeP]))).trans (k3.mono (by omega)),at_below (hR.out.set_other _ (by omega)) k3 (by omega)⟩,?_⟩;rw[m1,m2,m5,hlw];simp at m3;omega
theorem less_any (x y:Int)(w:World):Calls Tryz.prog 179 #[.int .i64 x,.int .i64 y] w fun e w'=>e=.returned (.bool (decide (x<y)))∧w'=w:=by
 have hx:(x==x)=true:=by simp
 have hN:∀z W,Calls Tryz.prog 189 #[.int .i64 z] W fun e w'=>e=.returned (.bool false)∧w'=W:=by
  intro z W;go_enter Tryz.func189,Tryz.ntmps189;go_wp2_with fail;go_ret;exact⟨rfl,rfl⟩
 replace hN:=Hid.mk hN;go_enter Tryz.func179,Tryz.ntmps179;go_wp2_with(go_at_call 189;refine(hN.out _ _).mono ?_;rintro x w1 ⟨rfl,rfl⟩);go_ret;exact⟨rfl,rfl⟩
theorem len64_any (n:Nat)(w:World)(h:n≤2):Calls Tryz.prog 183 #[.int .u64 n] w fun e w'=>(∃k:Int,e=.returned (.int .i64 k))∧w'=w:=by
 obtain rfl|rfl|rfl:n=0∨n=1∨n=2:=by omega
 all_goals
  go_enter Tryz.func183,Tryz.ntmps183;go_wp2_with fail;go_ret;exact⟨⟨_,rfl⟩,rfl⟩
theorem len_any (n:Nat)(w:World)(h:n≤2):Calls Tryz.prog 171 #[.int .u64 n] w fun e w'=>(∃k:Int,e=.returned (.int .i64 k))∧w'=w:=by
 have hL:=len64_any n w h;replace hL:=Hid.mk hL;go_enter Tryz.func171,Tryz.ntmps171;go_wp2_with(go_at_call 183;refine hL.out.mono ?_;rintro x w1 ⟨⟨k,rfl⟩,rfl⟩);go_ret;exact⟨⟨_,rfl⟩,rfl⟩
def memB (E:List Int)(x:Int):Bool:=decide (x∈E)
theorem Index_any (a:Option Addr)(c:Nat)(E:List Int)(x:Int)(w:World)(hE:NIn w.heap.size w a E)(hl:E.length≤4000000):
 Calls Tryz.prog 169 #[.slice a E.length c,.int .i64 x] w fun e w'=>(∃k:Int,e=.returned (.int .i64 k)∧(decide (0≤k)=memB E x))∧w'=w:=by
 replace hE:=Hid.mk hE;go_enter Tryz.func169,Tryz.ntmps169;go_wp2_with fail;go_loopw [8] (fun i wr=>∃j:Nat,i=.int .i64 j∧j≤E.length∧wr=w∧Hid (∀k (hk:k<E.length),k<j→E[k]≠x)) (fun i _=>E.length - (intOf i).toNat)
 case atStart=>exact⟨0,rfl,by omega,rfl,Hid.mk (fun k hk h=>by omega)⟩
 case round=>
  obtain⟨j,rfl,hj,rfl,hI⟩:=hrel;by_cases hlt:j<E.length
  ·obtain⟨b,off,rfl,_,hb,hc⟩:=hE.out j hlt;have hi1:(j:Int)<E.length:=by omega
   by_cases he:x=E[j]
   ·have he':(x==E[j])=true:=by simpa using he
    have hans:decide ((0:Int)≤(j:Int))=memB E x:=by
     have:memB E x=true:=by rw[he];simp[memB]
     rw[this];simp
    replace he:=Hid.mk he;replace hans:=Hid.mk hans;go_wp2_with fail;go_ret;exact⟨⟨_,rfl,hans.out⟩,rfl⟩
   ·have he':(x==E[j])=false:=by simpa using he
    have hn:Hid (∀k (hk:k<E.length),k<j+1→E[k]≠x):=Hid.mk (fun k hk h=>by
     by_cases e:k=j
     ·subst e;exact fun r=>he r.symm
     ·exact hI.out k hk (by omega))
    replace he:=Hid.mk he;go_wp2_with fail;go_roundw
    all_goals first|exact⟨j+1,by simp,by omega,trivial,hn⟩|(simp only[intOf];omega)
  ·have hi1:¬(j:Int)<E.length:=by omega
   have hans:decide ((0:Int)≤ -1)=memB E x:=by
    have:¬x∈E:=fun r=>by
     obtain⟨k,hk,rfl⟩:=List.getElem_of_mem r;exact hI.out k hk (by omega) rfl
    have:memB E x=false:=by simpa [memB]using this
    rw[this];rfl
   replace hans:=Hid.mk hans;go_wp2_with fail;go_ret;exact⟨⟨_,rfl,hans.out⟩,rfl⟩
theorem Contains_any (a:Option Addr)(c:Nat)(E:List Int)(x:Int)(w:World)(hE:NIn w.heap.size w a E)(hl:E.length≤4000000):
 Calls Tryz.prog 156 #[.slice a E.length c,.int .i64 x] w fun e w'=>e=.returned (.bool (memB E x))∧w'=w:=by
 have hI:=Index_any a c E x w hE hl;replace hE:=Hid.mk hE;replace hI:=Hid.mk hI;go_enter Tryz.func156,Tryz.ntmps156;go_wp2_with(go_at_call 169;refine hI.out.mono ?_;rintro x w1 ⟨⟨k,rfl,hk⟩,rfl⟩;replace hk:=Hid.mk hk);go_ret;exact⟨by rw[←hk.out];rfl,rfl⟩
def srt:List Int→List Int
 |[x,y]=>if y<x then [y,x]else [x,y]
 |l=>l
theorem own_cell {w:World}{lo g cap n:Nat}{l:List Int}(h:IOwn w lo (.slice (some ⟨g,0,none⟩) n cap) l)(j:Nat)(hj:j<l.length):w.cell? ⟨g,j,none⟩=some (.int .i64 l[j]):=by
 have hc:=World.ownsRow.cells h (g:=g) rfl j (.int .i64 l[j]) (by simp[hj])
 rwa [addr_add,Nat.zero_add]at hc
theorem ins_few (a:Option Addr)(n c:Nat)(w:World)(hn:n≤1):Calls Tryz.prog 173 #[.slice a n c,.int .i64 0,.int .i64 n] w fun e w'=>e=.returned (.tuple #[])∧w'=w:=by
 have h1:¬(1:Int)<n:=by omega
 go_enter Tryz.func173,Tryz.ntmps173;go_wp2_with fail;refine wp_loop_rounds 1 ?_;rw[rounds_succ];go_wp2_with fail;go_end0;exact⟨rfl,rfl⟩
theorem ins_two (lo g cap:Nat)(x y:Int)(w:World)(h:IOwn w lo (.slice (some ⟨g,0,none⟩) 2 cap) [x,y]):Calls Tryz.prog 173 #[.slice (some ⟨g,0,none⟩) 2 cap,.int .i64 0,.int .i64 2] w fun e w'=>e=.returned (.tuple #[])∧IOwn w' lo (.slice (some ⟨g,0,none⟩) 2 cap) (srt [x,y])∧Kp (fun k=>k=g) w w':=by
 have c0:w.cell? ⟨g,0,none⟩=some (.int .i64 x):=own_cell h 0 (by simp);have c1:w.cell? ⟨g,1,none⟩=some (.int .i64 y):=own_cell h 1 (by simp);have fr:=World.ownsRow.frozenAt h;have hl:=fun W=>less_any y x W
 by_cases hyx:y<x
 ·have e:srt [x,y]=[y,x]:=by simp[srt,hyx]
  rw[e];have e2:decide (y<x)=true:=by simpa using hyx
  rw[e2]at hl;have hE:IOwn ((w.setCell ⟨g,1,none⟩ (.int .i64 x)).setCell ⟨g,0,none⟩ (.int .i64 y)) lo (.slice (some ⟨g,0,none⟩) 2 cap) [y,x]∧Kp (fun k=>k=g) w ((w.setCell ⟨g,1,none⟩ (.int .i64 x)).setCell ⟨g,0,none⟩ (.int .i64 y)):=
   ⟨(World.ownsRow.stored (World.ownsRow.stored h 1 (.int .i64 x)).1 0 (.int .i64 y)).1,(Kp.set (S:=fun k=>k=g) w _ _ rfl).trans (Kp.set (S:=fun k=>k=g) _ _ _ rfl) (fun k r=>.inl r)⟩
  replace h:=Hid.mk h;replace hl:=Hid.mk hl;replace hE:=Hid.mk hE;clear e e2 hyx;go_enter Tryz.func173,Tryz.ntmps173;go_wp2_with fail;refine wp_loop_rounds 2 ?_;rw[rounds_succ];go_wp2_with fail;refine wp_loop_rounds 2 ?_;rw[rounds_succ];go_wp2_with fail;refine wp_region_held_drew (S:=fun W=>W.cell? ⟨g,0,none⟩=some (.int .i64 x)∧W.cell? ⟨g,1,none⟩=some (.int .i64 y)) (by kernel_rfl) (by constructor<;>assumption) (fun hHeld=>?_);refine xz 0 rfl (h:=xz 1 rfl (h:=xz 2 rfl (h:=xz 3 rfl (h:=?_))));try simp only[xap]
  refine xz 4 rfl (h:=?_);try simp only[xap]
  refine xz 5 rfl (h:=?_);try simp only[xap]
  refine xz 6 rfl (h:=?_);try simp only[xap]
  refine xz 7 rfl (h:=?_);try simp only[xap]
  refine xz 8 rfl (h:=?_);try simp only[xap]
  refine xz 9 rfl (h:=?_);try simp only[xap]
  refine xz 10 rfl (h:=?_);try simp only[xap]
  refine xtk 11 (v:=.pointer (some ⟨g,0,none⟩)) rfl (Or.inl ⟨by rfl,?_⟩) ?_
  ·intro w hSw;(try dsimp only at hSw);first|(go_simp;done)|(go_simp;rfl)|rfl
  try simp only[xap]
  refine xz 12 rfl (h:=?_);try simp only[xap]
  refine xrd 13 rfl (fun K hK=>?_);go_simp;go_at_call 179;refine(hl.out _).mono ?_;rintro z w1 ⟨rfl,rfl⟩;refine hK.out _ _ (by assumption) (fun hHeld=>?_);clear hK K;try simp only[xap]
  refine xz 14 rfl (h:=?_);try simp only[xap]
  refine xdn ?_ _;clear hHeld;go_wp2_with fail;go_region_with (fail)
  all_goals
   go_wp2_with fail;rw[rounds_succ];go_wp2_with fail;refine wp_region_held_drew (S:=fun _=>True) (by kernel_rfl) trivial (fun hHeld=>?_);refine xz 0 rfl (h:=xz 1 rfl (h:=xz 2 rfl (h:=xz 3 rfl (h:=?_))));try simp only[xap]
   refine xtk 4 (v:=undef) rfl (Or.inr ⟨by rfl,rfl⟩) ?_;try simp only[xap]
   refine xtk 5 (v:=undef) rfl (Or.inr ⟨by rfl,rfl⟩) ?_;try simp only[xap]
   refine xtk 6 (v:=undef) rfl (Or.inr ⟨by rfl,rfl⟩) ?_;try simp only[xap]
   refine xtk 7 (v:=undef) rfl (Or.inr ⟨by rfl,rfl⟩) ?_;try simp only[xap]
   refine xtk 8 (v:=undef) rfl (Or.inr ⟨by rfl,rfl⟩) ?_;try simp only[xap]
   refine xtk 9 (v:=undef) rfl (Or.inr ⟨by rfl,rfl⟩) ?_;try simp only[xap]
   refine xtk 10 (v:=undef) rfl (Or.inr ⟨by rfl,rfl⟩) ?_;try simp only[xap]
   refine xtk 11 (v:=undef) rfl (Or.inr ⟨by rfl,rfl⟩) ?_;try simp only[xap]
   refine xtk 12 (v:=undef) rfl (Or.inr ⟨by rfl,rfl⟩) ?_;try simp only[xap]
   refine xtk 13 (v:=undef) rfl (Or.inr ⟨by rfl,rfl⟩) ?_;try simp only[xap]
   refine xz 14 rfl (h:=?_);try simp only[xap]
   refine xdn ?_ _;clear hHeld;go_wp2_with fail;rw[rounds_succ];go_wp2_with fail;go_end0;exact⟨rfl,hE.out.1,(((hE.out.2.trans (Kp.drew (fun _=>False) _) (fun _ r=>r.elim)).trans (Kp.drew (fun _=>False) _) (fun _ r=>r.elim)).trans (Kp.drew (fun _=>False) _) (fun _ r=>r.elim))⟩
 ·have e:srt [x,y]=[x,y]:=by simp[srt,hyx]
  rw[e];have e2:decide (y<x)=false:=by simpa using hyx
  rw[e2]at hl;replace h:=Hid.mk h;replace hl:=Hid.mk hl;clear e e2 hyx;go_enter Tryz.func173,Tryz.ntmps173;go_wp2_with fail;refine wp_loop_rounds 2 ?_;rw[rounds_succ];go_wp2_with fail;refine wp_loop_rounds 2 ?_;rw[rounds_succ];go_wp2_with fail;refine wp_region_held_drew (S:=fun W=>W.cell? ⟨g,0,none⟩=some (.int .i64 x)∧W.cell? ⟨g,1,none⟩=some (.int .i64 y)) (by kernel_rfl) (by constructor<;>assumption) (fun hHeld=>?_);refine xz 0 rfl (h:=xz 1 rfl (h:=xz 2 rfl (h:=xz 3 rfl (h:=?_))));try simp only[xap]
  refine xz 4 rfl (h:=?_);try simp only[xap]
  refine xz 5 rfl (h:=?_);try simp only[xap]
  refine xz 6 rfl (h:=?_);try simp only[xap]
  refine xz 7 rfl (h:=?_);try simp only[xap]
  refine xz 8 rfl (h:=?_);try simp only[xap]
  refine xz 9 rfl (h:=?_);try simp only[xap]
  refine xz 10 rfl (h:=?_);try simp only[xap]
  refine xtk 11 (v:=.pointer (some ⟨g,0,none⟩)) rfl (Or.inl ⟨by rfl,?_⟩) ?_
  ·intro w hSw;(try dsimp only at hSw);first|(go_simp;done)|(go_simp;rfl)|rfl
  try simp only[xap]
  refine xz 12 rfl (h:=?_);try simp only[xap]
  refine xrd 13 rfl (fun K hK=>?_);go_simp;go_at_call 179;refine(hl.out _).mono ?_;rintro z w1 ⟨rfl,rfl⟩;refine hK.out _ _ (by assumption) (fun hHeld=>?_);clear hK K;try simp only[xap]
  refine xz 14 rfl (h:=?_);try simp only[xap]
  refine xdn ?_ _;clear hHeld;go_wp2_with fail;rw[rounds_succ];go_wp2_with fail;go_end0;exact⟨rfl,h.out,Kp.drew _ _⟩
theorem Sort_any (lo:Nat)(v:Value)(l:List Int)(w:World)(hl:l.length≤2)(h:IOwn w lo v l):Calls Tryz.prog 157 #[v] w fun e w'=>e=.returned (.tuple #[])∧IOwn w' lo v (srt l)∧Kp (fun k=>v.ownBlock=some k) w w':=by
 obtain⟨a,cap,rfl⟩:=own_slice h;have hP:∀lim,Calls Tryz.prog 170 #[.slice a l.length cap,.int .i64 0,.int .i64 l.length,.int .i64 lim] w fun e w'=>e=.returned (.tuple #[])∧IOwn w' lo (.slice a l.length cap) (srt l)∧Kp (fun k=>(Value.slice a l.length cap).ownBlock=some k) w w':=by
  intro lim;have hI:Calls Tryz.prog 173 #[.slice a l.length cap,.int .i64 0,.int .i64 l.length] w fun e w'=>e=.returned (.tuple #[])∧IOwn w' lo (.slice a l.length cap) (srt l)∧Kp (fun k=>(Value.slice a l.length cap).ownBlock=some k) w w':=by
   match l,hl,h with
   |[],_,h=>
    refine(ins_few a 0 cap w (by omega)).mono ?_;rintro x w1 ⟨rfl,rfl⟩;exact⟨rfl,h,Kp.refl _ _⟩
   |[x],_,h=>
    refine(ins_few a 1 cap w (by omega)).mono ?_;rintro x w1 ⟨rfl,rfl⟩;exact⟨rfl,h,Kp.refl _ _⟩
   |[x,y],_,h=>
    obtain⟨g,rfl⟩:∃g,a=some ⟨g,0,none⟩:=by
     rcases h.2 with⟨h0,_⟩|⟨g,cap',cur,h0,_⟩
     ·cases h0
     ·exact⟨g,by injection h0⟩
    refine(ins_two lo g cap x y w h).mono ?_;rintro x w1 ⟨rfl,h1,h2⟩;refine⟨rfl,?_,h2.mono (fun k r=>.inl (by simp[Value.ownBlock,r]))⟩;exact h1
  have hl1:(l.length:Int)≤12:=by omega
  replace h:=Hid.mk h;replace hI:=Hid.mk hI;go_enter Tryz.func170,Tryz.ntmps170;go_wp2_with fail;refine wp_loop_rounds 1 ?_;rw[rounds_succ];go_wp2_with(go_at_call 173;refine hI.out.mono ?_;rintro x w1 ⟨rfl,h1,h2⟩;replace h1:=Hid.mk h1;replace h2:=Hid.mk h2);refine bodyPost_ret (results_none (by kernel_rfl) _ _ _) rfl ?_;exact⟨rfl,h1.out,h2.out⟩
 have hn:=len_any l.length w hl;have hw:IntKind.u64.wrap (l.length:Int)=l.length:=by rw[IntKind.wrap_u64];omega
 replace h:=Hid.mk h;replace hP:=Hid.mk hP;replace hn:=Hid.mk hn;go_enter Tryz.func157,Tryz.ntmps157;go_wp2_with(first|(go_at_call 171;refine hn.out.mono ?_;rintro x w1 ⟨⟨k,rfl⟩,rfl⟩)|(go_at_call 170;refine(hP.out _).mono ?_;rintro x w2 ⟨rfl,h1,h2⟩;replace h1:=Hid.mk h1;replace h2:=Hid.mk h2));go_end0;exact⟨rfl,h1.out,h2.out⟩
end F
end Go.Proofs.YtkhbiaaangnkdaaGreatDoor
