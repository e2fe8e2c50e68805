import Derived.Test.YtkhbiaaangnkdaaGreatDoorJ05
import Derived.Deep.AppendSrc
import Derived.Test.YtkhbiaaangnkdaaGreatDoorJ03
import Derived.Test.YtkhbiaaangnkdaaGreatDoorJ02
import Derived.Test.YtkhbiaaangnkdaaGreatDoorJ01
import Derived.Test.YtkhbiaaangnkdaaGreatDoorJTBase
import Derived.Test.YtkhbiaaangnkdaaGreatDoorChecked
import Derived.Maps.OwnSet
namespace Go.Proofs.YtkhbiaaangnkdaaGreatDoor
set_option maxRecDepth 100000
set_option maxHeartbeats 40000000
namespace F
open Go.RowKit
open T
def NIn (B:Nat)(w:World)(a:Option Addr)(E:List Int):Prop:=∀i (h:i<E.length),∃b off:Nat,a=some ⟨b,off,none⟩∧b<B∧b<w.heap.size∧w.cell? ⟨b,off+i,none⟩=some (.int .i64 E[i])
theorem NIn.below {B:Nat}{w w1:World}{a:Option Addr}{E:List Int}(h:NIn B w a E)(hb:Below B w w1):NIn B w1 a E:=fun i hi=>by
 obtain⟨b,off,ha,h1,h2,h3⟩:=h i hi;exact⟨b,off,ha,h1,Nat.lt_of_lt_of_le h2 hb.size,(hb.cell (p:=⟨b,_,none⟩) h1).trans h3⟩
theorem NIn.mono {B B':Nat}{w:World}{a:Option Addr}{E:List Int}(h:NIn B w a E)(hb:B≤B'):NIn B' w a E:=fun i hi=>by
 obtain⟨b,off,ha,h1,h2,h3⟩:=h i hi;exact⟨b,off,ha,Nat.lt_of_lt_of_le h1 hb,h2,h3⟩
def NilOk (a:Option Addr)(n c:Nat):Prop:=a=none→n=0∧c=0
theorem wpList_append_nums {ops:Array Oper}{rest:List Oper}{o:Oper}{a:Act}{Q:Exit→Act→World→Prop}{w:World}(hgd:o.guard=none)(s x:Operand)
 (ho:o.op=.call {callee:=.builtin .append,args:=#[s,x],argTypes:=#[22,22]})
 (base:Nat)(v:Value)(L M:List Int)(hs:a.eval s=v)(hL:IOwn w base v L)
 (ad:Addr)(c:Nat)(hx:a.eval x=.slice (some ad) M.length c)(B:Nat)(hM:NIn B w (some ad) M)(hlen:L.length+M.length≤8000000)(hbase:base≤w.heap.size)
 (h:∀v' w',IOwn w' base v' (L++M)→w.grownBy w' v.ownBlock→(v'.ownBlock=v.ownBlock∨v'.ownBlock=some w.heap.size)→wpList Tryz.prog ops Q rest (a.put o.dst v') w'):
 wpList Tryz.prog ops Q (o::rest) a w:=by
 obtain⟨i0,hi,hz0,hz1,hz2⟩:=info_parts' (t:=3) (z:=.int .i64 0) (s:=1) (b:=8) (by kernel_rfl);refine wpList_append_own_at _ hgd s x 22 ho base 3 i0 (.int .i64 0) 1 8 Tryz.underlying22 hi hz0 hz1 hz2 rfl (by decide)
  v L.length (L.map (Value.int .i64)) hs hL ad M.length c (M.map (Value.int .i64)) hx (by simp) (fun j u hj=>?_) (fun u hu=>?_) (by unfold maxLen;omega) (by omega) hbase ?_
 ·have hjl:j<M.length:=by
   have:=(List.getElem?_eq_some_iff.1 hj).1;simpa using this
  obtain⟨b,off,e,_,_,hc⟩:=hM j hjl
  cases e
  rw[addr_add,hc,←hj];simp[hjl]
 ·obtain⟨y,_,rfl⟩:=List.mem_map.1 hu
  rfl
 ·intro v' w' h1 h2 _ h4;refine h v' w' ?_ h2 h4;unfold IOwn;rw[List.length_append,List.map_append];exact h1
theorem eql_some (ad:Addr)(n c:Nat)(W:World):(binOp .eql 22 (.slice (some ad) n c) (.slice none 0 0)).run Tryz.prog W=.ok (.bool false) W:=rfl
theorem eql_none (n c:Nat)(W:World):(binOp .eql 22 (.slice none n c) (.slice none 0 0)).run Tryz.prog W=.ok (.bool true) W:=rfl
theorem clone_any (a:Option Addr)(c:Nat)(E:List Int)(w:World)(hE:NIn w.heap.size w a E)(hn:NilOk a E.length c)(hl:E.length≤4000000):
 Calls Tryz.prog 118 #[.slice a E.length c] w fun e w'=>∃v,e=.returned v∧IOwn w' w.heap.size v E∧Below w.heap.size w w':=by
 cases a with
 |none=>
  obtain⟨h0,rfl⟩:=hn rfl;have e0:E=[]:=List.length_eq_zero_iff.1 h0;subst e0;have eq0:=eql_none 0 0;simp only[List.length_nil];clear hE hn;go_enter Tryz.func118,Tryz.ntmps118;go_wp2_with fail;go_ret;exact⟨_,rfl,⟨rfl,.inl ⟨rfl,rfl⟩⟩,Below.refl _ _⟩
 |some ad=>
  have eq0:=eql_some ad E.length c;have hO:IOwn (w.alloc (.cells #[] 3)) w.heap.size (.slice (some ⟨w.heap.size,0,none⟩) 0 0) []:=⟨rfl,.inr ⟨w.heap.size,0,#[],rfl,Nat.le_refl _,(MapKept.heap_alloc w _).1,Nat.le_refl _,by simp[maxLen],rfl,rfl⟩⟩;have hM:NIn w.heap.size (w.alloc (.cells #[] 3)) (some ad) E:=hE.below (by(repeat(first|assumption|with_reducible exact Below.refl _ _|with_reducible refine Below.alloc ?_ (by simp<;>omega) _|with_reducible refine Below.setCell ?_ (by simp<;>omega) _|with_reducible refine Below.drew ?_)));replace hE:=Hid.mk hE;replace hO:=Hid.mk hO;replace hM:=Hid.mk hM;clear hn;go_enter Tryz.func118,Tryz.ntmps118;go_wp2_with(at_builtin;refine wpList_append_nums rfl (.tmp 5) (.tmp 6) rfl w.heap.size (.slice (some ⟨w.heap.size,0,none⟩) 0 0) [] E rfl hO.out ad c rfl w.heap.size hM.out (by simp;omega) (by simp) ?_);intro v' w' g1 g2 g3;replace g1:=Hid.mk g1;have g4:Hid (Below w.heap.size w w'):=Hid.mk (Below.trans (((Below.refl _ w).alloc (Nat.le_refl _) _)) (Below.of_grown g2 (by simp) (fun k r=>by simp[Value.ownBlock]at r;omega)))
  clear g2 g3;go_wp2_with fail;go_ret;exact⟨_,rfl,by simpa using g1.out,g4.out⟩
structure Ot (L:List Ins)(E:List Int)(out:Int)(s:Nat→Bool)(W:List Int):Prop where
 ent:∀e∈E,thB L.length e=true→s e.toNat=true∨e∈W
 clo:∀p q,s p=true→(p:Int)≠out→folB L p q=true→s q=true∨(q:Int)∈W
 snd:∀q,q<L.length→s q=true→Rch L E out q∨(q:Int)=out
 snw:∀d∈W,thB L.length d=true→d≠out→Rch L E out d.toNat
 out:thB L.length out=true→s out.toNat=true
 len:W.length+(L.length - cnt L.length s)≤E.length+L.length
theorem Ot.start (L:List Ins)(E:List Int)(out:Int):Ot L E out (adS (fun _=>false) out) E:=by
 refine⟨fun e he _=>.inr he,fun p q h1 h2 _=>?_,fun q _ h=>?_,fun d hd h1 h2=>?_,fun h=>?_,by omega⟩
 ·simp[adS]at h1;exact absurd h1 h2
 ·simp[adS]at h;exact .inr h
 ·obtain⟨n,rfl,hn⟩:=thB_elim h1;exact Rch.base hd (by simpa using hn) h2
 ·obtain⟨n,rfl,hn⟩:=thB_elim h;simp[adS]
theorem Ot.step {L:List Ins}{E W D:List Int}{out pc:Int}{s s1:Nat→Bool}(h:Ot L E out s (W++[pc]))(f:Wf L out 0 s pc s1 D):Ot L E out s1 (W++D):=by
 have hpc:thB L.length pc=true→pc≠out→Rch L E out pc.toNat:=h.snw pc (by simp);obtain⟨g1,g2⟩:=f.snd (Rch L E out) (fun p q a b c=>Rch.step a b c) hpc;refine⟨fun e he ht=>?_,fun p q h1 h2 h3=>?_,fun q hq h1=>?_,fun d hd=>?_,fun ht=>?_,?_⟩
 ·obtain⟨n,rfl,hn⟩:=thB_elim ht;rcases h.ent _ he ht with r|r
  ·exact .inl (f.mono _ (by simpa using hn) r)
  ·rcases List.mem_append.1 r with r|r
   ·exact .inr (by simp[r])
   ·rw[List.mem_singleton]at r;rw[←r]at f;rcases f.cov ht with t|t
    ·exact .inl t
    ·exact .inr (by simp[t])
 ·cases e:s p with
  |true=>
   rcases h.clo p q e h2 h3 with r|r
   ·exact .inl (f.mono _ (folB_lt h3) r)
   ·rcases List.mem_append.1 r with r|r
    ·exact .inr (by simp[r])
    ·rw[List.mem_singleton]at r;have:=f.cov (by rw[←r,thB_nat];exact folB_lt h3);rw[←r]at this;rcases this with t|t
     ·exact .inl (by simpa using t)
     ·exact .inr (by simp[t])
  |false=>
   rcases f.clo p q h1 e h3 with r|r
   ·exact .inl r
   ·exact .inr (by simp[r])
 ·rcases g1 q hq h1 with r|r
  ·exact h.snd q hq r
  ·exact .inl r
 ·rcases List.mem_append.1 hd with r|r
  ·exact h.snw d (by simp[r])
  ·exact g2 d r
 ·obtain⟨n,rfl,hn⟩:=thB_elim ht;exact f.mono _ (by simpa using hn) (h.out ht)
 ·have h1:=h.len;have h2:=f.ct;have h3:=cnt_le L.length s1;simp only[List.length_append,List.length_singleton]at h1 ⊢;omega
theorem Ot.stop {L:List Ins}{E:List Int}{out:Int}{s:Nat→Bool}(h:Ot L E out s []):∀q,q<L.length→(s q=true↔Rch L E out q∨(q:Int)=out):=by
 intro q hq;refine⟨h.snd q hq,fun r=>?_⟩;rcases r with r|r
 ·clear hq
  induction r with
  |base h1 h2 h3=>
   rcases h.ent _ h1 (thB_nat.2 h2)with r|r
   ·simpa using r
   ·simp at r
  |step h1 h2 h3 ih=>
   rcases h.clo _ _ ih h1.ne h2 with r|r
   ·exact r
   ·simp at r
 ·have:=h.out (by rw[←r,thB_nat];exact hq);rw[←r]at this;simpa using this
theorem CS.pop {p:CP}{L:List Ins}{w:World}{v:Value}{s:Nat→Bool}{W:List Int}{y:Int}(h:CS p L w v s (W++[y])):
 ∃g cap,v=.slice (some ⟨g,0,none⟩) (W.length+1) cap∧W.length+1≤cap∧g<w.heap.size∧g≠p.bw∧w.cell? ⟨g,W.length,none⟩=some (.int .i64 y)∧CS p L (w.setCell ⟨p.bw,0,none⟩ (.slice (some ⟨g,0,none⟩) W.length cap)) (.slice (some ⟨g,0,none⟩) W.length cap) s W∧Below p.lo w (w.setCell ⟨p.bw,0,none⟩ (.slice (some ⟨g,0,none⟩) W.length cap)):=by
 have hr:=h.row;have e:(W++[y]).length=W.length+1:=by simp
 rcases hr.2 with⟨_,h0⟩|⟨g,cap,cur,rfl,hbg,hh,h1,h2,h3,h4⟩
 ·simp at h0
 ·have hgl:g<w.heap.size:=(Array.getElem?_eq_some_iff.1 hh).1;have hgn:=h.nv g rfl;have hs:Kp (fun k=>k=p.bw) w (w.setCell ⟨p.bw,0,none⟩ (.slice (some ⟨g,0,none⟩) W.length cap)):=Kp.set (S:=fun k=>k=p.bw) w _ _ rfl;have hB:Below p.lo w (w.setCell ⟨p.bw,0,none⟩ (.slice (some ⟨g,0,none⟩) W.length cap)):=(Below.refl _ _).setCell h.lo.2.1 _;obtain⟨n1,n2,n3,n4,n5,n6,n7⟩:=h.ne;have hc:=World.ownsRow.cells hr (g:=g) rfl W.length (.int .i64 y) (by simp);rw[addr_add,Nat.zero_add]at hc;refine⟨g,cap,by rw[e],by omega,hgl,hgn.1,hc,⟨?_,?_,at_kp h.is_ hs (fun r=>n1 r.symm),at_kp h.ic hs (fun r=>n2 r.symm),at_kp h.ik hs (fun r=>n3 r.symm),sin_kp h.st hs (fun r=>n4 r.symm),h.co.below hB,h.ne,?_,h.lo.1,h.lo.2.1,by simpa using h.lo.2.2⟩,hB⟩
  ·have:=h.iw.set 0 (.slice (some ⟨g,0,none⟩) W.length cap) (by simp);simpa using this
  ·have hrow:IOwn w p.lo (.slice (some ⟨g,0,none⟩) W.length cap) W:=by
    refine⟨by simp,.inr ⟨g,cap,cur,rfl,hbg,hh,by omega,h2,h3,?_⟩⟩;have:=congrArg (List.take W.length) h4;rw[List.take_take,e]at this;rw[show min W.length ((W.length+1)*1)=W.length*1 by omega]at this;rw[this];simp
   exact own_kp hrow hs (fun k r=>by
    have:g=k:=by simpa [Value.ownBlock]using r
    rw[←this];exact hgn.1)
  ·intro k r;have:g=k:=by simpa [Value.ownBlock]using r
   rw[←this];exact hgn
theorem CS.nil {p:CP}{L:List Ins}{w:World}{v:Value}{s:Nat→Bool}(h:CS p L w v s []):∃a cap,v=.slice a 0 cap:=by
 rcases h.row.2 with⟨rfl,h0⟩|⟨g,cap,cur,rfl,_⟩
 ·exact⟨none,0,rfl⟩
 ·exact⟨_,cap,rfl⟩
def lenAt (w:World)(k:Nat):Nat:=match w.cell? ⟨k,0,none⟩with|some (.slice _ n _)=>n|_=>0
end F
open Go.ChangeShapes Go.WideShapes Go.ChangeAt Go.RowKit Go.Deep
theorem no_spot1 {W:World}{a:Addr}{v0:Value}(h:W.cells? 0 (a.add (0*1)) 1=some [v0]):a.spot=none:=by
 obtain⟨_,_,hc⟩:=World.cells?_some h;have c0:=hc 0 (by omega);simp only[Nat.zero_mul,Addr.add,if_true]at c0;exact World.cell?_spot (c0.trans rfl)
theorem one_cell {W:World}{a:Addr}{i:Nat}{v0:Value}(hs:a.spot=none)(h:W.cells? 0 (a.add (i*1)) 1=some [v0]):
 ∃b off,a=⟨b,off,none⟩∧b<W.heap.size∧W.cell? ⟨b,off+i,none⟩=some v0:=by
 obtain⟨_,_,hc⟩:=World.cells?_some h;have c0:=hc 0 (by omega);obtain⟨b,off,spot⟩:=a;obtain rfl:spot=none:=hs;rw[addr_add,addr_add,Nat.mul_one,Nat.add_zero]at c0;have hlt:=World.block_lt_of_cell? W _ (c0.trans rfl);exact⟨b,off,rfl,hlt,c0⟩
theorem open_numsS {H:Type}{enc:TypeId×Value→H}{W:World}{spare:Nat→Bool}{held:Bool}{a:Option Addr}{len cap:Nat}{d:DataW H}{ps:List MemPlace}
 (h:DataW.Trod enc Tryz.prog W 0 spare held 22 (.slice a len cap) d ps):∃E:List Int,E.length=len∧F.NIn W.heap.size W a E∧∀x∈E, -9223372036854775808≤x∧x<9223372036854775808:=by
 obtain⟨fuel,hf⟩:=h;have k1:Tryz.prog.cellsOf 3=1:=by kernel_rfl
 rcases open_slice Tryz.underlying22 hf with⟨hcs,hx⟩|⟨x,l,c,m,n,D,Pl,hcs,_,hl,hm,hmm,hx2,hx⟩
 ·simp[Value.cells]at hcs;obtain⟨rfl,rfl,rfl⟩:=hcs;exact⟨[],rfl,fun i hi=>by simp at hi,fun x hx=>by cases hx⟩
 ·simp[Value.cells]at hcs;obtain⟨rfl,rfl,rfl⟩:=hcs;have hlm:len≤m:=by rw[hmm];split<;>omega
  have hk:∀i,i<len→∃k:Int,W.cells? 0 (x.add (i*1)) 1=some [.int .i64 k]∧ -9223372036854775808≤k∧k<9223372036854775808:=fun i hi=>by
   obtain⟨cs',e1,e2⟩:=hx i (by omega);obtain⟨p,rfl,_,w⟩:=DataW.trod_int Tryz.underlying3 e2;rw[k1]at e1;exact⟨p,e1,bd_i64 w⟩
  obtain⟨E,hE,hp⟩:=choose_list _ _ hk;refine⟨E,hE,fun i hi=>?_,fun y hy=>?_⟩
  ·have hs:x.spot=none:=no_spot1 (hp 0 (by omega)).1;obtain⟨b,off,rfl,hb,h1⟩:=one_cell hs (hp i hi).1;exact⟨b,off,rfl,hb,hb,h1⟩
  ·obtain⟨i,hi,rfl⟩:=List.mem_iff_getElem.1 hy;exact(hp i hi).2
namespace Bd
open Go.RowKit
section
variable {α:Type}
def allV:List (Option α)→Option (List α)
 |[]=>some []
 |none::_=>none
 |some a::l=>(allV l).map (a::·)
def evF (nx:Nat→List Nat)(f:Nat→List α→Option α):Nat→Nat→Option α
 |0,_=>none
 |k+1,n=>(allV ((nx n).map (evF nx f k))).bind (f n)
theorem allV_get {l:List (Option α)}{vs:List α}(h:allV l=some vs):l=vs.map some:=by
 induction l generalizing vs with
 |nil=>cases h;rfl
 |cons a l ih=>
  cases a with
  |none=>cases h
  |some a=>
   simp only[allV,Option.map_eq_some_iff]at h;obtain⟨ws,h1,rfl⟩:=h;rw[ih h1];rfl
theorem allV_of (vs:List α):allV (vs.map some)=some vs:=by
 induction vs with
 |nil=>rfl
 |cons a l ih=>simp[allV,ih]
theorem allV_none {l:List (Option α)}(h:none∈l):allV l=none:=by
 cases hq:allV l with
 |none=>rfl
 |some vs=>rw[allV_get hq]at h;simp at h
variable (nx:Nat→List Nat) (f:Nat→List α→Option α)
theorem evF_mono (k:Nat):∀n v,evF nx f k n=some v→evF nx f (k+1) n=some v:=by
 induction k with
 |zero=>intro n v h;cases h
 |succ k ih=>
  intro n v h;rw[evF,Option.bind_eq_some_iff]at h;obtain⟨vs,h1,h2⟩:=h;rw[evF,Option.bind_eq_some_iff];refine⟨vs,?_,h2⟩;have e:=allV_get h1;have:(nx n).map (evF nx f (k+1))=vs.map some:=by
   rw[←e];refine List.map_congr_left fun x hx=>?_
   have hm:evF nx f k x∈(nx n).map (evF nx f k):=List.mem_map_of_mem hx;rw[e]at hm;obtain⟨y,_,hy⟩:=List.mem_map.1 hm;rw[←hy];exact ih x y hy.symm
  rw[this];exact allV_of vs
theorem evF_le {k j:Nat}(h:k≤j){n:Nat}{v:α}(hv:evF nx f k n=some v):evF nx f j n=some v:=by
 obtain⟨d,rfl⟩:∃d,j=k+d:=⟨j - k,by omega⟩;clear h
 induction d with
 |zero=>exact hv
 |succ d ih=>exact evF_mono nx f _ _ _ ih
theorem filter_lt {p q:Nat→Bool}:∀(U:List Nat),(∀x∈U,p x=true→q x=true)→(∃x∈U,q x=true∧p x=false)→(U.filter p).length<(U.filter q).length:=by
 intro U
 induction U with
 |nil=>rintro _ ⟨x,hx,_⟩;cases hx
 |cons a U ih=>
  intro h1 h2;have hle:∀(U:List Nat),(∀x∈U,p x=true→q x=true)→(U.filter p).length≤(U.filter q).length:=by
   intro U
   induction U with
   |nil=>intro _;exact Nat.le_refl _
   |cons b U ih2=>
    intro h;have h3:=ih2 (fun x hx=>h x (by simp[hx]));have h4:=h b (by simp);rw[List.filter_cons,List.filter_cons]
    cases hp:p b with
    |true=>simp[h4 hp];exact h3
    |false=>cases q b<;>simp<;>omega
  have h3:=hle U (fun x hx=>h1 x (by simp[hx]));have h4:=h1 a (by simp);rw[List.filter_cons,List.filter_cons]
  cases hp:p a with
  |true=>
   have h5:(U.filter p).length<(U.filter q).length:=ih (fun x hx=>h1 x (by simp[hx])) (by
    obtain⟨x,hx,y1,y2⟩:=h2;rcases List.mem_cons.1 hx with rfl|hx
    ·rw[hp]at y2;cases y2
    ·exact⟨x,hx,y1,y2⟩)
   simp[h4 hp];exact h5
  |false=>
   cases hq:q a with
   |true=>simp;omega
   |false=>
    have h5:(U.filter p).length<(U.filter q).length:=ih (fun x hx=>h1 x (by simp[hx])) (by
     obtain⟨x,hx,y1,y2⟩:=h2;rcases List.mem_cons.1 hx with rfl|hx
     ·rw[hq]at y1;cases y1
     ·exact⟨x,hx,y1,y2⟩)
    simp;exact h5
def ev (U:List Nat)(n:Nat):Option α:=evF nx f U.length n
variable {nx f} {U:List Nat} (hU:∀n∈U,∀c∈nx n,c∈U)
include hU
theorem ev_same {k:Nat}(h:∀x∈U,evF nx f (k+1) x=evF nx f k x):∀d,∀x∈U,evF nx f (k+d) x=evF nx f k x:=by
 have hs:∀d,∀x∈U,evF nx f (k+d+1) x=evF nx f (k+d) x:=by
  intro d
  induction d with
  |zero=>exact h
  |succ d ih=>
   intro x hx;rw[show k+(d+1)+1=(k+d+1)+1 by omega,evF,show k+(d+1)=(k+d)+1 by omega]
   conv=>rhs;rw[evF]
   rw[List.map_congr_left (fun c hc=>ih c (hU x hx c hc))]
 intro d
 induction d with
 |zero=>intro x _;rfl
 |succ d ih=>intro x hx;rw[show k+(d+1)=k+d+1 by omega,hs d x hx,ih x hx]
theorem ev_grows (k:Nat):(∀x∈U,evF nx f (k+1) x=evF nx f k x)∨k+1≤(U.filter (fun x=>(evF nx f (k+1) x).isSome)).length:=by
 induction k with
 |zero=>
  by_cases hq:∃x∈U,(evF nx f 1 x).isSome=true
  ·refine .inr ?_;have:=filter_lt (p:=fun _=>false) (q:=fun x=>(evF nx f 1 x).isSome) U (fun _ _ h=>(by cases h)) (by obtain⟨x,h1,h2⟩:=hq;exact⟨x,h1,h2,rfl⟩);exact Nat.lt_of_le_of_lt (Nat.zero_le _) this
  ·refine .inl fun x hx=>?_
   have:¬(evF nx f 1 x).isSome=true:=fun h=>hq ⟨x,hx,h⟩
   rw[Bool.not_eq_true,Option.isSome_eq_false_iff,Option.isNone_iff_eq_none]at this;rw[this];rfl
 |succ k ih=>
  by_cases hq:∃x∈U,(evF nx f (k+1+1) x).isSome=true∧(evF nx f (k+1) x).isSome=false
  ·refine .inr ?_;have h1:=filter_lt (p:=fun x=>(evF nx f (k+1) x).isSome) (q:=fun x=>(evF nx f (k+1+1) x).isSome) U (fun x _ h=>by
    obtain⟨v,hv⟩:=Option.isSome_iff_exists.1 h;rw[evF_mono nx f _ _ _ hv];rfl) hq
   rcases ih with h2|h2
   ·exfalso
    obtain⟨x,hx,y1,y2⟩:=hq;have e:=ev_same hU h2 2 x hx;rw[show k+2=k+1+1 by omega]at e;rw[e,←h2 x hx,y2]at y1
    cases y1
   ·omega
  ·refine .inl fun x hx=>?_
   cases hv:evF nx f (k+1) x with
   |some v=>exact evF_mono nx f _ _ _ hv
   |none=>
    cases hw:evF nx f (k+1+1) x with
    |none=>rfl
    |some w=>exact absurd ⟨x,hx,by rw[hw];rfl,by rw[hv];rfl⟩ hq
theorem ev_stop:∀x∈U,evF nx f (U.length+1) x=evF nx f U.length x:=by
 rcases ev_grows (f:=f) hU U.length with h|h
 ·exact h
 ·have:=List.length_filter_le (fun x=>(evF nx f (U.length+1) x).isSome) U;omega
theorem ev_none {n c:Nat}(hn:n∈U)(hc:c∈nx n)(h:ev nx f U c=none):ev nx f U n=none:=by
 unfold ev at h ⊢;rw[←ev_stop hU n hn,evF,allV_none,Option.bind_none];exact List.mem_map.2 ⟨c,hc,h⟩
theorem ev_known {n:Nat}{vs:List α}(hn:n∈U)(h:(nx n).map (ev nx f U)=vs.map some):ev nx f U n=f n vs:=by
 unfold ev at h ⊢;rw[←ev_stop hU n hn,evF,h,allV_of]
 rfl
omit hU
def Anc (nx:Nat→List Nat)(f:Nat→List α→Option α)(p n:Nat):Prop:=∀k v,evF nx f k p=some v→∃j u,j<k∧evF nx f j n=some u
theorem anc_child {n c:Nat}(h:c∈nx n):Anc nx f n c:=by
 intro k v hv
 cases k with
 |zero=>cases hv
 |succ k=>
  rw[evF,Option.bind_eq_some_iff]at hv;obtain⟨vs,h1,_⟩:=hv;have hm:evF nx f k c∈(nx n).map (evF nx f k):=List.mem_map_of_mem h;rw[allV_get h1]at hm;obtain⟨y,_,hy⟩:=List.mem_map.1 hm;exact⟨k,y,by omega,hy.symm⟩
theorem Anc.trans {a b c:Nat}(h:Anc nx f a b)(g:Anc nx f b c):Anc nx f a c:=by
 intro k v hv;obtain⟨j,u,h1,h2⟩:=h k v hv;obtain⟨i,z,h3,h4⟩:=g j u h2;exact⟨i,z,by omega,h4⟩
theorem anc_self {n:Nat}(h:Anc nx f n n):∀k,evF nx f k n=none:=by
 intro k
 induction k using Nat.strongRecOn with
 |ind k ih=>
  cases hv:evF nx f k n with
  |none=>rfl
  |some v=>
   obtain⟨j,u,h1,h2⟩:=h k v hv;rw[ih j h1]at h2
   cases h2
structure Memo (nx:Nat→List Nat)(f:Nat→List α→Option α)(U:List Nat)(S:Nat→Prop)(M:Nat→Option (Option α)):Prop where
 kn:∀x v,M x=some (some v)→ev nx f U x=some v
 un:∀x,M x=some none→S x∨ev nx f U x=none
def setM (M:Nat→Option (Option α))(n:Nat)(e:Option α):Nat→Option (Option α):=fun x=>if x=n then some e else M x
theorem setM_self (M:Nat→Option (Option α))(n:Nat)(e:Option α):setM M n e n=some e:=if_pos rfl
theorem Memo.begin {S:Nat→Prop}{M:Nat→Option (Option α)}(h:Memo nx f U S M)(n:Nat):Memo nx f U (fun x=>S x∨x=n) (setM M n none):=by
 refine⟨fun x v q=>?_,fun x q=>?_⟩
 ·unfold setM at q
  split at q
  ·cases q
  ·exact h.kn x v q
 ·unfold setM at q
  split at q
  ·rename_i e;exact .inl (.inr e)
  ·rcases h.un x q with r|r
   ·exact .inl (.inl r)
   ·exact .inr r
theorem Memo.done {S:Nat→Prop}{M:Nat→Option (Option α)}{n:Nat}(h:Memo nx f U (fun x=>S x∨x=n) M)(e:Option α)(he:e=ev nx f U n):Memo nx f U S (setM M n e):=by
 refine⟨fun x v q=>?_,fun x q=>?_⟩
 ·unfold setM at q
  split at q
  ·rename_i e1;subst e1;injection q with q;rw[←he,q]
  ·exact h.kn x v q
 ·unfold setM at q
  split at q
  ·rename_i e1;subst e1;injection q with q;exact .inr (by rw[←he,q])
  ·rename_i e1
   rcases h.un x q with(r|r)|r
   ·exact .inl r
   ·exact absurd r e1
   ·exact .inr r
theorem Memo.at_ {S:Nat→Prop}{M:Nat→Option (Option α)}{n:Nat}{e:Option α}(h:Memo nx f U S M)(hS:∀p,S p→Anc nx f p n)(hM:M n=some e):e=ev nx f U n:=by
 cases e with
 |some v=>exact(h.kn n v hM).symm
 |none=>
  rcases h.un n hM with r|r
  ·exact(anc_self (hS n r) _).symm
  ·exact r.symm
def left (U:List Nat)(M:Nat→Option (Option α)):Nat:=(U.filter (fun x=>(M x).isNone)).length
def More (M M':Nat→Option (Option α)):Prop:=∀x,(M x).isSome=true→(M' x).isSome=true
theorem left_set {M:Nat→Option (Option α)}{n:Nat}(hn:n∈U)(h:M n=none)(e:Option α):left U (setM M n e)<left U M:=by
 refine filter_lt U (fun x _ q=>?_) ⟨n,hn,by rw[h];rfl,by rw[setM_self];rfl⟩;unfold setM at q
 split at q
 ·cases q
 ·exact q
theorem left_more {M M':Nat→Option (Option α)}(h:More M M'):left U M'≤left U M:=by
 unfold left
 induction U with
 |nil=>exact Nat.le_refl _
 |cons a U ih=>
  rw[List.filter_cons,List.filter_cons];have h1:=h a
  cases hm:M a with
  |some x=>
   have h2:(M' a).isSome=true:=h1 (by rw[hm];rfl);obtain⟨y,hy⟩:=Option.isSome_iff_exists.1 h2;simp only[hy,Option.isNone_some,Bool.false_eq_true,if_false];exact ih
  |none=>cases hm2:M' a<;>simp<;>omega
theorem More.refl (M:Nat→Option (Option α)):More M M:=fun _ h=>h
theorem More.trans {M M' M2:Nat→Option (Option α)}(h:More M M')(g:More M' M2):More M M2:=fun x q=>g x (h x q)
theorem More.set (M:Nat→Option (Option α))(n:Nat)(e:Option α):More M (setM M n e):=fun x q=>by
 unfold setM
 split
 ·rfl
 ·exact q
end
open T (Kp)
open Go.Maps (Keyed)
structure Hz (p:Prop):Prop where
 out:p
theorem ζ {p:Prop}(h:p):Hz p:=⟨h⟩
def tokR (v:Value):Option (DataW Value×List MemPlace):=some (.held v,[])
def ky (x:Nat):Lit:=.int .i64 x
structure MpIn {ε:Type}(w:World)(b n:Nat)(enc:ε→Value)(M:Nat→Option ε):Prop where
 go:∃D:DataW Value,w.ownsMap Tryz.prog 3 tokR b n D∧(∀x:Nat,Maps.has D (ky x)=(M x).isSome)∧∀(x:Nat) e z,M x=some e→D.atKey (ky x) z=.held (enc e)
section
variable {ε:Type} {w w':World} {b n:Nat} {enc:ε→Value} {M:Nat→Option ε}
theorem ky_ne {x y:Nat}(h:y≠x):ky y≠ky x:=by
 intro e;unfold ky at e;injection e with _ e
 omega
theorem ky_of {x:Nat}(h:x<4611686018427387904):keyOf Tryz.prog 3 (.int .i64 x)=some (ky x):=Maps.keyOf_int_mk (by kernel_rfl) (WalkArith.wf_i64 (by omega))
theorem ky_keyed:Keyed Tryz.prog 3:=Maps.int_keyed (q:=.i64) (by kernel_rfl)
theorem mp_made (w:World)(enc:ε→Value):MpIn (w.alloc (.map #[] 0)) w.heap.size 0 enc (fun _=>none):=
 ⟨_,World.ownsMap_made w Tryz.prog 3 tokR,fun _=>rfl,fun _ _ _ h=>(by cases h)⟩
theorem MpIn.lt (h:MpIn w b n enc M):b<w.heap.size:=by
 obtain⟨D,h1,_⟩:=h.go;exact h1.lt
theorem MpIn.block (h:MpIn w b n enc M)(hb:w'.heap[b]?=w.heap[b]?):MpIn w' b n enc M:=by
 obtain⟨D,⟨es,clock,h1,r⟩,h2⟩:=h.go;exact⟨D,⟨es,clock,hb.trans h1,r⟩,h2⟩
theorem MpIn.keep {S:Nat→Prop}(h:MpIn w b n enc M)(hk:Kp S w w')(hd:¬S b):MpIn w' b n enc M:=h.block (hk.block b h.lt hd)
theorem MpIn.below (h:MpIn w b n enc M)(hb:Below w.heap.size w w'):MpIn w' b n enc M:=h.block (hb.block b h.lt)
theorem MpIn.look (h:MpIn w b n enc M){t e:TypeId}(ht:Tryz.prog.underlying t=some (.map 3 e)){z:Value}(hz:(zeroValue e).run Tryz.prog w=.ok z w)(x:Nat)(hx:x<4611686018427387904):
 (Instr.lookup t (.map (some b)) (.int .i64 x) true).run Tryz.prog w=.ok (.tuple #[match M x with|some e=>enc e|none=>z,.bool (M x).isSome]) w:=by
 obtain⟨D,h1,h2,h3⟩:=h.go;obtain⟨v,ps,hr,hv⟩:=h1.look_ok ky_keyed ht hz (zd:=.held z) (zp:=[]) rfl (ky_of hx);rw[hr,h2];replace hv:DataW.held v=D.atKey (ky x) (.held z):=(Prod.mk.inj (Option.some.inj hv)).1
 cases hm:M x with
 |none=>
  have hh:=h2 x;rw[hm]at hh;rw[Maps.atKey_of_not_has hh]at hv;rw[DataW.held.inj hv]
 |some e=>
  rw[h3 x e _ hm]at hv;rw[DataW.held.inj hv]
theorem MpIn.put (h:MpIn w b n enc M){t e:TypeId}(ht:Tryz.prog.underlying t=some (.map 3 e))(hn:n<maxLen)(x:Nat)(hx:x<4611686018427387904)(y:ε):
 ∃w',(Instr.mapUpdate t (.map (some b)) (.int .i64 x) (enc y)).run Tryz.prog w=.ok () w'∧MpIn w' b (n+1) enc (fun q=>if q=x then some y else M q)∧Kp (fun k=>k=b) w w':=by
 obtain⟨D,h1,h2,h3⟩:=h.go;obtain⟨w',hr,h4,h5⟩:=h1.store (d:=.held (enc y)) (ps:=[]) ky_keyed ht hn (ky_of hx) rfl;have hg:=h5.grown;refine⟨w',hr,⟨_,h4,fun q=>?_,fun q e2 z hq=>?_⟩,⟨hg.os,hg.tape,hg.output,hg.size,fun k hk hn=>hg.block k hk (fun e=>hn (by injection e))⟩⟩
 ·by_cases e:q=x
  ·subst e;rw[if_pos rfl,Maps.has_put_same h1.isMap (by unfold ky;simp[WideAt.IsKeyLit])];rfl
  ·rw[if_neg e,Maps.has_put_other (ky_ne e),h2]
 ·by_cases e:q=x
  ·subst e;rw[if_pos rfl]at hq;have hq2:=Option.some.inj hq;subst hq2;exact Maps.atKey_put_same h1.isMap (by unfold ky;simp[WideAt.IsKeyLit]) _ _
  ·rw[if_neg e]at hq;rw[Maps.atKey_put_other (ky_ne e)];exact h3 q e2 z hq
end
end Bd
end Go.Proofs.YtkhbiaaangnkdaaGreatDoor
