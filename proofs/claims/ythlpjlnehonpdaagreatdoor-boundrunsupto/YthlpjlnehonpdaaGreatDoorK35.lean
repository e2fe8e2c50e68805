import Derived.Test.YthlpjlnehonpdaaGreatDoorK05
import Derived.Test.YthlpjlnehonpdaaGreatDoorK34
import Derived.SizedLaws
import Derived.Test.YthlpjlnehonpdaaGreatDoorK01
import Derived.Test.YthlpjlnehonpdaaGreatDoorKTBase
import Derived.Test.YthlpjlnehonpdaaGreatDoorChecked
import Derived.Maps.OwnSet
import Derived.Test.YthlpjlnehonpdaaGreatDoorK04
import Derived.Laws.EntriesVeiled
import Derived.Test.YthlpjlnehonpdaaGreatDoorK02
import Derived.Deep.RegionHeld3
namespace Go.Proofs.YthlpjlnehonpdaaGreatDoor
set_option maxRecDepth 100000
set_option maxHeartbeats 40000000
namespace C
open Go.ChangeShapes Go.WideShapes Go.ChangeAt Go.RowKit Go.Deep
def Wd (n:Int):Prop:=0≤n∧n<18446744073709551616
theorem bdz_u64 {n:Int}(h:(Lit.int .u64 n).wf=true):Wd n:=by
 have:=bounds_u64 h;unfold Wd;omega
theorem bdz_i64 {n:Int}(h:(Lit.int .i64 n).wf=true): -9223372036854775808≤n∧n<9223372036854775808:=by
 have:=bounds_i64 h;omega
theorem bulkz_one {H:Type}(d:DataW H):1≤Rows.uptoBulk d:=by
 cases d with
 |lit l=>cases l<;>simp[Rows.uptoBulk]
 |_=>simp[Rows.uptoBulk]
theorem bulkz_len {H:Type}(l:List (DataW H)):l.length≤Rows.uptoBulkAll l:=by
 induction l with
 |nil=>simp[Rows.uptoBulkAll]
 |cons x r ih=>have:=bulkz_one x;simp only[Rows.uptoBulkAll,List.length_cons];omega
theorem bulkz_mem {H:Type}{d:DataW H}:∀{l:List (DataW H)},d∈l→Rows.uptoBulk d≤Rows.uptoBulkAll l
 |x::r,h=>by
  simp only[Rows.uptoBulkAll];rcases List.mem_cons.1 h with rfl|h
  ·omega
  ·have:=bulkz_mem h;omega
 |[],h=>by simp at h
theorem bulkz_in {H:Type}{l:List (DataW H)}(hk:Rows.uptoSmall H l=true):∀d∈l,Rows.uptoBulk d≤1048576:=fun d hd=>by
 have h:Rows.uptoBulkAll l≤1048576:=of_decide_eq_true hk;have:=bulkz_mem hd;omega
theorem choosez {α:Type}(p:Nat→α→Prop):∀n,(∀i,i<n→∃k,p i k)→∃L:List α,L.length=n∧∀i (h:i<L.length),p i L[i]
 |0,_=>⟨[],rfl,fun i h=>by simp at h⟩
 |n+1,h=>by
  obtain⟨L,hl,hL⟩:=choosez p n (fun i hi=>h i (by omega));obtain⟨k,hk⟩:=h n (by omega);refine⟨L++[k],by simp[hl],fun i hi=>?_⟩;by_cases hin:i<L.length
  ·rw[List.getElem_append_left hin];exact hL i hin
  ·have:i=n:=by simp at hi;omega
   subst this;rw[List.getElem_append_right (by omega)];simpa [hl]using hk
theorem no_spotz {W:World}{a:Addr}{cs:List Value}{k:Nat}(hk:0<k)(h:W.cells? 0 (a.add (0*k)) k=some cs):a.spot=none:=by
 obtain⟨_,hl,hc⟩:=World.cells?_some h;have c0:=hc 0 hk;simp only[Nat.zero_mul,Addr.add,if_true]at c0;have:cs[0]?=some (cs[0]'(by omega)):=by simp
 exact World.cell?_spot (c0.trans this)
theorem open_rowsB {H:Type}{enc:TypeId×Value→H}{W:World}{spare:Nat→Bool}{held:Bool}{α:Type}{Q:List Value→α→Prop}{Rg:α→Prop}{k:Nat}{t e:TypeId}(ht:Tryz.prog.underlying t=some (.slice e))(hce:Tryz.prog.cellsOf e=k)(hk:0<k)
 (hel:∀(n:Nat) (cs:List Value) (x:DataW H×List MemPlace),DataW.trod enc Tryz.prog W 0 spare held n e cs=some x→∃a,Q cs a∧(Rows.uptoBulk x.1≤1048576→Rg a))
 {fuel:Nat}{cs:List Value}{x:DataW H×List MemPlace}(h:DataW.trod enc Tryz.prog W 0 spare held fuel t cs=some x):
 ∃(a:Option Addr) (cap:Nat) (L:List α),cs=[.slice a L.length cap]∧(∀i (h:i<L.length),∃b off,a=some ⟨b,off,none⟩∧b<W.heap.size∧∃cs',Q cs' L[i]∧∀j,j<k→W.cell? ⟨b,off+i*k+j,none⟩=cs'[j]?)∧
  (Rows.uptoBulk x.1≤1048576→L.length≤1048575∧∀r∈L,Rg r)∧((a=none∧L=[]∧cap=0)∨∃b:Addr,a=some b):=by
 rcases open_slice ht h with⟨rfl,rfl⟩|⟨a,len,cap,m,n,D,Pl,rfl,_,hl,hm,hmm,rfl,hx⟩
 ·exact⟨none,0,[],rfl,fun i hi=>by simp at hi,fun _=>⟨by simp,by simp⟩,.inl ⟨rfl,rfl,rfl⟩⟩
 ·have hlm:len≤m:=by rw[hmm];split<;>omega
  rw[hce]at hx;have hk':∀i,i<len→∃y,(∃cs',W.cells? 0 (a.add (i*k)) k=some cs'∧Q cs' y)∧(Rows.uptoBulk (D i)≤1048576→Rg y):=fun i hi=>by
   obtain⟨cs',e1,e2⟩:=hx i (by omega);obtain⟨y,q,r⟩:=hel _ _ _ e2;exact⟨y,⟨cs',e1,q⟩,r⟩
  obtain⟨L,hL,hp⟩:=choosez _ _ hk';subst hL;refine⟨some a,cap,L,rfl,fun i hi=>?_,fun hli=>?_,.inr ⟨a,rfl⟩⟩
  ·have h0:0<L.length:=by omega
   obtain⟨⟨c0,hc0,_⟩,_⟩:=hp 0 h0;have hs:a.spot=none:=no_spotz hk hc0;obtain⟨⟨cs',hc,q⟩,_⟩:=hp i hi;obtain⟨_,hlen,hcc⟩:=World.cells?_some hc;obtain⟨b,off,spot⟩:=a;obtain rfl:spot=none:=hs;have hcell:∀j,j<k→W.cell? ⟨b,off+i*k+j,none⟩=cs'[j]?:=fun j hj=>by
    have:=hcc j hj
    rwa [addr_addZ,addr_addZ]at this
   have c1:=hcell 0 hk;have:cs'[0]?=some (cs'[0]'(by omega)):=by simp
   exact⟨b,off,rfl,World.block_lt_of_cell? W _ (c1.trans this),cs',q,hcell⟩
  ·simp only[Rows.uptoBulk]at hli;have h1:=bulkz_len ((List.range L.length).map D);rw[List.length_map,List.length_range]at h1;refine⟨by omega,fun r hr=>?_⟩;obtain⟨i,hi,rfl⟩:=List.getElem_of_mem hr;refine(hp i hi).2 ?_;have:D i∈(List.range L.length).map D:=List.mem_map.2 ⟨i,List.mem_range.2 hi,rfl⟩;have:=bulkz_mem this;omega
theorem trod_word {H:Type}{enc:TypeId×Value→H}{W:World}{spare:Nat→Bool}{held:Bool}{n:Nat}{cs:List Value}{x:DataW H×List MemPlace}
 (hf:DataW.trod enc Tryz.prog W 0 spare held n 25 cs=some x):∃k:Int,cs=[.int .u64 k]∧Wd k:=by
 obtain⟨k,e0,_,w0⟩:=DataW.trod_int Tryz.underlying25 hf;exact⟨k,e0,bdz_u64 w0⟩
theorem slice_has {W:World}{r:Reach}{base:Nat}{t e:TypeId}{a:Addr}{len cap:Nat}(ht:Tryz.prog.underlying t=some (.slice e))(h:Value.okWide Tryz.prog W r base t (.slice (some a) len cap)):a.spot=none∧a.block<W.heap.size:=by
 simp only[Value.okWide,ht,Cell.okWide,Cell.ok]at h;obtain⟨_,_,_,h2,row,cells,h3,_⟩:=h;refine⟨h2,?_⟩;unfold World.shape? at h3;by_cases q:a.block<W.heap.size
 ·exact q
 ·rw[Array.getElem?_eq_none (by omega)]at h3
  cases h3
theorem open_ints_ {H:Type}{enc:TypeId×Value→H}{W:World}{r:Reach}{base:Nat}{spare:Nat→Bool}{held:Bool}{a:Option Addr}{len cap:Nat}{d:DataW H}{ps:List MemPlace}
 (hv:Value.okWide Tryz.prog W r base 46 (.slice a len cap))(h:DataW.Trod enc Tryz.prog W 0 spare held 46 (.slice a len cap) d ps):∃L:List Int,L.length=len∧((a=none∧L=[]∧cap=0)∨∃b off,a=some ⟨b,off,none⟩∧b<W.heap.size∧∀i (h:i<L.length),W.cell? ⟨b,off+i,none⟩=some (.int .u64 L[i]))∧(∀x∈L,Wd x)∧(Rows.uptoBulk d≤1048576→L.length≤1048575):=by
 obtain⟨fuel,hf⟩:=h;obtain⟨a2,cap2,L,e,hL,hr,hn⟩:=open_rowsB (Q:=fun cs (k:Int)=>cs=[Value.int .u64 k]∧Wd k) (Rg:=fun _=>True) Tryz.underlying46 (show Tryz.prog.cellsOf 25=1 by kernel_rfl) (by omega) (fun _ _ _ h=>by obtain⟨k,h1,h2⟩:=trod_word h;exact⟨k,⟨h1,h2⟩,fun _=>trivial⟩) hf;simp[Value.cells]at e;obtain⟨rfl,rfl,rfl⟩:=e;refine⟨L,rfl,?_,fun x hx=>?_,fun hb=>(hr hb).1⟩
 ·rcases hn with⟨h1,h2,h3⟩|⟨b,h1⟩
  ·exact .inl ⟨h1,h2,h3⟩
  ·subst h1;obtain⟨s1,s2⟩:=slice_has Tryz.underlying46 hv;obtain⟨b,off,sp⟩:=b;obtain rfl:sp=none:=s1;refine .inr ⟨b,off,rfl,s2,fun i hi=>?_⟩;obtain⟨b2,off2,ha,hb,cs',⟨rfl,_⟩,hc⟩:=hL i hi;injection ha with ha
   injection ha with q1 q2
   subst q1 q2;have:=hc 0 (by omega);rw[Nat.mul_one,Nat.add_zero]at this;exact this
 ·obtain⟨i,hi,rfl⟩:=List.getElem_of_mem hx;obtain⟨b,off,ha,hb,cs',⟨rfl,q⟩,hc⟩:=hL i hi;exact q
theorem open_words {H:Type}{enc:TypeId×Value→H}{W:World}{r:Reach}{base:Nat}{spare:Nat→Bool}{held:Bool}{a:Option Addr}{len cap:Nat}{d:DataW H}{ps:List MemPlace}
 (hv:Value.okWide Tryz.prog W r base 46 (.slice a len cap))(h:DataW.Trod enc Tryz.prog W 0 spare held 46 (.slice a len cap) d ps):∃L:List Nat,L.length=len∧InS W a L cap∧NumIn W a L∧(∀x∈L,x<18446744073709551616)∧(Rows.uptoBulk d≤1048576→L.length≤1048575):=by
 obtain⟨L,hl,hin,hw,hb⟩:=open_ints_ hv h;have hc:∀i (h:i<(L.map Int.toNat).length),(((L.map Int.toNat)[i]:Nat):Int)=L[i]'(by simpa using h):=fun i h=>by
  rw[List.getElem_map];exact Int.toNat_of_nonneg (hw _ (List.getElem_mem _)).1
 refine⟨L.map Int.toNat,by rw[List.length_map,hl],?_,?_,fun x hx=>?_,fun q=>by rw[List.length_map];exact hb q⟩
 ·rcases hin with⟨h1,h2,h3⟩|⟨b,off,h1,h2,h3⟩
  ·exact .inl ⟨h1,by rw[h2];rfl,h3⟩
  ·refine .inr ⟨b,off,h1,h2,fun i hi=>?_⟩;rw[h3 i (by simpa using hi),hc i hi]
 ·intro i hi;rcases hin with⟨h1,h2,h3⟩|⟨b,off,h1,h2,h3⟩
  ·rw[h2]at hi;simp at hi
  ·refine⟨b,off,h1,h2,?_⟩;rw[h3 i (by simpa using hi),hc i hi]
 ·obtain⟨y,hy,rfl⟩:=List.mem_map.1 hx;have:=hw y hy;unfold Wd at this;omega
end C
namespace Bd
open Go.RowKit
section
variable {α:Type}
def allV:List (Option α)→Option (List α)
 |[]=>some []
 |none::_=>none
 |some a::l=>(allV l).map (a::·)
def evF (nx:Nat→List Nat)(f:Nat→List α→Option α):Nat→Nat→Option α
 |0,_=>none
 |k+1,n=>(allV ((nx n).map (evF nx f k))).bind (f n)
theorem allV_get {l:List (Option α)}{vs:List α}(h:allV l=some vs):l=vs.map some:=by
 induction l generalizing vs with
 |nil=>cases h;rfl
 |cons a l ih=>
  cases a with
  |none=>cases h
  |some a=>
   simp only[allV,Option.map_eq_some_iff]at h;obtain⟨ws,h1,rfl⟩:=h;rw[ih h1];rfl
theorem allV_of (vs:List α):allV (vs.map some)=some vs:=by
 induction vs with
 |nil=>rfl
 |cons a l ih=>simp[allV,ih]
theorem allV_none {l:List (Option α)}(h:none∈l):allV l=none:=by
 cases hq:allV l with
 |none=>rfl
 |some vs=>rw[allV_get hq]at h;simp at h
variable (nx:Nat→List Nat) (f:Nat→List α→Option α)
theorem evF_mono (k:Nat):∀n v,evF nx f k n=some v→evF nx f (k+1) n=some v:=by
 induction k with
 |zero=>intro n v h;cases h
 |succ k ih=>
  intro n v h;rw[evF,Option.bind_eq_some_iff]at h;obtain⟨vs,h1,h2⟩:=h;rw[evF,Option.bind_eq_some_iff];refine⟨vs,?_,h2⟩;have e:=allV_get h1;have:(nx n).map (evF nx f (k+1))=vs.map some:=by
   rw[←e];refine List.map_congr_left fun x hx=>?_
   have hm:evF nx f k x∈(nx n).map (evF nx f k):=List.mem_map_of_mem hx;rw[e]at hm;obtain⟨y,_,hy⟩:=List.mem_map.1 hm;rw[←hy];exact ih x y hy.symm
  rw[this];exact allV_of vs
theorem filter_lt {p q:Nat→Bool}:∀(U:List Nat),(∀x∈U,p x=true→q x=true)→(∃x∈U,q x=true∧p x=false)→(U.filter p).length<(U.filter q).length:=by
 intro U
 induction U with
 |nil=>rintro _ ⟨x,hx,_⟩;cases hx
 |cons a U ih=>
  intro h1 h2;have hle:∀(U:List Nat),(∀x∈U,p x=true→q x=true)→(U.filter p).length≤(U.filter q).length:=by
   intro U
   induction U with
   |nil=>intro _;exact Nat.le_refl _
   |cons b U ih2=>
    intro h;have h3:=ih2 (fun x hx=>h x (by simp[hx]));have h4:=h b (by simp);rw[List.filter_cons,List.filter_cons]
    cases hp:p b with
    |true=>simp[h4 hp];exact h3
    |false=>cases q b<;>simp<;>omega
  have h3:=hle U (fun x hx=>h1 x (by simp[hx]));have h4:=h1 a (by simp);rw[List.filter_cons,List.filter_cons]
  cases hp:p a with
  |true=>
   have h5:(U.filter p).length<(U.filter q).length:=ih (fun x hx=>h1 x (by simp[hx])) (by
    obtain⟨x,hx,y1,y2⟩:=h2;rcases List.mem_cons.1 hx with rfl|hx
    ·rw[hp]at y2;cases y2
    ·exact⟨x,hx,y1,y2⟩)
   simp[h4 hp];exact h5
  |false=>
   cases hq:q a with
   |true=>simp;omega
   |false=>
    have h5:(U.filter p).length<(U.filter q).length:=ih (fun x hx=>h1 x (by simp[hx])) (by
     obtain⟨x,hx,y1,y2⟩:=h2;rcases List.mem_cons.1 hx with rfl|hx
     ·rw[hq]at y1;cases y1
     ·exact⟨x,hx,y1,y2⟩)
    simp;exact h5
def ev (U:List Nat)(n:Nat):Option α:=evF nx f U.length n
variable {nx f} {U:List Nat} (hU:∀n∈U,∀c∈nx n,c∈U)
include hU
theorem ev_same {k:Nat}(h:∀x∈U,evF nx f (k+1) x=evF nx f k x):∀d,∀x∈U,evF nx f (k+d) x=evF nx f k x:=by
 have hs:∀d,∀x∈U,evF nx f (k+d+1) x=evF nx f (k+d) x:=by
  intro d
  induction d with
  |zero=>exact h
  |succ d ih=>
   intro x hx;rw[show k+(d+1)+1=(k+d+1)+1 by omega,evF,show k+(d+1)=(k+d)+1 by omega]
   conv=>rhs;rw[evF]
   rw[List.map_congr_left (fun c hc=>ih c (hU x hx c hc))]
 intro d
 induction d with
 |zero=>intro x _;rfl
 |succ d ih=>intro x hx;rw[show k+(d+1)=k+d+1 by omega,hs d x hx,ih x hx]
theorem ev_grows (k:Nat):(∀x∈U,evF nx f (k+1) x=evF nx f k x)∨k+1≤(U.filter (fun x=>(evF nx f (k+1) x).isSome)).length:=by
 induction k with
 |zero=>
  by_cases hq:∃x∈U,(evF nx f 1 x).isSome=true
  ·refine .inr ?_;have:=filter_lt (p:=fun _=>false) (q:=fun x=>(evF nx f 1 x).isSome) U (fun _ _ h=>(by cases h)) (by obtain⟨x,h1,h2⟩:=hq;exact⟨x,h1,h2,rfl⟩);exact Nat.lt_of_le_of_lt (Nat.zero_le _) this
  ·refine .inl fun x hx=>?_
   have:¬(evF nx f 1 x).isSome=true:=fun h=>hq ⟨x,hx,h⟩
   rw[Bool.not_eq_true,Option.isSome_eq_false_iff,Option.isNone_iff_eq_none]at this;rw[this];rfl
 |succ k ih=>
  by_cases hq:∃x∈U,(evF nx f (k+1+1) x).isSome=true∧(evF nx f (k+1) x).isSome=false
  ·refine .inr ?_;have h1:=filter_lt (p:=fun x=>(evF nx f (k+1) x).isSome) (q:=fun x=>(evF nx f (k+1+1) x).isSome) U (fun x _ h=>by
    obtain⟨v,hv⟩:=Option.isSome_iff_exists.1 h;rw[evF_mono nx f _ _ _ hv];rfl) hq
   rcases ih with h2|h2
   ·exfalso
    obtain⟨x,hx,y1,y2⟩:=hq;have e:=ev_same hU h2 2 x hx;rw[show k+2=k+1+1 by omega]at e;rw[e,←h2 x hx,y2]at y1
    cases y1
   ·omega
  ·refine .inl fun x hx=>?_
   cases hv:evF nx f (k+1) x with
   |some v=>exact evF_mono nx f _ _ _ hv
   |none=>
    cases hw:evF nx f (k+1+1) x with
    |none=>rfl
    |some w=>exact absurd ⟨x,hx,by rw[hw];rfl,by rw[hv];rfl⟩ hq
theorem ev_stop:∀x∈U,evF nx f (U.length+1) x=evF nx f U.length x:=by
 rcases ev_grows (f:=f) hU U.length with h|h
 ·exact h
 ·have:=List.length_filter_le (fun x=>(evF nx f (U.length+1) x).isSome) U;omega
theorem ev_none {n c:Nat}(hn:n∈U)(hc:c∈nx n)(h:ev nx f U c=none):ev nx f U n=none:=by
 unfold ev at h ⊢;rw[←ev_stop hU n hn,evF,allV_none,Option.bind_none];exact List.mem_map.2 ⟨c,hc,h⟩
theorem ev_known {n:Nat}{vs:List α}(hn:n∈U)(h:(nx n).map (ev nx f U)=vs.map some):ev nx f U n=f n vs:=by
 unfold ev at h ⊢;rw[←ev_stop hU n hn,evF,h,allV_of]
 rfl
omit hU
def Anc (nx:Nat→List Nat)(f:Nat→List α→Option α)(p n:Nat):Prop:=∀k v,evF nx f k p=some v→∃j u,j<k∧evF nx f j n=some u
theorem anc_child {n c:Nat}(h:c∈nx n):Anc nx f n c:=by
 intro k v hv
 cases k with
 |zero=>cases hv
 |succ k=>
  rw[evF,Option.bind_eq_some_iff]at hv;obtain⟨vs,h1,_⟩:=hv;have hm:evF nx f k c∈(nx n).map (evF nx f k):=List.mem_map_of_mem h;rw[allV_get h1]at hm;obtain⟨y,_,hy⟩:=List.mem_map.1 hm;exact⟨k,y,by omega,hy.symm⟩
theorem Anc.trans {a b c:Nat}(h:Anc nx f a b)(g:Anc nx f b c):Anc nx f a c:=by
 intro k v hv;obtain⟨j,u,h1,h2⟩:=h k v hv;obtain⟨i,z,h3,h4⟩:=g j u h2;exact⟨i,z,by omega,h4⟩
theorem anc_self {n:Nat}(h:Anc nx f n n):∀k,evF nx f k n=none:=by
 intro k
 induction k using Nat.strongRecOn with
 |ind k ih=>
  cases hv:evF nx f k n with
  |none=>rfl
  |some v=>
   obtain⟨j,u,h1,h2⟩:=h k v hv;rw[ih j h1]at h2
   cases h2
structure Memo (nx:Nat→List Nat)(f:Nat→List α→Option α)(U:List Nat)(S:Nat→Prop)(M:Nat→Option (Option α)):Prop where
 kn:∀x v,M x=some (some v)→ev nx f U x=some v
 un:∀x,M x=some none→S x∨ev nx f U x=none
def setM (M:Nat→Option (Option α))(n:Nat)(e:Option α):Nat→Option (Option α):=fun x=>if x=n then some e else M x
theorem setM_self (M:Nat→Option (Option α))(n:Nat)(e:Option α):setM M n e n=some e:=if_pos rfl
theorem Memo.begin {S:Nat→Prop}{M:Nat→Option (Option α)}(h:Memo nx f U S M)(n:Nat):Memo nx f U (fun x=>S x∨x=n) (setM M n none):=by
 refine⟨fun x v q=>?_,fun x q=>?_⟩
 ·unfold setM at q
  split at q
  ·cases q
  ·exact h.kn x v q
 ·unfold setM at q
  split at q
  ·rename_i e;exact .inl (.inr e)
  ·rcases h.un x q with r|r
   ·exact .inl (.inl r)
   ·exact .inr r
theorem Memo.done {S:Nat→Prop}{M:Nat→Option (Option α)}{n:Nat}(h:Memo nx f U (fun x=>S x∨x=n) M)(e:Option α)(he:e=ev nx f U n):Memo nx f U S (setM M n e):=by
 refine⟨fun x v q=>?_,fun x q=>?_⟩
 ·unfold setM at q
  split at q
  ·rename_i e1;subst e1;injection q with q;rw[←he,q]
  ·exact h.kn x v q
 ·unfold setM at q
  split at q
  ·rename_i e1;subst e1;injection q with q;exact .inr (by rw[←he,q])
  ·rename_i e1
   rcases h.un x q with(r|r)|r
   ·exact .inl r
   ·exact absurd r e1
   ·exact .inr r
theorem Memo.at_ {S:Nat→Prop}{M:Nat→Option (Option α)}{n:Nat}{e:Option α}(h:Memo nx f U S M)(hS:∀p,S p→Anc nx f p n)(hM:M n=some e):e=ev nx f U n:=by
 cases e with
 |some v=>exact(h.kn n v hM).symm
 |none=>
  rcases h.un n hM with r|r
  ·exact(anc_self (hS n r) _).symm
  ·exact r.symm
def left (U:List Nat)(M:Nat→Option (Option α)):Nat:=(U.filter (fun x=>(M x).isNone)).length
def More (M M':Nat→Option (Option α)):Prop:=∀x,(M x).isSome=true→(M' x).isSome=true
theorem left_set {M:Nat→Option (Option α)}{n:Nat}(hn:n∈U)(h:M n=none)(e:Option α):left U (setM M n e)<left U M:=by
 refine filter_lt U (fun x _ q=>?_) ⟨n,hn,by rw[h];rfl,by rw[setM_self];rfl⟩;unfold setM at q
 split at q
 ·cases q
 ·exact q
theorem left_more {M M':Nat→Option (Option α)}(h:More M M'):left U M'≤left U M:=by
 unfold left
 induction U with
 |nil=>exact Nat.le_refl _
 |cons a U ih=>
  rw[List.filter_cons,List.filter_cons];have h1:=h a
  cases hm:M a with
  |some x=>
   have h2:(M' a).isSome=true:=h1 (by rw[hm];rfl);obtain⟨y,hy⟩:=Option.isSome_iff_exists.1 h2;simp only[hy,Option.isNone_some,Bool.false_eq_true,if_false];exact ih
  |none=>cases hm2:M' a<;>simp<;>omega
theorem More.refl (M:Nat→Option (Option α)):More M M:=fun _ h=>h
theorem More.trans {M M' M2:Nat→Option (Option α)}(h:More M M')(g:More M' M2):More M M2:=fun x q=>g x (h x q)
theorem More.set (M:Nat→Option (Option α))(n:Nat)(e:Option α):More M (setM M n e):=fun x q=>by
 unfold setM
 split
 ·rfl
 ·exact q
end
open T (Kp)
open Go.Maps (Keyed)
structure Hz (p:Prop):Prop where
 out:p
theorem ζ {p:Prop}(h:p):Hz p:=⟨h⟩
def tokR (v:Value):Option (DataW Value×List MemPlace):=some (.held v,[])
def ky (x:Nat):Lit:=.int .i64 x
structure MpIn {ε:Type}(w:World)(b n:Nat)(enc:ε→Value)(M:Nat→Option ε):Prop where
 go:∃D:DataW Value,w.ownsMap Tryz.prog 3 tokR b n D∧(∀x:Nat,Maps.has D (ky x)=(M x).isSome)∧∀(x:Nat) e z,M x=some e→D.atKey (ky x) z=.held (enc e)
section
variable {ε:Type} {w w':World} {b n:Nat} {enc:ε→Value} {M:Nat→Option ε}
theorem ky_ne {x y:Nat}(h:y≠x):ky y≠ky x:=by
 intro e;unfold ky at e;injection e with _ e
 omega
theorem ky_of {x:Nat}(h:x<4611686018427387904):keyOf Tryz.prog 3 (.int .i64 x)=some (ky x):=Maps.keyOf_int_mk (by kernel_rfl) (WalkArith.wf_i64 (by omega))
theorem ky_keyed:Keyed Tryz.prog 3:=Maps.int_keyed (q:=.i64) (by kernel_rfl)
theorem mp_made (w:World)(enc:ε→Value):MpIn (w.alloc (.map #[] 0)) w.heap.size 0 enc (fun _=>none):=
 ⟨_,World.ownsMap_made w Tryz.prog 3 tokR,fun _=>rfl,fun _ _ _ h=>(by cases h)⟩
theorem MpIn.lt (h:MpIn w b n enc M):b<w.heap.size:=by
 obtain⟨D,h1,_⟩:=h.go;exact h1.lt
theorem MpIn.block (h:MpIn w b n enc M)(hb:w'.heap[b]?=w.heap[b]?):MpIn w' b n enc M:=by
 obtain⟨D,⟨es,clock,h1,r⟩,h2⟩:=h.go;exact⟨D,⟨es,clock,hb.trans h1,r⟩,h2⟩
theorem MpIn.keep {S:Nat→Prop}(h:MpIn w b n enc M)(hk:Kp S w w')(hd:¬S b):MpIn w' b n enc M:=h.block (hk.block b h.lt hd)
theorem MpIn.below (h:MpIn w b n enc M)(hb:Below w.heap.size w w'):MpIn w' b n enc M:=h.block (hb.block b h.lt)
theorem MpIn.look (h:MpIn w b n enc M){t e:TypeId}(ht:Tryz.prog.underlying t=some (.map 3 e)){z:Value}(hz:(zeroValue e).run Tryz.prog w=.ok z w)(x:Nat)(hx:x<4611686018427387904):
 (Instr.lookup t (.map (some b)) (.int .i64 x) true).run Tryz.prog w=.ok (.tuple #[match M x with|some e=>enc e|none=>z,.bool (M x).isSome]) w:=by
 obtain⟨D,h1,h2,h3⟩:=h.go;obtain⟨v,ps,hr,hv⟩:=h1.look_ok ky_keyed ht hz (zd:=.held z) (zp:=[]) rfl (ky_of hx);rw[hr,h2];replace hv:DataW.held v=D.atKey (ky x) (.held z):=(Prod.mk.inj (Option.some.inj hv)).1
 cases hm:M x with
 |none=>
  have hh:=h2 x;rw[hm]at hh;rw[Maps.atKey_of_not_has hh]at hv;rw[DataW.held.inj hv]
 |some e=>
  rw[h3 x e _ hm]at hv;rw[DataW.held.inj hv]
theorem MpIn.put (h:MpIn w b n enc M){t e:TypeId}(ht:Tryz.prog.underlying t=some (.map 3 e))(hn:n<maxLen)(x:Nat)(hx:x<4611686018427387904)(y:ε):
 ∃w',(Instr.mapUpdate t (.map (some b)) (.int .i64 x) (enc y)).run Tryz.prog w=.ok () w'∧MpIn w' b (n+1) enc (fun q=>if q=x then some y else M q)∧Kp (fun k=>k=b) w w':=by
 obtain⟨D,h1,h2,h3⟩:=h.go;obtain⟨w',hr,h4,h5⟩:=h1.store (d:=.held (enc y)) (ps:=[]) ky_keyed ht hn (ky_of hx) rfl;have hg:=h5.grown;refine⟨w',hr,⟨_,h4,fun q=>?_,fun q e2 z hq=>?_⟩,⟨hg.os,hg.tape,hg.output,hg.size,fun k hk hn=>hg.block k hk (fun e=>hn (by injection e))⟩⟩
 ·by_cases e:q=x
  ·subst e;rw[if_pos rfl,Maps.has_put_same h1.isMap (by unfold ky;simp[WideAt.IsKeyLit])];rfl
  ·rw[if_neg e,Maps.has_put_other (ky_ne e),h2]
 ·by_cases e:q=x
  ·subst e;rw[if_pos rfl]at hq;have hq2:=Option.some.inj hq;subst hq2;exact Maps.atKey_put_same h1.isMap (by unfold ky;simp[WideAt.IsKeyLit]) _ _
  ·rw[if_neg e]at hq;rw[Maps.atKey_put_other (ky_ne e)];exact h3 q e2 z hq
end
theorem drewNb (w:World)(n:Nat):Below w.heap.size w (w.drewN n):=by
 induction n with
 |zero=>exact Below.refl _ _
 |succ n ih=>exact Below.drew ih
structure Pl where
 kA:Nat
 kF:Nat
 kQ:Nat
 b:Nat
 fv:Value
 qf:Nat
def pv (k:Nat):Value:=.pointer (some ⟨k,0,none⟩)
def Pl.qv (p:Pl):Value:=.func (.func p.qf) #[] #[pv p.kA,pv p.kF,pv p.kQ]
structure Rem {ε:Type}(p:Pl)(enc:ε→Value)(w:World)(nn:Nat)(M:Nat→Option ε):Prop where
 a:At w p.kA #[.map (some p.b)]
 f:At w p.kF #[p.fv]
 q:At w p.kQ #[p.qv]
 m:MpIn w p.b nn enc M
theorem at_keep {S:Nat→Prop}{w w':World}{k:Nat}{cs:Array Value}(h:At w k cs)(hk:Kp S w w')(hn:¬S k):At w' k cs:=
 ⟨Nat.lt_of_lt_of_le h.1 hk.size,fun o=>by
  have hb:=hk.block k h.1 hn;rw[←h.2.1 o];simp only[World.cell?,hb],fun o=>by
  have hb:=hk.block k h.1 hn;rw[←h.2.2 o];simp only[World.frozen?,hb]⟩
theorem kp_sets (W:World)(k:Nat):∀(vs:List Value) (o:Nat),Kp (fun q=>q=k) W (W.setCells k o vs):=fun vs=>by
 induction vs generalizing W with
 |nil=>exact fun _=>Kp.refl _ _
 |cons v vs ih=>exact fun o=>(Kp.set (S:=fun q=>q=k) W ⟨k,o,none⟩ v rfl).trans (ih (W.setCell ⟨k,o,none⟩ v) (o+1)) (fun _ q=>.inl q)
theorem at_map {ε:Type}{w:World}{k b n:Nat}{v:Value}{enc:ε→Value}{M:Nat→Option ε}(h:At w k #[v])(g:MpIn w b n enc M):k≠b:=by
 rintro rfl;obtain⟨D,⟨es,clock,hb,_⟩,_⟩:=g.go;have:=h.2.1 0;simp[World.cell?,hb]at this
section
variable {ε:Type} {p:Pl} {enc:ε→Value} {w w':World} {nn nn':Nat} {M M':Nat→Option ε}
theorem Rem.turn (h:Rem p enc w nn M)(hk:Kp (fun k=>k=p.b) w w')(hm:MpIn w' p.b nn' enc M'):Rem p enc w' nn' M':=
 ⟨at_keep h.a hk (at_map h.a h.m),at_keep h.f hk (at_map h.f h.m),at_keep h.q hk (at_map h.q h.m),hm⟩
theorem Rem.below (h:Rem p enc w nn M)(hb:Below w.heap.size w w'):Rem p enc w' nn M:=
 ⟨at_keep h.a (Kp.of_below (S:=fun _=>False) hb) id,at_keep h.f (Kp.of_below (S:=fun _=>False) hb) id,at_keep h.q (Kp.of_below (S:=fun _=>False) hb) id,h.m.below hb⟩
theorem Rem.above {M0:Nat→Option ε}{n0:Nat}{w0:World}{S:Nat→Prop}(h:Rem p enc w nn M)(h0:Rem p enc w0 n0 M0)(hk:Kp S w w')(hS:∀k,S k→w0.heap.size≤k):Rem p enc w' nn M:=
 ⟨at_keep h.a hk (fun q=>Nat.not_lt.2 (hS _ q) h0.a.1),at_keep h.f hk (fun q=>Nat.not_lt.2 (hS _ q) h0.f.1),at_keep h.q hk (fun q=>Nat.not_lt.2 (hS _ q) h0.q.1),h.m.keep hk (fun q=>Nat.not_lt.2 (hS _ q) h0.m.lt)⟩
end
def Aft {α:Type}(p:Pl)(enc:Option α→Value)(nx:Nat→List Nat)(f:Nat→List α→Option α)(U:List Nat)(S:Nat→Prop)(M:Nat→Option (Option α))(nn:Nat)(w w':World):Prop:=
 ∃M' nn',Rem p enc w' nn' M'∧Memo nx f U S M'∧More M M'∧nn'+2*left U M'≤nn+2*left U M∧Kp (fun k=>k=p.b) w w'
section
variable {α:Type}
def AskC (E:World→Prop)(p:Pl)(enc:Option α→Value)(tup:Option α→Value)(nx:Nat→List Nat)(f:Nat→List α→Option α)(U:List Nat)(d:Nat):Prop:=
 ∀(w:World) (n:Nat) (S:Nat→Prop) (M:Nat→Option (Option α)) (nn:Nat),E w→Rem p enc w nn M→Memo nx f U S M→(∀q,S q→Anc nx f q n)→n∈U→left U M≤d→nn+2*left U M≤1000000→
  Calls Tryz.prog p.qf #[.int .i64 n,pv p.kA,pv p.kF,pv p.kQ] w fun r w'=>r=.returned (tup (ev nx f U n))∧Aft p enc nx f U S M nn w w'
def FindC (ff:Nat)(caps:Array Value)(E:World→Prop)(p:Pl)(enc:Option α→Value)(tup:Option α→Value)(nx:Nat→List Nat)(f:Nat→List α→Option α)(U:List Nat)(d:Nat):Prop:=
 ∀(w:World) (n:Nat) (S:Nat→Prop) (M:Nat→Option (Option α)) (nn:Nat),E w→Rem p enc w nn M→Memo nx f U (fun x=>S x∨x=n) M→(∀q,S q→Anc nx f q n)→n∈U→left U M≤d→nn+2*left U M≤1000000→
  Calls Tryz.prog ff (#[.int .i64 n,p.qv]++caps) w fun r w'=>r=.returned (tup (ev nx f U n))∧Aft p enc nx f U (fun x=>S x∨x=n) M nn w w'
end
theorem wpList_put {ε:Type}{w:World}{ops:Array Oper}{rest:List Oper}{o:Oper}{a:Act}{Q:Exit→Act→World→Prop}(hg:o.guard=none)(m x v:Operand)(t e:TypeId)(hop:o.op=Op.mapUpdate t m x v)(ht:Tryz.prog.underlying t=some (.map 3 e))
 (b n:Nat)(enc:ε→Value)(M:Nat→Option ε)(hm:a.eval m=.map (some b))(h:MpIn w b n enc M)(hn:n<maxLen)(k:Nat)(hk:k<4611686018427387904)(y:ε)(hx:a.eval x=.int .i64 k)(hv:a.eval v=enc y)
 (hK:∀w',MpIn w' b (n+1) enc (fun q=>if q=k then some y else M q)→Kp (fun k=>k=b) w w'→wpList Tryz.prog ops Q rest (a.put o.dst undef) w'):wpList Tryz.prog ops Q (o::rest) a w:=by
 refine wpList_plain hg fun K' hK'=>?_
 obtain⟨w',hrun,r1,r2⟩:=h.put ht hn k hk y;unfold Oper.wp;simp[execOp,hop,hm,hx,hv,hrun,Result.andThen];exact hK' _ _ (hK w' r1 r2)
end Bd
namespace F
open Go.RowKit
open T
def wayN (op:Int):Int:=if op=20 then 1 else if op=21∨op=22∨op=23∨op=24 then 2 else if op=26 then 3 else if op=27∨op=28∨op=32 then 4 else 0
theorem wayOf_any (op:Int)(w:World):Calls Tryz.prog 132 #[.int .u8 op] w fun e w'=>e=.returned (.int .i64 (wayN op))∧w'=w:=by
 by_cases h:op=20∨op=21∨op=22∨op=23∨op=24∨op=26∨op=27∨op=28∨op=32
 ·rcases h with rfl|rfl|rfl|rfl|rfl|rfl|rfl|rfl|rfl<;>
  ·go_enter Tryz.func132,Tryz.ntmps132;go_wp2_with fail;go_ret;exact⟨rfl,rfl⟩
 ·simp only[not_or]at h;obtain⟨h1,h2,h3,h4,h5,h6,h7,h8,h9⟩:=h;have e0:wayN op=0:=by simp[wayN, *]
  rw[e0];have e1:(op==20)=false:=by simpa using h1
  have e2:(op==21)=false:=by simpa using h2
  have e3:(op==22)=false:=by simpa using h3
  have e4:(op==23)=false:=by simpa using h4
  have e5:(op==24)=false:=by simpa using h5
  have e6:(op==26)=false:=by simpa using h6
  have e7:(op==27)=false:=by simpa using h7
  have e8:(op==28)=false:=by simpa using h8
  have e9:(op==32)=false:=by simpa using h9
  clear h1 h2 h3 h4 h5 h6 h7 h8 h9;go_enter Tryz.func132,Tryz.ntmps132;go_wp2_with fail;go_ret;exact⟨rfl,rfl⟩
def tgtB (wy:Int):Bool:=decide (wy=1) || decide (wy=2)
def thB (n:Nat)(pc:Int):Bool:=decide (0≤pc)&&decide (pc<n)
theorem there_any (a:Option Addr)(n cap:Nat)(pc:Int)(w:World):Calls Tryz.prog 135 #[.slice a n cap,.int .i64 pc] w fun e w'=>e=.returned (.bool (thB n pc))∧w'=w:=by
 by_cases h1:0≤pc
 ·by_cases h2:pc<n
  ·have e0:thB n pc=true:=by simp[thB,h1,h2]
   rw[e0];go_enter Tryz.func135,Tryz.ntmps135;go_wp2_with fail;go_ret;exact⟨rfl,rfl⟩
  ·have e0:thB n pc=false:=by simp[thB,h2]
   rw[e0];go_enter Tryz.func135,Tryz.ntmps135;go_wp2_with fail;go_ret;exact⟨rfl,rfl⟩
 ·have e0:thB n pc=false:=by simp[thB,h1]
  rw[e0];go_enter Tryz.func135,Tryz.ntmps135;go_wp2_with fail;go_ret;exact⟨rfl,rfl⟩
def sv (X room:Nat):Value:=.agg #[.slice (some ⟨X,0,none⟩) ((room+63)/64) ((room+63)/64),.int .i64 room]
def SIn (w:World)(X room:Nat)(s:Nat→Bool):Prop:=
 ∃W:List Nat,W.length=(room+63)/64∧At w X (W.map fun n:Nat=>Value.int .u64 n).toArray∧(∀x∈W,x<18446744073709551616)∧∀n,n<room→s n=Nat.testBit (W[n/64]?.getD 0) (n%64)
theorem mayHave_any (X room:Nat)(pc:Int)(w:World):Calls Tryz.prog 166 #[sv X room,.int .i64 pc] w fun e w'=>e=.returned (.bool (thB room pc))∧∃o,w'=w.alloc o:=by
 unfold sv;generalize (room+63)/64=nw;by_cases h1:0≤pc
 ·by_cases h2:pc<room
  ·have e0:thB room pc=true:=by simp[thB,h1,h2]
   rw[e0];go_enter Tryz.func166,Tryz.ntmps166;go_wp2_with fail;go_ret;exact⟨rfl,_,rfl⟩
  ·have e0:thB room pc=false:=by simp[thB,h2]
   rw[e0];go_enter Tryz.func166,Tryz.ntmps166;go_wp2_with fail;go_ret;exact⟨rfl,_,rfl⟩
 ·have e0:thB room pc=false:=by simp[thB,h1]
  rw[e0];go_enter Tryz.func166,Tryz.ntmps166;go_wp2_with fail;go_ret;exact⟨rfl,_,rfl⟩
theorem wrap_pow (n:Nat):IntKind.u64.wrap (2^(n%64))=((2^(n%64):Nat):Int):=by
 rw[IntKind.wrap_u64];have h:2^(n%64)<2^64:=Nat.pow_lt_pow_right (by omega) (Nat.mod_lt _ (by omega));have e:((2:Int)^(n%64))=((2^(n%64):Nat):Int):=by simp
 rw[e];generalize 2^(n%64)=m at*;omega
theorem bitOf_any (n:Nat)(w:World)(hn:n<2000000):Calls Tryz.prog 167 #[.int .i64 n] w fun e w'=>e=.returned (.int .u64 (2^(n%64):Nat))∧w'=w:=by
 have hw:=wrap_pow n;go_enter Tryz.func167,Tryz.ntmps167;go_wp2_with fail;rw[hw];go_ret;exact⟨rfl,rfl⟩
theorem test_and (x k:Nat):Nat.testBit x k=(((x&&& 2^k:Nat):Int) != 0):=by
 cases h:x.testBit k with
 |true=>
  have:x&&& 2^k≠0:=by
   intro e;have:=congrArg (fun y=>Nat.testBit y k) e;simp[Nat.testBit_and,h,Nat.testBit_two_pow_self]at this
  generalize x&&& 2^k=y at*;have:¬(y:Int)=0:=by omega
  simpa using this
 |false=>
  have:x&&& 2^k=0:=by
   apply Nat.eq_of_testBit_eq;intro j;rw[Nat.testBit_and,Nat.zero_testBit];by_cases hj:k=j
   ·subst hj;rw[h];rfl
   ·rw[Nat.testBit_two_pow_of_ne hj,Bool.and_false]
  rw[this]
  rfl
theorem SIn.word {w:World}{X room n:Nat}{s:Nat→Bool}(h:SIn w X room s)(hn:n<room):∃x:Nat,x<18446744073709551616∧w.cell? ⟨X,n/64,none⟩=some (.int .u64 x)∧s n=Nat.testBit x (n%64):=by
 obtain⟨W,h1,h2,h3,h4⟩:=h;have hlt:n/64<W.length:=by rw[h1];omega
 refine⟨W[n/64],h3 _ (List.getElem_mem hlt),?_,?_⟩
 ·rw[h2.2.1];simp[hlt]
 ·rw[h4 n hn];simp[hlt]
theorem SIn.lt {w:World}{X room:Nat}{s:Nat→Bool}(h:SIn w X room s):X<w.heap.size:=by
 obtain⟨W,h1,h2,h3,h4⟩:=h;exact h2.1
theorem SIn.fr {w:World}{X room:Nat}{s:Nat→Bool}(h:SIn w X room s)(o:Nat):w.frozen? ⟨X,o,none⟩=false:=by
 obtain⟨W,h1,h2,h3,h4⟩:=h;exact h2.2.2 o
theorem at_below {w w1:World}{B k:Nat}{cs:Array Value}(h:At w k cs)(hb:Below B w w1)(hk:k<B):At w1 k cs:=
 ⟨Nat.lt_of_lt_of_le h.1 hb.size,fun o=>(hb.cell (p:=⟨k,o,none⟩) hk).trans (h.2.1 o),fun o=>(hb.frozen (p:=⟨k,o,none⟩) hk).trans (h.2.2 o)⟩
theorem SIn.below {w w1:World}{B X room:Nat}{s:Nat→Bool}(h:SIn w X room s)(hb:Below B w w1)(hk:X<B):SIn w1 X room s:=by
 obtain⟨W,h1,h2,h3,h4⟩:=h;exact⟨W,h1,at_below h2 hb hk,h3,h4⟩
theorem quo64 (n:Nat)(hn:n<2000000):IntKind.i64.wrap ((n:Int)/64)=((n/64:Nat):Int):=by rw[IntKind.wrap_i64];omega
theorem has_any (X room n:Nat)(s:Nat→Bool)(w:World)(h:SIn w X room s)(hr:room<2000000)(hn:n<room):
 Calls Tryz.prog 134 #[sv X room,.int .i64 n] w fun e w'=>e=.returned (.bool (s n))∧Below w.heap.size w w':=by
 have hM:=mayHave_any X room n;have hX:=h.lt;obtain⟨x,x1,x2,x3⟩:=h.word hn;have hB:=fun W=>bitOf_any n W (by omega)
 have e1:thB room n=true:=by simp[thB];omega
 rw[e1]at hM;simp only[x3,test_and];have hb:=u64_and_nat x (2^(n%64)) x1 (Nat.pow_lt_pow_right (m:=n%64) (n:=64) (by omega) (Nat.mod_lt _ (by omega)));have hnw:((n/64:Nat):Int)<(((room+63)/64:Nat):Int):=by omega
 have hq:=quo64 n (by omega);unfold sv at*;generalize (room+63)/64=nw at*;generalize 2^(n%64)=bt at*;generalize n/64=q at*;replace h:=Hid.mk h;replace hM:=Hid.mk hM;replace hB:=Hid.mk hB;replace x3:=Hid.mk x3;go_enter Tryz.func134,Tryz.ntmps134;go_wp2_with fail;go_region_held3 (fun W=>W.cell? ⟨w.heap.size,0,none⟩=some (.slice (some ⟨X,0,none⟩) nw nw)∧W.cell? ⟨w.heap.size,1,none⟩=some (.int .i64 room)∧W.cell? ⟨X,q,none⟩=some (.int .u64 x)) (simp[go_sem, *]) (first|(go_at_call 166;refine(hM.out _).mono ?_;rintro x w1 ⟨rfl,o,rfl⟩)|(go_at_call 167;refine(hB.out _).mono ?_;rintro x w1 ⟨rfl,rfl⟩))
 all_goals
  go_wp2_with fail;go_ret;exact⟨rfl,by(repeat(first|assumption|with_reducible exact Below.refl _ _|with_reducible refine Below.alloc ?_ (by simp<;>omega) _|with_reducible refine Below.setCell ?_ (by simp<;>omega) _|with_reducible refine Below.drew ?_))⟩
def adB (room:Nat)(s:Nat→Bool)(pc:Int):Bool:=thB room pc&&!s pc.toNat
def adS (s:Nat→Bool)(pc:Int):Nat→Bool:=fun n=>s n || decide ((n:Int)=pc)
theorem SIn.same {w:World}{X room:Nat}{s s':Nat→Bool}(h:SIn w X room s)(e:∀n,n<room→s' n=s n):SIn w X room s':=by
 obtain⟨W,h1,h2,h3,h4⟩:=h;exact⟨W,h1,h2,h3,fun n hn=>(e n hn).trans (h4 n hn)⟩
theorem SIn.put {w:World}{X room n x:Nat}{s:Nat→Bool}(h:SIn w X room s)(hn:n<room)(hx:w.cell? ⟨X,n/64,none⟩=some (.int .u64 x)):SIn (w.setCell ⟨X,n/64,none⟩ (.int .u64 ((x |||2^(n%64):Nat):Int))) X room (adS s n):=by
 obtain⟨W,h1,h2,h3,h4⟩:=h;have hlt:n/64<W.length:=by rw[h1];omega
 have e0:x=W[n/64]:=by
  rw[h2.2.1]at hx;simp[hlt]at hx;omega
 have hx':x<18446744073709551616:=by rw[e0];exact h3 _ (List.getElem_mem hlt)
 have hp:2^(n%64)<2^64:=Nat.pow_lt_pow_right (by omega) (Nat.mod_lt _ (by omega));have ho:x |||2^(n%64)<2^64:=Nat.or_lt_two_pow hx' hp
 refine⟨W.set (n/64) (x |||2^(n%64)),by simp[h1],?_,fun y hy=>?_,fun m hm=>?_⟩
 ·have:=h2.set (n/64) (.int .u64 ((x |||2^(n%64):Nat):Int)) (by simpa using hlt);simpa [List.map_set]using this
 ·rcases List.mem_or_eq_of_mem_set hy with r|r
  ·exact h3 y r
  ·rw[r];exact ho
 ·unfold adS;rw[h4 m hm];by_cases hq:m/64=n/64
  ·rw[hq];simp only[List.getElem?_set_self hlt,Option.getD_some,Nat.testBit_or,Nat.testBit_two_pow,List.getElem?_eq_getElem hlt,←e0]
   congr 1
   rw[decide_eq_decide];omega
  ·rw[List.getElem?_set_ne (fun q=>hq q.symm)];have:¬(m:Int)=n:=by omega
   simp[this]
theorem add_any (X room:Nat)(s:Nat→Bool)(pc:Int)(w:World)(h:SIn w X room s)(hr:room<2000000):
 Calls Tryz.prog 129 #[sv X room,.int .i64 pc] w fun e w'=>e=.returned (.bool (adB room s pc))∧SIn w' X room (adS s pc)∧Kp (fun k=>k=X) w w':=by
 have hM:=mayHave_any X room pc;have hX:=h.lt
 cases e0:thB room pc with
 |false=>
  rw[e0]at hM;have e1:adB room s pc=false:=by simp[adB,e0]
  rw[e1];have hS:∀W,Below w.heap.size w W→SIn W X room (adS s pc)∧Kp (fun k=>k=X) w W:=fun W q=>by
   refine⟨(h.below q hX).same (fun n hn=>?_),Kp.of_below q⟩;have:¬(n:Int)=pc:=by
    intro r;subst r;simp[thB]at e0;omega
   simp[adS,this]
  unfold sv at*;generalize (room+63)/64=nw at*;replace h:=Hid.mk h;replace hM:=Hid.mk hM;replace hS:=Hid.mk hS;go_enter Tryz.func129,Tryz.ntmps129;go_wp2_with(go_at_call 166;refine(hM.out _).mono ?_;rintro x w1 ⟨rfl,o,rfl⟩);go_ret;exact⟨rfl,hS.out _ (by(repeat(first|assumption|with_reducible exact Below.refl _ _|with_reducible refine Below.alloc ?_ (by simp<;>omega) _|with_reducible refine Below.setCell ?_ (by simp<;>omega) _|with_reducible refine Below.drew ?_)))⟩
 |true=>
  simp only[thB,Bool.and_eq_true,decide_eq_true_eq]at e0;obtain⟨n,rfl⟩:=Int.eq_ofNat_of_zero_le e0.1;have hn:n<room:=by omega
  have e1:thB room n=true:=by simp[thB];omega
  rw[e1]at hM;have hH:=fun W (q:Below w.heap.size w W)=>has_any X room n s W (h.below q hX) hr hn
  cases e2:s n with
  |true=>
   have e3:adB room s n=false:=by simp[adB,e2]
   rw[e3];rw[e2]at hH;have hS:∀W,Below w.heap.size w W→SIn W X room (adS s n)∧Kp (fun k=>k=X) w W:=fun W q=>by
    refine⟨(h.below q hX).same (fun m hm=>?_),Kp.of_below q⟩;by_cases r:m=n
    ·subst r;simp[adS,e2]
    ·have:¬(m:Int)=n:=by omega
     simp[adS,this]
   unfold sv at*;generalize (room+63)/64=nw at*;replace h:=Hid.mk h;replace hM:=Hid.mk hM;replace hH:=Hid.mk hH;replace hS:=Hid.mk hS;go_enter Tryz.func129,Tryz.ntmps129;go_wp2_with(first|(go_at_call 166;refine(hM.out _).mono ?_;rintro x w1 ⟨rfl,o,rfl⟩)|(go_at_call 134;refine(hH.out _ (by(repeat(first|assumption|with_reducible exact Below.refl _ _|with_reducible refine Below.alloc ?_ (by simp<;>omega) _|with_reducible refine Below.setCell ?_ (by simp<;>omega) _|with_reducible refine Below.drew ?_)))).mono ?_;rintro x w1 ⟨rfl,q1⟩;have Q1:Below w.heap.size w w1:=Below.trans (by(repeat(first|assumption|with_reducible exact Below.refl _ _|with_reducible refine Below.alloc ?_ (by simp<;>omega) _|with_reducible refine Below.setCell ?_ (by simp<;>omega) _|with_reducible refine Below.drew ?_))) (q1.mono (by simp<;>omega))));go_ret;exact⟨rfl,hS.out _ Q1⟩
  |false=>
   have e3:adB room s n=true:=by simp[adB,e2,e1]
   rw[e3];rw[e2]at hH;obtain⟨x,x1,x2,x3⟩:=h.word hn;have hB:=fun W=>bitOf_any n W (by omega)
   have hp:2^(n%64)<18446744073709551616:=Nat.pow_lt_pow_right (m:=n%64) (n:=64) (by omega) (Nat.mod_lt _ (by omega));have hb:=u64_or_nat x (2^(n%64)) x1 hp;have hnw:((n/64:Nat):Int)<(((room+63)/64:Nat):Int):=by omega
   have hq:=quo64 n (by omega);have hS:∀W,Below w.heap.size w W→SIn (W.setCell ⟨X,n/64,none⟩ (.int .u64 ((x |||2^(n%64):Nat):Int))) X room (adS s n)∧Kp (fun k=>k=X) w (W.setCell ⟨X,n/64,none⟩ (.int .u64 ((x |||2^(n%64):Nat):Int))):=fun W q=>
    ⟨(h.below q hX).put hn ((q.cell (p:=⟨X,n/64,none⟩) hX).trans x2),(Kp.of_below q).trans (Kp.set (S:=fun k=>k=X) W _ _ rfl) (fun k r=>.inl r)⟩
   have hC:∀W,Below w.heap.size w W→W.cell? ⟨X,n/64,none⟩=some (.int .u64 x)∧(∀o,W.frozen? ⟨X,o,none⟩=false):=fun W q=>⟨(q.cell (p:=⟨X,n/64,none⟩) hX).trans x2,fun o=>(q.frozen (p:=⟨X,o,none⟩) hX).trans (h.fr o)⟩
   unfold sv at*;generalize (room+63)/64=nw at*;generalize 2^(n%64)=bt at*;generalize n/64=q at*;replace h:=Hid.mk h;replace hM:=Hid.mk hM;replace hH:=Hid.mk hH;replace hS:=Hid.mk hS;replace hC:=Hid.mk hC;replace hB:=Hid.mk hB;clear x2 x3;go_enter Tryz.func129,Tryz.ntmps129;go_wp2_with(first|(go_at_call 166;refine(hM.out _).mono ?_;rintro x w1 ⟨rfl,o,rfl⟩)|(go_at_call 134;refine(hH.out _ (by(repeat(first|assumption|with_reducible exact Below.refl _ _|with_reducible refine Below.alloc ?_ (by simp<;>omega) _|with_reducible refine Below.setCell ?_ (by simp<;>omega) _|with_reducible refine Below.drew ?_)))).mono ?_;rintro x w1 ⟨rfl,q1⟩;have Q1:Below (w.heap.size+1) (w.alloc (.cells #[.slice (some ⟨X,0,none⟩) nw nw,.int .i64 room] 178)) w1:=Below.trans (by(repeat(first|assumption|with_reducible exact Below.refl _ _|with_reducible refine Below.alloc ?_ (by simp<;>omega) _|with_reducible refine Below.setCell ?_ (by simp<;>omega) _|with_reducible refine Below.drew ?_))) (q1.mono (by simp<;>omega))))
   have A1:=at_below (At.new w #[.slice (some ⟨X,0,none⟩) nw nw,.int .i64 room] 178) Q1 (Nat.lt_succ_self _);have Q2:Below w.heap.size w w1:=((Below.refl _ w).alloc (Nat.le_refl _) _).trans (Q1.mono (by omega));have z0:w1.cell? ⟨w.heap.size,0,none⟩=some (.slice (some ⟨X,0,none⟩) nw nw):=A1.2.1 0;have zl:=A1.1;obtain⟨c1,c2⟩:=hC.out w1 Q2;have hX':X<w1.heap.size:=Nat.lt_of_lt_of_le hX Q2.size;replace Q1:=Hid.mk Q1;replace Q2:=Hid.mk Q2;replace A1:=Hid.mk A1;go_region_with (go_at_call 167;refine(hB.out _).mono ?_;rintro x w2 ⟨rfl,rfl⟩)
   all_goals
    go_wp2_with fail;go_ret;exact⟨rfl,hS.out w1.drew Q2.out.drew⟩
end F
end Go.Proofs.YthlpjlnehonpdaaGreatDoor
