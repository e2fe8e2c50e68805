import Derived.Test.YthlpjlnehonpdaaGreatDoorKTBase
namespace Go.Proofs.YthlpjlnehonpdaaGreatDoor
set_option maxRecDepth 100000
set_option maxHeartbeats 40000000
namespace T
open Go.RowKit
theorem get_any (S:Nat→Prop)(a addr:Nat)(b:Nat→UInt8)(w:World)(h:PgIn S w a b)(ha:addr<65536):
 Calls Tryz.prog 184 #[.pointer (some ⟨a,0,none⟩),.int .u64 addr] w fun x w'=>x=.returned (bv (b addr))∧w'=w:=by
 obtain⟨pg,h⟩:=h;have h1:=(h.box (addr/1024) (by omega)).1
 cases e:pg (addr/1024)with
 |none=>
  rw[e]at h1;have hz:=h.zero (addr/1024) (by omega) e (addr%1024) (by omega);rw[show addr/1024*1024+addr%1024=addr by omega]at hz;rw[hz];replace h:=Hid.mk h;simp only[ptr,Option.map_none]at h1;go_enter Tryz.func184,Tryz.ntmps184;go_wp2_with fail;go_ret;exact⟨rfl,rfl⟩
 |some k=>
  rw[e]at h1;have h2:=((h.page (addr/1024) k (by omega) e).2.2 (addr%1024) (by omega)).1;rw[show addr/1024*1024+addr%1024=addr by omega]at h2;replace h:=Hid.mk h;simp only[ptr,Option.map_some]at h1;unfold bv at*;go_enter Tryz.func184,Tryz.ntmps184;go_wp2_with fail;go_ret;exact⟨rfl,rfl⟩
theorem Pg.put {S:Nat→Prop}{w:World}{a:Nat}{pg:Nat→Option Nat}{b:Nat→UInt8}(h:Pg S w a pg b)(addr k:Nat)(v:UInt8)(ha:addr<65536)(e:pg (addr/1024)=some k):
 Pg S (w.setCell ⟨k,addr%1024,none⟩ (bv v)) a pg (upd b addr v):=by
 have hp:=h.page _ k (by omega) e;have hka:k≠a:=fun q=>h.no (q▸hp.1)
 refine⟨by simpa using h.lt,h.no,fun k' q=>by simpa using h.own k' q,fun i hi=>⟨?_,?_⟩,fun i k' hi he=>?_,fun i hi he j hj=>?_,h.inj⟩
 ·rw[cso (fun q=>absurd q hka)];exact(h.box i hi).1
 ·simpa using(h.box i hi).2
 ·obtain⟨g1,g2,g3⟩:=h.page i k' hi he;refine⟨g1,by simpa using g2,fun j hj=>⟨?_,by simpa using(g3 j hj).2⟩⟩;by_cases hq:k=k'∧addr%1024=j
  ·obtain⟨rfl,rfl⟩:=hq;have hi':i=addr/1024:=h.inj i (addr/1024) k hi (by omega) he e;rw[World.cell?_setCell_same _ _ _ (g3 _ hj).1];have:i*1024+addr%1024=addr:=by omega
   simp[upd,this]
  ·rw[cso (fun q r=>hq ⟨q,r⟩),(g3 j hj).1];have:i*1024+j≠addr:=by
    intro q;have e1:i=addr/1024:=by omega
    subst e1;rw[e]at he;exact hq ⟨by simpa using he,by omega⟩
   simp[upd,this]
 ·have:i*1024+j≠addr:=by
   intro q;have e1:i=addr/1024:=by omega
   subst e1;rw[e]at he;simp at he
  simp[upd,this,h.zero i hi he j hj]
theorem Pg.put_fr {S:Nat→Prop}{w:World}{a:Nat}{pg:Nat→Option Nat}{b:Nat→UInt8}(h:Pg S w a pg b)(addr k:Nat)(v:Value)(ha:addr<65536)(e:pg (addr/1024)=some k):
 Fr S S w (w.setCell ⟨k,addr%1024,none⟩ v) a:=by
 have hp:=h.page _ k (by omega) e;have hka:k≠a:=fun q=>h.no (q▸hp.1)
 exact⟨fun _ q=>q,fun _ q=>.inl q,Kp.set w _ _ (.inr hp.1),fun o _=>⟨cso (fun q=>absurd q hka),by simp⟩⟩
theorem Pg.lay {S:Nat→Prop}{w:World}{a:Nat}{pg:Nat→Option Nat}{b:Nat→UInt8}(h:Pg S w a pg b)(i0:Nat)(t:TypeId)(hi0:i0<64)(e:pg i0=none):
 Pg (fun k=>S k∨k=w.heap.size) ((w.alloc (.cells (Array.replicate 1024 (.int .u8 0)) t)).setCell ⟨a,i0,none⟩ (.pointer (some ⟨w.heap.size,0,none⟩))) a (fun i=>if i=i0 then some w.heap.size else pg i) b:=by
 have hlt:=h.lt;have hB:Below w.heap.size w (w.alloc (.cells (Array.replicate 1024 (.int .u8 0)) t)):=(Below.refl _ w).alloc (Nat.le_refl _) _;have hna:w.heap.size≠a:=by omega
 have hbox:∀i,i<64→(w.alloc (.cells (Array.replicate 1024 (.int .u8 0)) t)).cell? ⟨a,i,none⟩=some (ptr (pg i)):=fun i hi=>(hB.cell (p:=⟨a,i,none⟩) hlt).trans (h.box i hi).1
 refine⟨by simp;omega,fun q=>?_,fun k q=>?_,fun i hi=>⟨?_,?_⟩,fun i k hi he=>?_,fun i hi he j hj=>?_,fun i j k hi hj e1 e2=>?_⟩
 ·rcases q with q|q
  ·exact h.no q
  ·omega
 ·rcases q with q|q
  ·have:=h.own k q;simp;omega
  ·subst q;simp
 ·by_cases hq:i=i0
  ·subst hq;rw[World.cell?_setCell_same _ _ _ (hbox i hi)];simp[ptr]
  ·rw[cso (fun _ q=>hq q.symm),hbox i hi];simp[hq]
 ·have:=(hB.frozen (p:=⟨a,i,none⟩) hlt).trans (h.box i hi).2;simpa using this
 ·by_cases hq:i=i0
  ·subst hq;simp at he;subst he;refine⟨.inr rfl,by simp,fun j hj=>⟨?_,?_⟩⟩
   ·rw[cso (fun q=>absurd q.symm hna)];rw[World.cell?_alloc_new];simp[hj,bv,h.zero i hi e j hj]
   ·have:=(At.new w (Array.replicate 1024 (.int .u8 0)) t).2.2 j;rw[World.frozen?_setCell];exact this
  ·simp only[hq,if_false]at he;obtain⟨g1,g2,g3⟩:=h.page i k hi he;refine⟨.inl g1,by simp;omega,fun j hj=>⟨?_,?_⟩⟩
   ·rw[cso (fun(q:a=k)=>absurd (q▸g1) h.no)];exact(hB.cell (p:=⟨k,j,none⟩) g2).trans (g3 j hj).1
   ·have:=(hB.frozen (p:=⟨k,j,none⟩) g2).trans (g3 j hj).2;simpa using this
 ·by_cases hq:i=i0
  ·subst hq;simp at he
  ·simp only[hq,if_false]at he;exact h.zero i hi he j hj
 ·by_cases q1:i=i0<;>by_cases q2:j=i0
  ·omega
  ·simp only[q1,q2,if_true,if_false]at e1 e2;have:=(h.page j k hj e2).2.1;simp at e1;omega
  ·simp only[q1,q2,if_true,if_false]at e1 e2;have:=(h.page i k hi e1).2.1;simp at e2;omega
  ·simp only[q1,q2,if_false]at e1 e2;exact h.inj i j k hi hj e1 e2
theorem Pg.lay_fr {S:Nat→Prop}{w:World}{a:Nat}{pg:Nat→Option Nat}{b:Nat→UInt8}(h:Pg S w a pg b)(i0:Nat)(o:Obj)(v:Value)(hi0:i0<64):
 Fr S (fun k=>S k∨k=w.heap.size) w ((w.alloc o).setCell ⟨a,i0,none⟩ v) a:=by
 have hB:Below w.heap.size w (w.alloc o):=(Below.refl _ w).alloc (Nat.le_refl _) _;refine⟨fun _ q=>.inl q,fun k q=>?_,(Kp.alloc _ w o).trans (Kp.set (S:=fun k=>k=a) _ _ _ rfl) (fun k q=>.inl (.inl q)),fun x hx=>⟨?_,?_⟩⟩
 ·rcases q with q|q
  ·exact .inl q
  ·exact .inr (by omega)
 ·rw[cso (fun _=>by omega)];exact hB.cell (p:=⟨a,x,none⟩) h.lt
 ·simpa using hB.frozen (p:=⟨a,x,none⟩) h.lt
theorem set_any (S:Nat→Prop)(a addr:Nat)(b:Nat→UInt8)(v:UInt8)(w:World)(h:PgIn S w a b)(ha:addr<65536):
 Calls Tryz.prog 144 #[.pointer (some ⟨a,0,none⟩),.int .u64 addr,bv v] w fun x w'=>x=.returned (.tuple #[])∧∃S',PgIn S' w' a (upd b addr v)∧Fr S S' w w' a:=by
 obtain⟨pg,h⟩:=h;have h1:=(h.box (addr/1024) (by omega)).1;have f1:=(h.box (addr/1024) (by omega)).2
 cases e:pg (addr/1024)with
 |none=>
  have hl:=h.lay (addr/1024) 257 (by omega) e;have hf:=h.lay_fr (addr/1024) (.cells (Array.replicate 1024 (.int .u8 0)) 257) (.pointer (some ⟨w.heap.size,0,none⟩)) (by omega);have hp:=hl.put addr w.heap.size v ha (by simp);have hg:=hf.trans (hl.put_fr addr w.heap.size (bv v) ha (by simp));rw[e]at h1;have hlt:=h.lt;replace h:=Hid.mk h;replace hl:=Hid.mk hl;replace hf:=Hid.mk hf;simp only[ptr,Option.map_none]at h1;have pz:=page_zero;have sz:(w.setCell ⟨a,addr/1024,none⟩ (.pointer (some ⟨w.heap.size,0,none⟩))).heap.size=w.heap.size:=by simp
  have ew:(w.alloc (.cells (Array.replicate 1024 (.int .u8 0)) 257)).setCell ⟨a,addr/1024,none⟩ (.pointer (some ⟨w.heap.size,0,none⟩))=(w.setCell ⟨a,addr/1024,none⟩ (.pointer (some ⟨w.heap.size,0,none⟩))).alloc (.cells (Array.replicate 1024 (.int .u8 0)) 257):=World.setCell_alloc_past _ _ _ _ hlt;have hat:=At.at_ (w.setCell ⟨a,addr/1024,none⟩ (.pointer (some ⟨w.heap.size,0,none⟩))) (Array.replicate 1024 (.int .u8 0)) 257 sz;have c9:=hat.2.1 (addr%1024);have f9:=hat.2.2 (addr%1024);rw[show (Array.replicate 1024 (Value.int .u8 0))[addr%1024]?=some (.int .u8 0)by rw[Array.getElem?_replicate,if_pos (by omega)]]at c9;rw[ew,World.setCell_alloc_at _ _ _ _ _ sz.symm]at hp hg;unfold bv at hp hg ⊢;replace hat:=Hid.mk hat;replace ew:=Hid.mk ew;replace hp:=Hid.mk hp;replace hg:=Hid.mk hg;go_enter Tryz.func144,Tryz.ntmps144;go_wp2_with fail;go_end0;exact⟨rfl,_,⟨_,hp.out⟩,hg.out⟩
 |some k=>
  rw[e]at h1;have h2:=((h.page (addr/1024) k (by omega) e).2.2 (addr%1024) (by omega));have hp:=h.put addr k v ha e;have hf:=h.put_fr addr k (bv v) ha e;obtain⟨h2,f2⟩:=h2;unfold bv at h2 hp hf ⊢;replace h:=Hid.mk h;replace hp:=Hid.mk hp;replace hf:=Hid.mk hf;simp only[ptr,Option.map_some]at h1;go_enter Tryz.func144,Tryz.ntmps144;go_wp2_with fail;go_end0;exact⟨rfl,S,⟨pg,hp.out⟩,hf.out⟩
def leB (b:Nat→UInt8)(addr:Nat):Nat→Nat
 |0=>0
 |k+1=>leB b addr k+(b (addr+k)).toNat*2^(8*k)
def putB (b:Nat→UInt8)(addr n:Nat):Nat→Nat→UInt8
 |0=>b
 |k+1=>upd (putB b addr n k) (addr+k) (UInt8.ofNat (n/2^(8*k)%256))
theorem leB_lt (b:Nat→UInt8)(addr k:Nat):leB b addr k<2^(8*k):=by
 induction k with
 |zero=>simp[leB]
 |succ k ih=>
  have h:=(b (addr+k)).toNat_lt;have h1:(b (addr+k)).toNat*2^(8*k)≤255*2^(8*k):=Nat.mul_le_mul_right _ (by omega);have h2:2^(8*(k+1))=256*2^(8*k):=by rw[show 8*(k+1)=8+8*k by omega,Nat.pow_add]
  rw[leB,h2];omega
theorem or_add (a b k:Nat)(ha:a<2^k):a |||(b*2^k)=a+b*2^k:=by
 rw[Nat.mul_comm b,Nat.or_comm,←Nat.two_pow_add_eq_or_of_lt ha,Nat.add_comm]
theorem or_shift (x b k:Nat)(h1:x<2^k)(hb:b<256)(hk:k≤56):bits .or .u64 (x:Int) (IntKind.u64.wrap ((b:Int)*2^k))=((x+b*2^k:Nat):Int):=by
 have hpk:2^k≤2^56:=Nat.pow_le_pow_right (by omega) hk;have hm:b*2^k≤255*2^56:=Nat.mul_le_mul (by omega) hpk;have ho:=or_add x b k h1;have e:(b:Int)*2^k=((b*2^k:Nat):Int):=by simp
 rw[e,IntKind.wrap_u64];generalize b*2^k=q at*;have hq:(q:Int)%18446744073709551616=q:=by omega
 rw[hq,u64_or (x:Int) q (by omega) (by omega) (by omega) (by omega),Int.toNat_natCast,Int.toNat_natCast,ho]
theorem number_any (S:Nat→Prop)(a addr size:Nat)(b:Nat→UInt8)(w:World)(h:PgIn S w a b)(ha:addr+size≤65536)(hs:size≤8):
 Calls Tryz.prog 179 #[.pointer (some ⟨a,0,none⟩),.int .u64 addr,.int .u64 size] w fun x w'=>x=.returned (.int .u64 (leB b addr size))∧w'=w:=by
 have hG:=fun j (hj:j<65536)=>get_any S a j b w h hj
 replace h:=Hid.mk h;go_enter Tryz.func179,Tryz.ntmps179;go_wp2_with fail;go_loopw [7,10] (fun v i wr=>∃j:Nat,v=.int .u64 (leB b addr j)∧i=.int .u64 j∧j≤size∧wr=w) (fun _ i _=>size - (intOf i).toNat)
 case atStart=>exact⟨0,rfl,rfl,by omega,rfl⟩
 case round=>
  obtain⟨j,rfl,rfl,hj,rfl⟩:=hrel;by_cases hlt:j<size
  ·have jl:(j:Int)<size:=by omega
   have hg:=hG (addr+j) (by omega);have hb:=(b (addr+j)).toNat_lt;have hrg:=leB_lt b addr j;have hor:=or_shift _ _ (8*j) hrg hb (by omega);have hnx:leB b addr (j+1)=leB b addr j+(b (addr+j)).toNat*2^(8*j):=rfl;rw[←hnx]at hor;unfold bv at hg;generalize hy:leB b addr (j+1)=y at*;generalize leB b addr j=x at*;generalize (b (addr+j)).toNat=c at*;have m0:IntKind.u64.wrap ((addr:Int)+j)=((addr+j:Nat):Int):=by rw[IntKind.wrap_u64];omega
   have m1:IntKind.u64.wrap (8*(j:Int))=8*j:=by rw[IntKind.wrap_u64];omega
   have m2:(0:Int)≤8*(j:Int):=by omega
   have m3:(8*(j:Int))≤64:=by omega
   have m4:IntKind.u64.wrap (c:Int)=c:=by rw[IntKind.wrap_u64];omega
   replace hrg:=Hid.mk hrg;replace hor:=Hid.mk hor;replace hy:=Hid.mk hy;clear hnx hG;go_wp2_with fail;refine hg.mono ?_;rintro x w1 ⟨rfl,rfl⟩;go_wp2_with fail;exact⟨⟨j+1,by rw[hor.out,hy.out],by go_num,by omega,trivial⟩,by simp[intOf];omega⟩
  ·have jl:¬(j:Int)<size:=by omega
   have:j=size:=by omega
   subst this;go_wp2_with fail;go_ret;exact⟨rfl,rfl⟩
theorem setNumber_any (S:Nat→Prop)(a addr size n:Nat)(b:Nat→UInt8)(w:World)(h:PgIn S w a b)(ha:addr+size≤65536)(hs:size≤8):
 Calls Tryz.prog 147 #[.pointer (some ⟨a,0,none⟩),.int .u64 addr,.int .u64 size,.int .u64 n] w fun x w'=>x=.returned (.tuple #[])∧∃S',PgIn S' w' a (putB b addr n size)∧Fr S S' w w' a:=by
 replace h:=Hid.mk h;go_enter Tryz.func147,Tryz.ntmps147;go_wp2_with fail;go_loopw [10] (fun i wr=>∃j:Nat,i=.int .u64 j∧j≤size∧∃S',PgIn S' wr a (putB b addr n j)∧Fr S S' w wr a) (fun i _=>size - (intOf i).toNat)
 case atStart=>exact⟨0,rfl,by omega,S,h.out,Fr.refl S w a⟩
 case round=>
  obtain⟨j,rfl,hj,S',h1,hf⟩:=hrel;by_cases hlt:j<size
  ·have jl:(j:Int)<size:=by omega
   have hk:=fun W q=>set_any S' a (addr+j) (putB b addr n j) (UInt8.ofNat (n/2^(8*j)%256)) W q (by omega)
   have hnx:putB b addr n (j+1)=upd (putB b addr n j) (addr+j) (UInt8.ofNat (n/2^(8*j)%256)):=rfl;have e1:bv (UInt8.ofNat (n/2^(8*j)%256))=.int .u8 ((n:Int)/2^(8*j)%256):=by
    have:n/2^(8*j)%256%256=n/2^(8*j)%256:=by omega
    simp[bv,UInt8.toNat_ofNat',this]
   rw[←hnx,e1,Int.natCast_add]at hk;clear e1;have m0:IntKind.u64.wrap ((addr:Int)+j)=((addr+j:Nat):Int):=by rw[IntKind.wrap_u64];omega
   have m1:IntKind.u64.wrap (8*(j:Int))=8*j:=by rw[IntKind.wrap_u64];omega
   have m2:(0:Int)≤8*(j:Int):=by omega
   have m3:(8*(j:Int))≤64:=by omega
   generalize hb1:putB b addr n (j+1)=b1 at*;replace hb1:=Hid.mk hb1;generalize putB b addr n j=b0 at*;clear hnx;replace hf:=Hid.mk hf;replace h1:=Hid.mk h1;go_wp2_with fail;refine(hk _ h1.out).mono ?_;rintro x w1 ⟨rfl,S1,h2,hf2⟩;replace h2:=Hid.mk h2;replace hf2:=Hid.mk hf2;go_wp2_with fail;exact⟨⟨j+1,by go_num,by omega,S1,by rw[hb1.out];exact h2.out,hf.out.trans hf2.out⟩,by simp[intOf];omega⟩
  ·have jl:¬(j:Int)<size:=by omega
   have:j=size:=by omega
   subst this;replace hf:=Hid.mk hf;replace h1:=Hid.mk h1;go_wp2_with fail;go_end0;exact⟨rfl,S',h1.out,hf.out⟩
structure Cp where
 b:Int
 e:Int
 c:Int
 p:Int
 s:Int
def Cp.agg (k:Cp):Value:=.agg #[.int .u64 k.b,.int .u64 k.e,.int .u64 k.c,.int .u8 k.p,.int .i64 k.s]
def Cp.zero:Cp:=⟨0,0,0,0,0⟩
def plTag:Option Cp→Bool
 |none=>false
 |some _=>true
def plCap:Option Cp→Cp
 |none=>Cp.zero
 |some c=>c
def Six (w:World)(k o:Nat)(p:Option Cp):Prop:=
 w.cell? ⟨k,o,none⟩=some (.bool (plTag p))∧w.cell? ⟨k,o+1,none⟩=some (.int .u64 (plCap p).b)∧w.cell? ⟨k,o+1+1,none⟩=some (.int .u64 (plCap p).e)∧w.cell? ⟨k,o+1+1+1,none⟩=some (.int .u64 (plCap p).c)∧w.cell? ⟨k,o+1+1+1+1,none⟩=some (.int .u8 (plCap p).p)∧w.cell? ⟨k,o+1+1+1+1+1,none⟩=some (.int .i64 (plCap p).s)
theorem Six.of_block {w w':World}{k o:Nat}{p:Option Cp}(h:Six w k o p)(hb:w'.heap[k]?=w.heap[k]?):Six w' k o p:=by
 unfold Six at*;simp only[cell_of_block hb];exact h
structure Cg (S:Nat→Prop)(w:World)(a:Nat)(cg:Nat→Option Nat)(t:Nat→Option Cp):Prop where
 lt:a<w.heap.size
 no:¬S a
 own:∀k,S k→k<w.heap.size
 box:∀i,i<64→w.cell? ⟨a,64+i,none⟩=some (ptr (cg i))∧w.frozen? ⟨a,64+i,none⟩=false
 page:∀i k,i<64→cg i=some k→S k∧k<w.heap.size∧(∀j,j<64→Six w k (j*6) (t (i*64+j)))∧∀o,w.frozen? ⟨k,o,none⟩=false
 zero:∀i,i<64→cg i=none→∀j,j<64→t (i*64+j)=none
 inj:∀i j k,i<64→j<64→cg i=some k→cg j=some k→i=j
def CgIn (S:Nat→Prop)(w:World)(a:Nat)(t:Nat→Option Cp):Prop:=∃cg,Cg S w a cg t
theorem Cg.keep {S:Nat→Prop}{w w':World}{a:Nat}{cg:Nat→Option Nat}{t:Nat→Option Cp}(h:Cg S w a cg t)(hs:w.heap.size≤w'.heap.size)
 (hb:∀o,64≤o→w'.cell? ⟨a,o,none⟩=w.cell? ⟨a,o,none⟩∧w'.frozen? ⟨a,o,none⟩=w.frozen? ⟨a,o,none⟩)(hk:∀k,S k→k<w.heap.size→w'.heap[k]?=w.heap[k]?):Cg S w' a cg t:=
 ⟨Nat.lt_of_lt_of_le h.lt hs,h.no,fun k q=>Nat.lt_of_lt_of_le (h.own k q) hs,fun i hi=>⟨(hb _ (by omega)).1.trans (h.box i hi).1,(hb _ (by omega)).2.trans (h.box i hi).2⟩,
  fun i k hi he=>by
   obtain⟨h1,h2,h3,h4⟩:=h.page i k hi he;exact⟨h1,Nat.lt_of_lt_of_le h2 hs,fun j hj=>(h3 j hj).of_block (hk k h1 h2),fun o=>(frozen_of_block (hk k h1 h2) o).trans (h4 o)⟩,h.zero,h.inj⟩
theorem CgIn.keep {S:Nat→Prop}{w w':World}{a:Nat}{t:Nat→Option Cp}(h:CgIn S w a t)(hs:w.heap.size≤w'.heap.size)
 (hb:∀o,64≤o→w'.cell? ⟨a,o,none⟩=w.cell? ⟨a,o,none⟩∧w'.frozen? ⟨a,o,none⟩=w.frozen? ⟨a,o,none⟩)(hk:∀k,S k→k<w.heap.size→w'.heap[k]?=w.heap[k]?):CgIn S w' a t:=by
 obtain⟨cg,h⟩:=h;exact⟨cg,h.keep hs hb hk⟩
theorem Cg.gr {S:Nat→Prop}{w w':World}{a:Nat}{cg:Nat→Option Nat}{t:Nat→Option Cp}(h:Cg S w a cg t)(hb:Below w.heap.size w w'):Cg S w' a cg t:=
 h.keep hb.size (fun o _=>⟨hb.cell (p:=⟨a,o,none⟩) h.lt,hb.frozen (p:=⟨a,o,none⟩) h.lt⟩) (fun k _ hk=>hb.block k hk)
theorem CgIn.gr {S:Nat→Prop}{w w':World}{a:Nat}{t:Nat→Option Cp}(h:CgIn S w a t)(hb:Below w.heap.size w w'):CgIn S w' a t:=by
 obtain⟨cg,h⟩:=h;exact⟨cg,h.gr hb⟩
theorem PgIn.gr {S:Nat→Prop}{w w':World}{a:Nat}{b:Nat→UInt8}(h:PgIn S w a b)(hb:Below w.heap.size w w'):PgIn S w' a b:=by
 obtain⟨pg,h⟩:=h;exact⟨pg,h.keep hb.size (fun o _=>⟨hb.cell (p:=⟨a,o,none⟩) h.lt,hb.frozen (p:=⟨a,o,none⟩) h.lt⟩) (fun k _ hk=>hb.block k hk)⟩
structure Gf (S S':Nat→Prop)(w w':World)(a:Nat):Prop where
 up:∀k,S k→S' k
 new:∀k,S' k→S k∨w.heap.size≤k
 kp:Kp (fun k=>k=a∨S k) w w'
 rest:∀o,o<64→w'.cell? ⟨a,o,none⟩=w.cell? ⟨a,o,none⟩∧w'.frozen? ⟨a,o,none⟩=w.frozen? ⟨a,o,none⟩
theorem Gf.refl (S:Nat→Prop)(w:World)(a:Nat):Gf S S w w a:=⟨fun _ h=>h,fun _ h=>.inl h,Kp.refl _ w,fun _ _=>⟨rfl,rfl⟩⟩
theorem Gf.trans {S S1 S2:Nat→Prop}{w w1 w2:World}{a:Nat}(h:Gf S S1 w w1 a)(g:Gf S1 S2 w1 w2 a):Gf S S2 w w2 a:=
 ⟨fun k q=>g.up k (h.up k q),fun k q=>by
  rcases g.new k q with r|r
  ·exact h.new k r
  ·exact .inr (Nat.le_trans h.kp.size r),
  h.kp.trans g.kp (fun k q=>by
   rcases q with q|q
   ·exact .inl (.inl q)
   ·rcases h.new k q with r|r
    ·exact .inl (.inr r)
    ·exact .inr r),
  fun o ho=>⟨(g.rest o ho).1.trans (h.rest o ho).1,(g.rest o ho).2.trans (h.rest o ho).2⟩⟩
theorem at_none (S:Nat→Prop)(a addr:Nat)(cg:Nat→Option Nat)(t:Nat→Option Cp)(w:World)(h:Cg S w a cg t)(ha:addr<65536)(e:cg (addr/1024)=none):
 Calls Tryz.prog 145 #[.pointer (some ⟨a,64,none⟩),.int .u64 addr] w fun x w'=>x=.returned (.pointer none)∧w'=w:=by
 have h1:=(h.box (addr/1024) (by omega)).1;rw[e]at h1;simp only[ptr,Option.map_none]at h1;replace h:=Hid.mk h;go_enter Tryz.func145,Tryz.ntmps145;go_wp2_with fail;go_ret;exact⟨rfl,rfl⟩
theorem at_some (S:Nat→Prop)(a addr k:Nat)(cg:Nat→Option Nat)(t:Nat→Option Cp)(w:World)(h:Cg S w a cg t)(ha:addr<65536)(e:cg (addr/1024)=some k):
 Calls Tryz.prog 145 #[.pointer (some ⟨a,64,none⟩),.int .u64 addr] w fun x w'=>x=.returned (.pointer (some ⟨k,addr%1024/16*6,none⟩))∧w'=w:=by
 have h1:=(h.box (addr/1024) (by omega)).1;rw[e]at h1;simp only[ptr,Option.map_some]at h1;have h2:=(h.page _ k (by omega) e).2.2.1 (addr%1024/16) (by omega);unfold Six at h2;obtain⟨c0,c1,c2,c3,c4,c5⟩:=h2;replace h:=Hid.mk h;go_enter Tryz.func145,Tryz.ntmps145;go_wp2_with fail;go_ret;exact⟨rfl,rfl⟩
def updT (t:Nat→Option Cp)(g:Nat)(p:Option Cp):Nat→Option Cp:=fun x=>if x=g then p else t x
def set6 (w:World)(k o:Nat)(p:Option Cp):World:=
 (((((w.setCell ⟨k,o,none⟩ (.bool (plTag p))).setCell ⟨k,o+1,none⟩ (.int .u64 (plCap p).b)).setCell ⟨k,o+1+1,none⟩ (.int .u64 (plCap p).e)).setCell ⟨k,o+1+1+1,none⟩ (.int .u64 (plCap p).c)).setCell ⟨k,o+1+1+1+1,none⟩ (.int .u8 (plCap p).p)).setCell ⟨k,o+1+1+1+1+1,none⟩ (.int .i64 (plCap p).s)
theorem set6_size (w:World)(k o:Nat)(p:Option Cp):(set6 w k o p).heap.size=w.heap.size:=by simp[set6]
theorem set6_other (w:World)(k o k' o':Nat)(p:Option Cp)(h:k=k'→o'<o∨o+6≤o'):(set6 w k o p).cell? ⟨k',o',none⟩=w.cell? ⟨k',o',none⟩:=by
 unfold set6;rw[cso (fun q=>by have:=h q;omega),cso (fun q=>by have:=h q;omega),cso (fun q=>by have:=h q;omega),cso (fun q=>by have:=h q;omega),cso (fun q=>by have:=h q;omega),cso (fun q=>by have:=h q;omega)]
theorem set6_frozen (w:World)(k o k' o':Nat)(p:Option Cp):(set6 w k o p).frozen? ⟨k',o',none⟩=w.frozen? ⟨k',o',none⟩:=by simp[set6]
theorem css {w:World}{k o:Nat}{v u:Value}(h:w.cell? ⟨k,o,none⟩=some u):(w.setCell ⟨k,o,none⟩ v).cell? ⟨k,o,none⟩=some v:=World.cell?_setCell_same w _ v h
theorem set6_six {w:World}{k o:Nat}{q:Option Cp}(h:Six w k o q)(p:Option Cp):Six (set6 w k o p) k o p:=by
 obtain⟨c0,c1,c2,c3,c4,c5⟩:=h;unfold set6;refine⟨?_,?_,?_,?_,?_,?_⟩
 ·rw[cso (fun _=>by omega),cso (fun _=>by omega),cso (fun _=>by omega),cso (fun _=>by omega),cso (fun _=>by omega),css c0]
 ·rw[cso (fun _=>by omega),cso (fun _=>by omega),cso (fun _=>by omega),cso (fun _=>by omega),css ((cso (fun _=>by omega)).trans c1)]
 ·rw[cso (fun _=>by omega),cso (fun _=>by omega),cso (fun _=>by omega),css ((cso (fun _=>by omega)).trans ((cso (fun _=>by omega)).trans c2))]
 ·rw[cso (fun _=>by omega),cso (fun _=>by omega),css ((cso (fun _=>by omega)).trans ((cso (fun _=>by omega)).trans ((cso (fun _=>by omega)).trans c3)))]
 ·rw[cso (fun _=>by omega),css ((cso (fun _=>by omega)).trans ((cso (fun _=>by omega)).trans ((cso (fun _=>by omega)).trans ((cso (fun _=>by omega)).trans c4))))]
 ·rw[css ((cso (fun _=>by omega)).trans ((cso (fun _=>by omega)).trans ((cso (fun _=>by omega)).trans ((cso (fun _=>by omega)).trans ((cso (fun _=>by omega)).trans c5)))))]
theorem set6_kp (S:Nat→Prop)(w:World)(k o:Nat)(p:Option Cp)(h:S k):Kp S w (set6 w k o p):=by
 unfold set6;exact(((((Kp.set w ⟨k,_,none⟩ _ h).trans (Kp.set _ ⟨k,_,none⟩ _ h) (fun _ q=>.inl q)).trans (Kp.set _ ⟨k,_,none⟩ _ h) (fun _ q=>.inl q)).trans (Kp.set _ ⟨k,_,none⟩ _ h) (fun _ q=>.inl q)).trans (Kp.set _ ⟨k,_,none⟩ _ h) (fun _ q=>.inl q)).trans (Kp.set _ ⟨k,_,none⟩ _ h) (fun _ q=>.inl q)
theorem Cg.put {S:Nat→Prop}{w:World}{a:Nat}{cg:Nat→Option Nat}{t:Nat→Option Cp}(h:Cg S w a cg t)(addr k:Nat)(p:Option Cp)(ha:addr<65536)(e:cg (addr/1024)=some k):
 Cg S (set6 w k (addr%1024/16*6) p) a cg (updT t (addr/16) p):=by
 have hp:=h.page _ k (by omega) e;have hka:k≠a:=fun q=>h.no (q▸hp.1)
 refine⟨by rw[set6_size];exact h.lt,h.no,fun k' q=>by rw[set6_size];exact h.own k' q,fun i hi=>⟨?_,?_⟩,fun i k' hi he=>?_,fun i hi he j hj=>?_,h.inj⟩
 ·rw[set6_other _ _ _ _ _ _ (fun q=>absurd q hka)];exact(h.box i hi).1
 ·rw[set6_frozen];exact(h.box i hi).2
 ·obtain⟨g1,g2,g3,g4⟩:=h.page i k' hi he;refine⟨g1,by rw[set6_size];exact g2,fun j hj=>?_,fun o=>by rw[set6_frozen];exact g4 o⟩;by_cases hq:k=k'∧addr%1024/16=j
  ·obtain⟨rfl,rfl⟩:=hq;have hi':i=addr/1024:=h.inj i (addr/1024) k hi (by omega) he e;have:i*64+addr%1024/16=addr/16:=by omega
   simp only[updT,this,if_true];exact set6_six (g3 _ hj) p
  ·have hne:i*64+j≠addr/16:=by
    intro q;have e1:i=addr/1024:=by omega
    subst e1;rw[e]at he;exact hq ⟨by simpa using he,by omega⟩
   simp only[updT,hne,if_false];have g:=g3 j hj;have hh:∀r,r<6→k=k'→j*6+r<addr%1024/16*6∨addr%1024/16*6+6≤j*6+r:=fun r hr q=>by
    have:addr%1024/16≠j:=fun e2=>hq ⟨q,e2⟩
    omega
   refine⟨?_,?_,?_,?_,?_,?_⟩
   ·rw[set6_other _ _ _ _ _ _ (fun q=>by have:=hh 0 (by omega) q;omega)];exact g.1
   ·rw[set6_other _ _ _ _ _ _ (hh 1 (by omega))];exact g.2.1
   ·rw[set6_other _ _ _ _ _ _ (hh 2 (by omega))];exact g.2.2.1
   ·rw[set6_other _ _ _ _ _ _ (hh 3 (by omega))];exact g.2.2.2.1
   ·rw[set6_other _ _ _ _ _ _ (hh 4 (by omega))];exact g.2.2.2.2.1
   ·rw[set6_other _ _ _ _ _ _ (hh 5 (by omega))];exact g.2.2.2.2.2
 ·have hne:i*64+j≠addr/16:=by
   intro q;have e1:i=addr/1024:=by omega
   subst e1;rw[e]at he;simp at he
  simp only[updT,hne,if_false];exact h.zero i hi he j hj
theorem Cg.put_gf {S:Nat→Prop}{w:World}{a:Nat}{cg:Nat→Option Nat}{t:Nat→Option Cp}(h:Cg S w a cg t)(addr k o:Nat)(p:Option Cp)(ha:addr<65536)(e:cg (addr/1024)=some k):
 Gf S S w (set6 w k o p) a:=by
 have hp:=h.page _ k (by omega) e;have hka:k≠a:=fun q=>h.no (q▸hp.1)
 exact⟨fun _ q=>q,fun _ q=>.inl q,set6_kp _ w _ _ _ (.inr hp.1),fun o' _=>⟨set6_other _ _ _ _ _ _ (fun q=>absurd q hka),set6_frozen _ _ _ _ _ _⟩⟩
def zc (r:Nat):Value:=if r=0 then .bool false else if r=4 then .int .u8 0 else if r=5 then .int .i64 0 else .int .u64 0
def capZero:Array Value:=((List.range 384).map fun i=>zc (i%6)).toArray
theorem capPage_zero (w:World):(zeroValue 260).run Tryz.prog w=.ok (.agg capZero) w:=by kernel_rfl
theorem capZero_at (i:Nat)(h:i<384):capZero[i]?=some (zc (i%6)):=by
 simp[capZero,h]
theorem Cg.lay {S:Nat→Prop}{w:World}{a:Nat}{cg:Nat→Option Nat}{t:Nat→Option Cp}(h:Cg S w a cg t)(i0:Nat)(ty:TypeId)(hi0:i0<64)(e:cg i0=none):
 Cg (fun k=>S k∨k=w.heap.size) ((w.setCell ⟨a,64+i0,none⟩ (.pointer (some ⟨w.heap.size,0,none⟩))).alloc (.cells capZero ty)) a (fun i=>if i=i0 then some w.heap.size else cg i) t:=by
 have hlt:=h.lt;have hB:=(Below.refl _ (w.setCell ⟨a,64+i0,none⟩ (.pointer (some ⟨w.heap.size,0,none⟩)))).alloc (Nat.le_refl _) (.cells capZero ty);have sz:(w.setCell ⟨a,64+i0,none⟩ (.pointer (some ⟨w.heap.size,0,none⟩))).heap.size=w.heap.size:=by simp
 rw[sz]at hB;have hat:=At.at_ (w.setCell ⟨a,64+i0,none⟩ (.pointer (some ⟨w.heap.size,0,none⟩))) capZero ty sz;refine⟨by simp;omega,fun q=>?_,fun k q=>?_,fun i hi=>⟨?_,?_⟩,fun i k hi he=>?_,fun i hi he j hj=>?_,fun i j k hi hj e1 e2=>?_⟩
 ·rcases q with q|q
  ·exact h.no q
  ·omega
 ·rcases q with q|q
  ·have:=h.own k q;simp;omega
  ·subst q;simp
 ·rw[hB.cell (p:=⟨a,64+i,none⟩) hlt];by_cases hq:i=i0
  ·subst hq;rw[css (h.box i hi).1];simp[ptr]
  ·rw[cso (fun _=>by omega),(h.box i hi).1];simp[hq]
 ·rw[hB.frozen (p:=⟨a,64+i,none⟩) hlt];simpa using(h.box i hi).2
 ·by_cases hq:i=i0
  ·subst hq;simp at he;subst he;refine⟨.inr rfl,by simp,fun j hj=>?_,fun o=>hat.2.2 o⟩;rw[h.zero i hi e j hj];have hh:∀r,r<6→((w.setCell ⟨a,64+i,none⟩ (.pointer (some ⟨w.heap.size,0,none⟩))).alloc (.cells capZero ty)).cell? ⟨w.heap.size,j*6+r,none⟩=some (zc r):=fun r hr=>by
    rw[hat.2.1,capZero_at _ (by omega),show(j*6+r)%6=r by omega]
   exact⟨hh 0 (by omega),hh 1 (by omega),hh 2 (by omega),hh 3 (by omega),hh 4 (by omega),hh 5 (by omega)⟩
  ·simp only[hq,if_false]at he;obtain⟨g1,g2,g3,g4⟩:=h.page i k hi he;have hka:a≠k:=fun q=>h.no (q▸g1)
   have hbk:((w.setCell ⟨a,64+i0,none⟩ (.pointer (some ⟨w.heap.size,0,none⟩))).alloc (.cells capZero ty)).heap[k]?=w.heap[k]?:=(hB.block k g2).trans (heap_set w ⟨a,64+i0,none⟩ _ k hka);exact⟨.inl g1,by simp;omega,fun j hj=>(g3 j hj).of_block hbk,fun o=>(frozen_of_block hbk o).trans (g4 o)⟩
 ·by_cases hq:i=i0
  ·subst hq;simp at he
  ·simp only[hq,if_false]at he;exact h.zero i hi he j hj
 ·by_cases q1:i=i0<;>by_cases q2:j=i0
  ·omega
  ·simp only[q1,q2,if_true,if_false]at e1 e2;have:=(h.page j k hj e2).2.1;simp at e1;omega
  ·simp only[q1,q2,if_true,if_false]at e1 e2;have:=(h.page i k hi e1).2.1;simp at e2;omega
  ·simp only[q1,q2,if_false]at e1 e2;exact h.inj i j k hi hj e1 e2
theorem Cg.lay_gf {S:Nat→Prop}{w:World}{a:Nat}{cg:Nat→Option Nat}{t:Nat→Option Cp}(h:Cg S w a cg t)(i0:Nat)(o:Obj)(v:Value):
 Gf S (fun k=>S k∨k=w.heap.size) w ((w.setCell ⟨a,64+i0,none⟩ v).alloc o) a:=by
 have hlt:=h.lt;have sz:(w.setCell ⟨a,64+i0,none⟩ v).heap.size=w.heap.size:=by simp
 have hB:=(Below.refl _ (w.setCell ⟨a,64+i0,none⟩ v)).alloc (Nat.le_refl _) o;rw[sz]at hB;refine⟨fun _ q=>.inl q,fun k q=>?_,(Kp.set w ⟨a,64+i0,none⟩ v (.inl rfl)).trans (Kp.alloc (fun k=>k=a∨S k) _ o) (fun k q=>.inl q),fun x hx=>⟨?_,?_⟩⟩
 ·rcases q with q|q
  ·exact .inl q
  ·exact .inr (by omega)
 ·rw[hB.cell (p:=⟨a,x,none⟩) hlt,cso (fun _=>by omega)]
 ·rw[hB.frozen (p:=⟨a,x,none⟩) hlt];simp
theorem held_any (S:Nat→Prop)(a addr:Nat)(t:Nat→Option Cp)(w:World)(h:CgIn S w a t)(ha:addr<65536):
 Calls Tryz.prog 180 #[.pointer (some ⟨a,64,none⟩),.int .u64 addr] w fun x w'=>x=.returned (.tuple #[(plCap (t (addr/16))).agg,.bool (plTag (t (addr/16)))])∧Below w.heap.size w w':=by
 obtain⟨cg,h⟩:=h
 cases e:cg (addr/1024)with
 |none=>
  have hz:=h.zero (addr/1024) (by omega) e (addr%1024/16) (by omega);rw[show addr/1024*64+addr%1024/16=addr/16 by omega]at hz;rw[hz];have hA:=fun W (hB:Below w.heap.size w W)=>at_none S a addr cg t W (h.gr hB) ha e
  replace h:=Hid.mk h;go_enter Tryz.func180,Tryz.ntmps180;go_wp2_with fail;refine(hA _ ((Below.refl _ w).alloc (Nat.le_refl _) _)).mono ?_;rintro x w1 ⟨rfl,rfl⟩;clear hA;go_wp2_with fail;simp[bodyPost,results,Tryz.results180,go_sem,plCap,plTag,Cp.agg,Cp.zero];exact(Below.refl _ w).alloc (Nat.le_refl _) _
 |some k=>
  have h2:=(h.page (addr/1024) k (by omega) e).2.2.1 (addr%1024/16) (by omega);rw[show addr/1024*64+addr%1024/16=addr/16 by omega]at h2;have hlt:=(h.page (addr/1024) k (by omega) e).2.1;have hA:=fun W (hB:Below w.heap.size w W)=>at_some S a addr k cg t W (h.gr hB) ha e
  unfold Six at h2;obtain⟨c0,c1,c2,c3,c4,c5⟩:=h2;generalize t (addr/16)=p at*;generalize plTag p=g at*;unfold Cp.agg;generalize (plCap p).b=v1 at*;generalize (plCap p).e=v2 at*;generalize (plCap p).c=v3 at*;generalize (plCap p).p=v4 at*;generalize (plCap p).s=v5 at*;replace h:=Hid.mk h;go_enter Tryz.func180,Tryz.ntmps180;go_wp2_with fail;refine(hA _ ((Below.refl _ w).alloc (Nat.le_refl _) _)).mono ?_;rintro x w1 ⟨rfl,rfl⟩;clear hA;go_wp2_with fail;go_region;go_wp2_with fail;simp[bodyPost,results,Tryz.results180,go_sem];exact Below.drew ((Below.refl _ w).alloc (Nat.le_refl _) _)
theorem Gf.below {S:Nat→Prop}{w w':World}{a:Nat}(h:Below w.heap.size w w')(ha:a<w.heap.size):Gf S S w w' a:=
 ⟨fun _ q=>q,fun _ q=>.inl q,Kp.of_below h,fun o _=>⟨h.cell (p:=⟨a,o,none⟩) ha,h.frozen (p:=⟨a,o,none⟩) ha⟩⟩
structure Rdy (S:Nat→Prop)(w W:World)(a i n:Nat)(c:Cp)(t:Nat→Option Cp)(k:Nat):Prop where
 go:∃S' cg,Cg S' W a cg t∧cg i=some k∧Gf S S' w W a
 five:At W n #[.int .u64 c.b,.int .u64 c.e,.int .u64 c.c,.int .u8 c.p,.int .i64 c.s]
theorem Rdy.drew {S:Nat→Prop}{w W:World}{a i n:Nat}{c:Cp}{t:Nat→Option Cp}{k:Nat}(h:Rdy S w W a i n c t k):Rdy S w W.drew a i n c t k:=by
 obtain⟨⟨S',cg,g1,g2,g3⟩,g4⟩:=h;exact⟨⟨S',cg,g1.gr (Below.drew (Below.refl _ _)),g2,g3.trans (Gf.below (Below.drew (Below.refl _ _)) g1.lt)⟩,g4.drew⟩
theorem hold_any (S:Nat→Prop)(a addr:Nat)(t:Nat→Option Cp)(c:Cp)(w:World)(h:CgIn S w a t)(ha:addr<65536):
 Calls Tryz.prog 148 #[.pointer (some ⟨a,64,none⟩),.int .u64 addr,c.agg] w fun x w'=>x=.returned (.tuple #[])∧∃S',CgIn S' w' a (updT t (addr/16) (some c))∧Gf S S' w w' a:=by
 obtain⟨cg,h⟩:=h;have h1:=(h.box (addr/1024) (by omega)).1;have f1:=(h.box (addr/1024) (by omega)).2;have hlt:=h.lt;have fin:∀k W,Rdy S w W a (addr/1024) w.heap.size c t k→∃S',CgIn S' (set6 W k (addr%1024/16*6) (some c)).drew a (updT t (addr/16) (some c))∧Gf S S' w (set6 W k (addr%1024/16*6) (some c)).drew a:=by
  rintro k W ⟨⟨S',cg',g1,g2,g3⟩,g4⟩;have q1:=g1.put addr k (some c) ha g2;exact⟨S',⟨cg',q1.gr (Below.drew (Below.refl _ _))⟩,(g3.trans (g1.put_gf addr k _ (some c) ha g2)).trans (Gf.below (Below.drew (Below.refl _ _)) q1.lt)⟩
 have hA:∀k W,Rdy S w W a (addr/1024) w.heap.size c t k→Calls Tryz.prog 145 #[.pointer (some ⟨a,64,none⟩),.int .u64 addr] W fun x w'=>x=.returned (.pointer (some ⟨k,addr%1024/16*6,none⟩))∧w'=W:=by
  rintro k W ⟨⟨S',cg',g1,g2,g3⟩,g4⟩;exact at_some S' a addr k cg' t W g1 ha g2
 have hC:∀k W,Rdy S w W a (addr/1024) w.heap.size c t k→(W.cell? ⟨w.heap.size,0,none⟩=some (.int .u64 c.b)∧W.cell? ⟨w.heap.size,1,none⟩=some (.int .u64 c.e)∧W.cell? ⟨w.heap.size,2,none⟩=some (.int .u64 c.c)∧W.cell? ⟨w.heap.size,3,none⟩=some (.int .u8 c.p)∧W.cell? ⟨w.heap.size,4,none⟩=some (.int .i64 c.s))∧(∃p,Six W k (addr%1024/16*6) p)∧∀o,W.frozen? ⟨k,o,none⟩=false:=by
  rintro k W ⟨⟨S',cg',g1,g2,g3⟩,g4⟩;have hp:=g1.page _ k (by omega) g2;exact⟨⟨g4.2.1 0,g4.2.1 1,g4.2.1 2,g4.2.1 3,g4.2.1 4⟩,⟨_,hp.2.2.1 (addr%1024/16) (by omega)⟩,hp.2.2.2⟩
 cases e:cg (addr/1024)with
 |none=>
  have r:Rdy S w (((w.setCell ⟨a,64+addr/1024,none⟩ (.pointer (some ⟨w.heap.size+1,0,none⟩))).alloc (.cells #[.int .u64 c.b,.int .u64 c.e,.int .u64 c.c,.int .u8 c.p,.int .i64 c.s] 77)).alloc (.cells capZero 260)) a (addr/1024) w.heap.size c t (w.heap.size+1):=by
   have hB:Below w.heap.size w (w.alloc (.cells #[.int .u64 c.b,.int .u64 c.e,.int .u64 c.c,.int .u8 c.p,.int .i64 c.s] 77)):=(Below.refl _ w).alloc (Nat.le_refl _) _;have g:=h.gr hB;have g1:=g.lay (addr/1024) 260 (by omega) e;have g2:=g.lay_gf (addr/1024) (.cells capZero 260) (.pointer (some ⟨w.heap.size+1,0,none⟩));rw[World.size_alloc,World.setCell_alloc_past _ _ _ _ hlt]at g1;rw[World.size_alloc,World.setCell_alloc_past _ _ _ _ hlt]at g2;refine⟨⟨_,_,g1,by simp,(Gf.below hB hlt).trans g2⟩,?_⟩;exact(At.at_ _ _ _ (by simp)).alloc _
  rw[e]at h1;simp only[ptr,Option.map_none]at h1;have pz:=capPage_zero;replace h:=Hid.mk h;replace fin:=Hid.mk fin;replace r:=Hid.mk r;unfold Cp.agg;go_enter Tryz.func148,Tryz.ntmps148;go_wp2_with fail;refine wp_world (fun W=>Hid (Rdy S w W a (addr/1024) w.heap.size c t (w.heap.size+1))) r ?_;intro W r';obtain⟨⟨d0,d1,d2,d3,d4⟩,⟨p,q0,q1,q2,q3,q4,q5⟩,q6⟩:=hC _ W r'.out;have hA':=hA _ W.drew r'.out.drew;clear hA hC pz h1 f1;go_region_with (refine hA'.mono ?_;rintro x w1 ⟨rfl,rfl⟩)
  all_goals
   go_wp2_with fail;go_end0;exact⟨rfl,fin.out _ _ r'.out⟩
 |some k=>
  have hB:Below w.heap.size w (w.alloc (.cells #[.int .u64 c.b,.int .u64 c.e,.int .u64 c.c,.int .u8 c.p,.int .i64 c.s] 77)):=(Below.refl _ w).alloc (Nat.le_refl _) _;have r:Rdy S w (w.alloc (.cells #[.int .u64 c.b,.int .u64 c.e,.int .u64 c.c,.int .u8 c.p,.int .i64 c.s] 77)) a (addr/1024) w.heap.size c t k:=⟨⟨S,cg,h.gr hB,e,Gf.below hB hlt⟩,At.new w _ _⟩;rw[e]at h1;simp only[ptr,Option.map_some]at h1;replace h:=Hid.mk h;replace fin:=Hid.mk fin;replace r:=Hid.mk r;unfold Cp.agg;go_enter Tryz.func148,Tryz.ntmps148;go_wp2_with fail;refine wp_world (fun W=>Hid (Rdy S w W a (addr/1024) w.heap.size c t k)) r ?_;intro W r';obtain⟨⟨d0,d1,d2,d3,d4⟩,⟨p,q0,q1,q2,q3,q4,q5⟩,q6⟩:=hC _ W r'.out;have hA':=hA _ W.drew r'.out.drew;clear hA hC h1 f1;go_region_with (refine hA'.mono ?_;rintro x w1 ⟨rfl,rfl⟩)
  all_goals
   go_wp2_with fail;go_end0;exact⟨rfl,fin.out _ _ r'.out⟩
end T
end Go.Proofs.YthlpjlnehonpdaaGreatDoor
