import Derived.Test.YtdidjhillmgccaaGreatTBase
namespace Go.Proofs.YtdidjhillmgccaaGreat
set_option maxRecDepth 100000
set_option maxHeartbeats 40000000
namespace T
open Go.RowKit
theorem get_any (S:Nat→Prop)(a addr:Nat)(b:Nat→UInt8)(w:World)(h:PgIn S w a b)(ha:addr<65536):
 Calls Tryz.prog 139 #[.pointer (some ⟨a,0,none⟩),.int .u64 addr] w fun x w'=>x=.returned (bv (b addr))∧w'=w:=by
 obtain⟨pg,h⟩:=h;have h1:=(h.box (addr/1024) (by omega)).1
 cases e:pg (addr/1024)with
 |none=>
  rw[e]at h1;have hz:=h.zero (addr/1024) (by omega) e (addr%1024) (by omega);rw[show addr/1024*1024+addr%1024=addr by omega]at hz;rw[hz];replace h:=Hid.mk h;simp only[ptr,Option.map_none]at h1;go_enter Tryz.func139,Tryz.ntmps139;go_wp2_with fail;go_ret;exact⟨rfl,rfl⟩
 |some k=>
  rw[e]at h1;have h2:=((h.page (addr/1024) k (by omega) e).2.2 (addr%1024) (by omega)).1;rw[show addr/1024*1024+addr%1024=addr by omega]at h2;replace h:=Hid.mk h;simp only[ptr,Option.map_some]at h1;unfold bv at*;go_enter Tryz.func139,Tryz.ntmps139;go_wp2_with fail;go_ret;exact⟨rfl,rfl⟩
theorem Pg.put {S:Nat→Prop}{w:World}{a:Nat}{pg:Nat→Option Nat}{b:Nat→UInt8}(h:Pg S w a pg b)(addr k:Nat)(v:UInt8)(ha:addr<65536)(e:pg (addr/1024)=some k):
 Pg S (w.setCell ⟨k,addr%1024,none⟩ (bv v)) a pg (upd b addr v):=by
 have hp:=h.page _ k (by omega) e;have hka:k≠a:=fun q=>h.no (q▸hp.1)
 refine⟨by simpa using h.lt,h.no,fun k' q=>by simpa using h.own k' q,fun i hi=>⟨?_,?_⟩,fun i k' hi he=>?_,fun i hi he j hj=>?_,h.inj⟩
 ·rw[cso (fun q=>absurd q hka)];exact(h.box i hi).1
 ·simpa using(h.box i hi).2
 ·obtain⟨g1,g2,g3⟩:=h.page i k' hi he;refine⟨g1,by simpa using g2,fun j hj=>⟨?_,by simpa using(g3 j hj).2⟩⟩;by_cases hq:k=k'∧addr%1024=j
  ·obtain⟨rfl,rfl⟩:=hq;have hi':i=addr/1024:=h.inj i (addr/1024) k hi (by omega) he e;rw[World.cell?_setCell_same _ _ _ (g3 _ hj).1];have:i*1024+addr%1024=addr:=by omega
   simp[upd,this]
  ·rw[cso (fun q r=>hq ⟨q,r⟩),(g3 j hj).1];have:i*1024+j≠addr:=by
    intro q;have e1:i=addr/1024:=by omega
    subst e1;rw[e]at he;exact hq ⟨by simpa using he,by omega⟩
   simp[upd,this]
 ·have:i*1024+j≠addr:=by
   intro q;have e1:i=addr/1024:=by omega
   subst e1;rw[e]at he;simp at he
  simp[upd,this,h.zero i hi he j hj]
theorem Pg.put_fr {S:Nat→Prop}{w:World}{a:Nat}{pg:Nat→Option Nat}{b:Nat→UInt8}(h:Pg S w a pg b)(addr k:Nat)(v:Value)(ha:addr<65536)(e:pg (addr/1024)=some k):
 Fr S S w (w.setCell ⟨k,addr%1024,none⟩ v) a:=by
 have hp:=h.page _ k (by omega) e;have hka:k≠a:=fun q=>h.no (q▸hp.1)
 exact⟨fun _ q=>q,fun _ q=>.inl q,Kp.set w _ _ (.inr hp.1),fun o _=>⟨cso (fun q=>absurd q hka),by simp⟩⟩
theorem Pg.lay {S:Nat→Prop}{w:World}{a:Nat}{pg:Nat→Option Nat}{b:Nat→UInt8}(h:Pg S w a pg b)(i0:Nat)(t:TypeId)(hi0:i0<64)(e:pg i0=none):
 Pg (fun k=>S k∨k=w.heap.size) ((w.alloc (.cells (Array.replicate 1024 (.int .u8 0)) t)).setCell ⟨a,i0,none⟩ (.pointer (some ⟨w.heap.size,0,none⟩))) a (fun i=>if i=i0 then some w.heap.size else pg i) b:=by
 have hlt:=h.lt;have hB:Below w.heap.size w (w.alloc (.cells (Array.replicate 1024 (.int .u8 0)) t)):=(Below.refl _ w).alloc (Nat.le_refl _) _;have hna:w.heap.size≠a:=by omega
 have hbox:∀i,i<64→(w.alloc (.cells (Array.replicate 1024 (.int .u8 0)) t)).cell? ⟨a,i,none⟩=some (ptr (pg i)):=fun i hi=>(hB.cell (p:=⟨a,i,none⟩) hlt).trans (h.box i hi).1
 refine⟨by simp;omega,fun q=>?_,fun k q=>?_,fun i hi=>⟨?_,?_⟩,fun i k hi he=>?_,fun i hi he j hj=>?_,fun i j k hi hj e1 e2=>?_⟩
 ·rcases q with q|q
  ·exact h.no q
  ·omega
 ·rcases q with q|q
  ·have:=h.own k q;simp;omega
  ·subst q;simp
 ·by_cases hq:i=i0
  ·subst hq;rw[World.cell?_setCell_same _ _ _ (hbox i hi)];simp[ptr]
  ·rw[cso (fun _ q=>hq q.symm),hbox i hi];simp[hq]
 ·have:=(hB.frozen (p:=⟨a,i,none⟩) hlt).trans (h.box i hi).2;simpa using this
 ·by_cases hq:i=i0
  ·subst hq;simp at he;subst he;refine⟨.inr rfl,by simp,fun j hj=>⟨?_,?_⟩⟩
   ·rw[cso (fun q=>absurd q.symm hna)];rw[World.cell?_alloc_new];simp[hj,bv,h.zero i hi e j hj]
   ·have:=(At.new w (Array.replicate 1024 (.int .u8 0)) t).2.2 j;rw[World.frozen?_setCell];exact this
  ·simp only[hq,if_false]at he;obtain⟨g1,g2,g3⟩:=h.page i k hi he;refine⟨.inl g1,by simp;omega,fun j hj=>⟨?_,?_⟩⟩
   ·rw[cso (fun(q:a=k)=>absurd (q▸g1) h.no)];exact(hB.cell (p:=⟨k,j,none⟩) g2).trans (g3 j hj).1
   ·have:=(hB.frozen (p:=⟨k,j,none⟩) g2).trans (g3 j hj).2;simpa using this
 ·by_cases hq:i=i0
  ·subst hq;simp at he
  ·simp only[hq,if_false]at he;exact h.zero i hi he j hj
 ·by_cases q1:i=i0<;>by_cases q2:j=i0
  ·omega
  ·simp only[q1,q2,if_true,if_false]at e1 e2;have:=(h.page j k hj e2).2.1;simp at e1;omega
  ·simp only[q1,q2,if_true,if_false]at e1 e2;have:=(h.page i k hi e1).2.1;simp at e2;omega
  ·simp only[q1,q2,if_false]at e1 e2;exact h.inj i j k hi hj e1 e2
theorem Pg.lay_fr {S:Nat→Prop}{w:World}{a:Nat}{pg:Nat→Option Nat}{b:Nat→UInt8}(h:Pg S w a pg b)(i0:Nat)(o:Obj)(v:Value)(hi0:i0<64):
 Fr S (fun k=>S k∨k=w.heap.size) w ((w.alloc o).setCell ⟨a,i0,none⟩ v) a:=by
 have hB:Below w.heap.size w (w.alloc o):=(Below.refl _ w).alloc (Nat.le_refl _) _;refine⟨fun _ q=>.inl q,fun k q=>?_,(Kp.alloc _ w o).trans (Kp.set (S:=fun k=>k=a) _ _ _ rfl) (fun k q=>.inl (.inl q)),fun x hx=>⟨?_,?_⟩⟩
 ·rcases q with q|q
  ·exact .inl q
  ·exact .inr (by omega)
 ·rw[cso (fun _=>by omega)];exact hB.cell (p:=⟨a,x,none⟩) h.lt
 ·simpa using hB.frozen (p:=⟨a,x,none⟩) h.lt
theorem set_any (S:Nat→Prop)(a addr:Nat)(b:Nat→UInt8)(v:UInt8)(w:World)(h:PgIn S w a b)(ha:addr<65536):
 Calls Tryz.prog 68 #[.pointer (some ⟨a,0,none⟩),.int .u64 addr,bv v] w fun x w'=>x=.returned (.tuple #[])∧∃S',PgIn S' w' a (upd b addr v)∧Fr S S' w w' a:=by
 obtain⟨pg,h⟩:=h;have h1:=(h.box (addr/1024) (by omega)).1;have f1:=(h.box (addr/1024) (by omega)).2
 cases e:pg (addr/1024)with
 |none=>
  have hl:=h.lay (addr/1024) 134 (by omega) e;have hf:=h.lay_fr (addr/1024) (.cells (Array.replicate 1024 (.int .u8 0)) 134) (.pointer (some ⟨w.heap.size,0,none⟩)) (by omega);have hp:=hl.put addr w.heap.size v ha (by simp);have hg:=hf.trans (hl.put_fr addr w.heap.size (bv v) ha (by simp));rw[e]at h1;have hlt:=h.lt;replace h:=Hid.mk h;replace hl:=Hid.mk hl;replace hf:=Hid.mk hf;simp only[ptr,Option.map_none]at h1;have pz:=page_zero;have sz:(w.setCell ⟨a,addr/1024,none⟩ (.pointer (some ⟨w.heap.size,0,none⟩))).heap.size=w.heap.size:=by simp
  have ew:(w.alloc (.cells (Array.replicate 1024 (.int .u8 0)) 134)).setCell ⟨a,addr/1024,none⟩ (.pointer (some ⟨w.heap.size,0,none⟩))=(w.setCell ⟨a,addr/1024,none⟩ (.pointer (some ⟨w.heap.size,0,none⟩))).alloc (.cells (Array.replicate 1024 (.int .u8 0)) 134):=World.setCell_alloc_past _ _ _ _ hlt;have hat:=At.at_ (w.setCell ⟨a,addr/1024,none⟩ (.pointer (some ⟨w.heap.size,0,none⟩))) (Array.replicate 1024 (.int .u8 0)) 134 sz;have c9:=hat.2.1 (addr%1024);have f9:=hat.2.2 (addr%1024);rw[show(Array.replicate 1024 (Value.int .u8 0))[addr%1024]?=some (.int .u8 0)by rw[Array.getElem?_replicate,if_pos (by omega)]]at c9;rw[ew,World.setCell_alloc_at _ _ _ _ _ sz.symm]at hp hg;unfold bv at hp hg ⊢;replace hat:=Hid.mk hat;replace ew:=Hid.mk ew;replace hp:=Hid.mk hp;replace hg:=Hid.mk hg;go_enter Tryz.func68,Tryz.ntmps68;go_wp2_with fail;go_end0;exact⟨rfl,_,⟨_,hp.out⟩,hg.out⟩
 |some k=>
  rw[e]at h1;have h2:=((h.page (addr/1024) k (by omega) e).2.2 (addr%1024) (by omega));have hp:=h.put addr k v ha e;have hf:=h.put_fr addr k (bv v) ha e;obtain⟨h2,f2⟩:=h2;unfold bv at h2 hp hf ⊢;replace h:=Hid.mk h;replace hp:=Hid.mk hp;replace hf:=Hid.mk hf;simp only[ptr,Option.map_some]at h1;go_enter Tryz.func68,Tryz.ntmps68;go_wp2_with fail;go_end0;exact⟨rfl,S,⟨pg,hp.out⟩,hf.out⟩
def leB (b:Nat→UInt8)(addr:Nat):Nat→Nat
 |0=>0
 |k+1=>leB b addr k+(b (addr+k)).toNat*2^(8*k)
def putB (b:Nat→UInt8)(addr n:Nat):Nat→Nat→UInt8
 |0=>b
 |k+1=>upd (putB b addr n k) (addr+k) (UInt8.ofNat (n/2^(8*k)%256))
theorem leB_lt (b:Nat→UInt8)(addr k:Nat):leB b addr k<2^(8*k):=by
 induction k with
 |zero=>simp[leB]
 |succ k ih=>
  have h:=(b (addr+k)).toNat_lt;have h1:(b (addr+k)).toNat*2^(8*k)≤255*2^(8*k):=Nat.mul_le_mul_right _ (by omega);have h2:2^(8*(k+1))=256*2^(8*k):=by rw[show 8*(k+1)=8+8*k by omega,Nat.pow_add]
  rw[leB,h2];omega
theorem or_add (a b k:Nat)(ha:a<2^k):a |||(b*2^k)=a+b*2^k:=by
 rw[Nat.mul_comm b,Nat.or_comm,←Nat.two_pow_add_eq_or_of_lt ha,Nat.add_comm]
theorem or_shift (x b k:Nat)(h1:x<2^k)(hb:b<256)(hk:k≤56):bits .or .u64 (x:Int) (IntKind.u64.wrap ((b:Int)*2^k))=((x+b*2^k:Nat):Int):=by
 have hpk:2^k≤2^56:=Nat.pow_le_pow_right (by omega) hk;have hm:b*2^k≤255*2^56:=Nat.mul_le_mul (by omega) hpk;have ho:=or_add x b k h1;have e:(b:Int)*2^k=((b*2^k:Nat):Int):=by simp
 rw[e,IntKind.wrap_u64];generalize b*2^k=q at*;have hq:(q:Int)%18446744073709551616=q:=by omega
 rw[hq,u64_or (x:Int) q (by omega) (by omega) (by omega) (by omega),Int.toNat_natCast,Int.toNat_natCast,ho]
theorem number_any (S:Nat→Prop)(a addr size:Nat)(b:Nat→UInt8)(w:World)(h:PgIn S w a b)(ha:addr+size≤65536)(hs:size≤8):
 Calls Tryz.prog 137 #[.pointer (some ⟨a,0,none⟩),.int .u64 addr,.int .u64 size] w fun x w'=>x=.returned (.int .u64 (leB b addr size))∧w'=w:=by
 have hG:=fun j (hj:j<65536)=>get_any S a j b w h hj
 replace h:=Hid.mk h;go_enter Tryz.func137,Tryz.ntmps137;go_wp2_with fail;go_loopw [7,10] (fun v i wr=>∃j:Nat,v=.int .u64 (leB b addr j)∧i=.int .u64 j∧j≤size∧wr=w) (fun _ i _=>size - (intOf i).toNat)
 case atStart=>exact⟨0,rfl,rfl,by omega,rfl⟩
 case round=>
  obtain⟨j,rfl,rfl,hj,rfl⟩:=hrel;by_cases hlt:j<size
  ·have jl:(j:Int)<size:=by omega
   have hg:=hG (addr+j) (by omega);have hb:=(b (addr+j)).toNat_lt;have hrg:=leB_lt b addr j;have hor:=or_shift _ _ (8*j) hrg hb (by omega);have hnx:leB b addr (j+1)=leB b addr j+(b (addr+j)).toNat*2^(8*j):=rfl;rw[←hnx]at hor;unfold bv at hg;generalize hy:leB b addr (j+1)=y at*;generalize leB b addr j=x at*;generalize (b (addr+j)).toNat=c at*;have m0:IntKind.u64.wrap ((addr:Int)+j)=((addr+j:Nat):Int):=by rw[IntKind.wrap_u64];omega
   have m1:IntKind.u64.wrap (8*(j:Int))=8*j:=by rw[IntKind.wrap_u64];omega
   have m2:(0:Int)≤8*(j:Int):=by omega
   have m3:(8*(j:Int))≤64:=by omega
   have m4:IntKind.u64.wrap (c:Int)=c:=by rw[IntKind.wrap_u64];omega
   replace hrg:=Hid.mk hrg;replace hor:=Hid.mk hor;replace hy:=Hid.mk hy;clear hnx hG;go_wp2_with fail;refine hg.mono ?_;rintro x w1 ⟨rfl,rfl⟩;go_wp2_with fail;exact⟨⟨j+1,by rw[hor.out,hy.out],by go_num,by omega,trivial⟩,by simp[intOf];omega⟩
  ·have jl:¬(j:Int)<size:=by omega
   have:j=size:=by omega
   subst this;go_wp2_with fail;go_ret;exact⟨rfl,rfl⟩
theorem setNumber_any (S:Nat→Prop)(a addr size n:Nat)(b:Nat→UInt8)(w:World)(h:PgIn S w a b)(ha:addr+size≤65536)(hs:size≤8):
 Calls Tryz.prog 138 #[.pointer (some ⟨a,0,none⟩),.int .u64 addr,.int .u64 size,.int .u64 n] w fun x w'=>x=.returned (.tuple #[])∧∃S',PgIn S' w' a (putB b addr n size)∧Fr S S' w w' a:=by
 replace h:=Hid.mk h;go_enter Tryz.func138,Tryz.ntmps138;go_wp2_with fail;go_loopw [10] (fun i wr=>∃j:Nat,i=.int .u64 j∧j≤size∧∃S',PgIn S' wr a (putB b addr n j)∧Fr S S' w wr a) (fun i _=>size - (intOf i).toNat)
 case atStart=>exact⟨0,rfl,by omega,S,h.out,Fr.refl S w a⟩
 case round=>
  obtain⟨j,rfl,hj,S',h1,hf⟩:=hrel;by_cases hlt:j<size
  ·have jl:(j:Int)<size:=by omega
   have hk:=fun W q=>set_any S' a (addr+j) (putB b addr n j) (UInt8.ofNat (n/2^(8*j)%256)) W q (by omega)
   have hnx:putB b addr n (j+1)=upd (putB b addr n j) (addr+j) (UInt8.ofNat (n/2^(8*j)%256)):=rfl;have e1:bv (UInt8.ofNat (n/2^(8*j)%256))=.int .u8 ((n:Int)/2^(8*j)%256):=by
    have:n/2^(8*j)%256%256=n/2^(8*j)%256:=by omega
    simp[bv,UInt8.toNat_ofNat',this]
   rw[←hnx,e1,Int.natCast_add]at hk;clear e1;have m0:IntKind.u64.wrap ((addr:Int)+j)=((addr+j:Nat):Int):=by rw[IntKind.wrap_u64];omega
   have m1:IntKind.u64.wrap (8*(j:Int))=8*j:=by rw[IntKind.wrap_u64];omega
   have m2:(0:Int)≤8*(j:Int):=by omega
   have m3:(8*(j:Int))≤64:=by omega
   generalize hb1:putB b addr n (j+1)=b1 at*;replace hb1:=Hid.mk hb1;generalize putB b addr n j=b0 at*;clear hnx;replace hf:=Hid.mk hf;replace h1:=Hid.mk h1;go_wp2_with fail;refine(hk _ h1.out).mono ?_;rintro x w1 ⟨rfl,S1,h2,hf2⟩;replace h2:=Hid.mk h2;replace hf2:=Hid.mk hf2;go_wp2_with fail;exact⟨⟨j+1,by go_num,by omega,S1,by rw[hb1.out];exact h2.out,hf.out.trans hf2.out⟩,by simp[intOf];omega⟩
  ·have jl:¬(j:Int)<size:=by omega
   have:j=size:=by omega
   subst this;replace hf:=Hid.mk hf;replace h1:=Hid.mk h1;go_wp2_with fail;go_end0;exact⟨rfl,S',h1.out,hf.out⟩
end T
end Go.Proofs.YtdidjhillmgccaaGreat
