import Derived.Test.YtdidjhillmgccaaGreatTShelf
import Derived.Test.YtdidjhillmgccaaGreatP03
namespace Go.Proofs.YtdidjhillmgccaaGreat
set_option maxRecDepth 100000
set_option maxHeartbeats 40000000
namespace T
open Go.RowKit
def rowB (b:Nat→UInt8)(a n:Nat):List UInt8:=(List.range n).map fun i=>b (a+i)
theorem rowB_len (b:Nat→UInt8)(a n:Nat):(rowB b a n).length=n:=by simp[rowB]
theorem rowB_add (b:Nat→UInt8)(a n m:Nat):rowB b a (n+m)=rowB b a n++rowB b (a+n) m:=by
 unfold rowB;rw[List.range_add,List.map_append,List.map_map];simp[Function.comp_def,Nat.add_assoc]
theorem byteCells_add (l m:List UInt8):Lib.byteCells (l++m)=Lib.byteCells l++Lib.byteCells m:=by simp[Lib.byteCells]
theorem byteCells_one (l:List UInt8):∀u∈Lib.byteCells l,u.oneCell'=true:=by
 intro u hu;simp only[Lib.byteCells,List.mem_map]at hu;obtain⟨x,_,rfl⟩:=hu
 rfl
theorem byteCells_len (l:List UInt8):(Lib.byteCells l).length=l.length:=by simp[Lib.byteCells]
theorem rowB_at (b:Nat→UInt8)(a n j:Nat)(u:Value)(h:(Lib.byteCells (rowB b a n))[j]?=some u):j<n∧u=bv (b (a+j)):=by
 by_cases hj:j<n
 ·simp[Lib.byteCells,rowB,hj]at h;exact⟨hj,h.symm⟩
 ·rw[List.getElem?_eq_none (by rw[byteCells_len,rowB_len];omega)]at h;simp at h
theorem addr_add (k j:Nat):(⟨k,0,none⟩:Addr).add j=⟨k,j,none⟩:=by by_cases h0:j=0<;>simp[Addr.add,h0]
structure Tx (w W:World)(b:Nat→UInt8)(i:Nat):Prop where
 bu:Lib.BuilderAt 137 5 (w.heap.size+1) (w.heap.size+1) (.pointer (some ⟨w.heap.size+1,0,none⟩)) (Lib.byteCells (rowB b 0 (i*1024))) W
 be:Below (w.heap.size+1) (w.alloc (.cells (Array.replicate 1024 (.int .u8 0)) 134)) W
theorem Tx.sz {w W:World}{b:Nat→UInt8}{i:Nat}(h:Tx w W b i):w.heap.size+1≤W.heap.size:=by
 have:=h.be.size;simpa using this
theorem text_any (S:Nat→Prop)(a:Nat)(b:Nat→UInt8)(w:World)(h:PgIn S w a b):
 Calls Tryz.prog 52 #[.pointer (some ⟨a,0,none⟩)] w fun x w'=>x=.returned (.string ⟨(rowB b 0 65536).toArray⟩)∧Below w.heap.size w w':=by
 obtain⟨pg,h⟩:=h;have hB0:Below w.heap.size w (w.alloc (.cells (Array.replicate 1024 (.int .u8 0)) 134)):=(Below.refl _ w).alloc (Nat.le_refl _) _;have hGr:=bGrow (w.heap.size+1) (w.heap.size+1) 65536 ((w.alloc (.cells (Array.replicate 1024 (.int .u8 0)) 134)).alloc (.cells #[.pointer none,.slice none 0 0] 137)) (Nat.le_refl _) (by
  have:=(MapKept.heap_alloc (w.alloc (.cells (Array.replicate 1024 (.int .u8 0)) 134)) (.cells #[.pointer none,.slice none 0 0] 137)).1
  rwa [World.size_alloc]at this) (by simp) (by decide)
 have hold:∀W i,Tx w W b i→Pg S W a pg b∧∀j,j<1024→W.cell? ⟨w.heap.size,j,none⟩=some (.int .u8 0):=by
  intro W i hT;have h1:=h.keep (w':=W) (by have:=hT.sz;omega) (fun o _=>⟨(hT.be.cell (p:=⟨a,o,none⟩) (by have:=h.lt;show a<w.heap.size+1;omega)).trans (hB0.cell (p:=⟨a,o,none⟩) h.lt),(hT.be.frozen (p:=⟨a,o,none⟩) (by have:=h.lt;show a<w.heap.size+1;omega)).trans (hB0.frozen (p:=⟨a,o,none⟩) h.lt)⟩) (fun k _ hk=>(hT.be.block k (by omega)).trans (hB0.block k hk));refine⟨h1,fun j hj=>?_⟩;rw[hT.be.cell (p:=⟨w.heap.size,j,none⟩) (by show w.heap.size<w.heap.size+1;omega),World.cell?_alloc_new];simp[hj]
 have hW:∀W i k,i<64→Tx w W b i→(k<w.heap.size+1∧∀j,j<1024→W.cell? ⟨k,j,none⟩=some (bv (b (i*1024+j))))→Calls Tryz.prog 70 #[.pointer (some ⟨w.heap.size+1,0,none⟩),.slice (some ⟨k,0,none⟩) 1024 1024] W fun e w'=>e=.returned (.tuple #[.int .i64 1024,.nilIface])∧Tx w w' b (i+1):=by
  intro W i k hi hT ⟨hk,hc⟩;have:=bWrite (w.heap.size+1) (w.heap.size+1) _ ⟨k,0,none⟩ 1024 1024 (Lib.byteCells (rowB b (i*1024) 1024)) W (.inr hT.bu) (by rw[byteCells_len,rowB_len]) (fun j u hu=>by
   obtain⟨h1,rfl⟩:=rowB_at _ _ _ _ _ hu;rw[addr_add];exact hc j h1) hk (byteCells_one _) (by rw[byteCells_len,rowB_len];omega) hT.sz
  refine this.mono ?_;rintro x w' ⟨rfl,h1,h2⟩;refine⟨rfl,?_,hT.be.trans h2⟩;rw[show(i+1)*1024=i*1024+1024 by omega,rowB_add,byteCells_add,Nat.zero_add];exact h1
 have hSt:∀W,Tx w W b 64→Calls Tryz.prog 71 #[.pointer (some ⟨w.heap.size+1,0,none⟩)] W fun e w'=>e=.returned (.string ⟨(rowB b 0 65536).toArray⟩)∧Below w.heap.size w w':=by
  intro W hT;refine(bString (w.heap.size+1) (w.heap.size+1) (rowB b 0 65536) W (.inr hT.bu) hT.sz).mono ?_;rintro x w' ⟨rfl,h1⟩;exact⟨rfl,(hB0.trans (hT.be.mono (by omega))).trans (h1.mono (by omega))⟩
 replace h:=Hid.mk h;replace hB0:=Hid.mk hB0;replace hold:=Hid.mk hold;replace hW:=Hid.mk hW;replace hSt:=Hid.mk hSt;have pz:=page_zero;generalize hR:(rowB b 0 65536).toArray=R at*;go_enter Tryz.func52,Tryz.ntmps52;go_wp2_with fail;refine hGr.mono ?_;rintro x w1 ⟨rfl,h1,h2⟩;have hT:Tx w w1 b 0:=⟨by rw[Nat.zero_mul];exact h1,((Below.refl _ _).alloc (by simp) _).trans h2⟩;replace hT:=Hid.mk hT;clear h1 h2 hGr;go_wp2_with fail;go_loopw [9] (fun v wr=>∃i:Nat,v=.int .i64 i∧i≤64∧Tx w wr b i) (fun v _=>64 - (intOf v).toNat)
 case atStart=>exact⟨0,rfl,by omega,hT.out⟩
 case round=>
  clear hT;obtain⟨i,rfl,hi,hT⟩:=hrel;by_cases hlt:i<64
  ·have jl:(i:Int)<64:=by omega
   obtain⟨g1,g2⟩:=hold.out wr i hT;have c1:=(g1.box i hlt).1
   cases e:pg i with
   |none=>
    have hw:=hW.out wr i w.heap.size hlt hT ⟨by omega,fun j hj=>by rw[g2 j hj,g1.zero i hlt e j hj];rfl⟩;rw[e]at c1;simp only[ptr,Option.map_none]at c1;replace g1:=Hid.mk g1;replace g2:=Hid.mk g2;replace hT:=Hid.mk hT;go_wp2_with fail;refine hw.mono ?_;rintro x w2 ⟨rfl,hT2⟩;replace hT2:=Hid.mk hT2;go_wp2_with fail;exact⟨⟨i+1,by go_num,by omega,hT2.out⟩,by simp[intOf];omega⟩
   |some k=>
    have hp:=g1.page i k hlt e;have hk:k<w.heap.size:=(h.out.page i k hlt e).2.1;have hw:=hW.out wr i k hlt hT ⟨by omega,fun j hj=>(hp.2.2 j hj).1⟩;rw[e]at c1;simp only[ptr,Option.map_some]at c1;replace g1:=Hid.mk g1;replace g2:=Hid.mk g2;replace hT:=Hid.mk hT;replace hp:=Hid.mk hp;go_wp2_with fail;refine hw.mono ?_;rintro x w2 ⟨rfl,hT2⟩;replace hT2:=Hid.mk hT2;go_wp2_with fail;exact⟨⟨i+1,by go_num,by omega,hT2.out⟩,by simp[intOf];omega⟩
  ·have jl:¬(i:Int)<64:=by omega
   have:i=64:=by omega
   subst this;have hs:=hSt.out wr hT;replace hT:=Hid.mk hT;go_wp2_with fail;refine hs.mono ?_;rintro x w2 ⟨rfl,hB⟩;replace hB:=Hid.mk hB;go_wp2_with fail;go_ret;exact⟨rfl,hB.out⟩
structure FlIn (S:Nat→Prop)(w:World)(a:Nat)(b:Nat→UInt8):Prop where
 go:∃P,PgIn P w a b∧∀k,S k↔k=a∨P k
theorem FlIn.lt {S:Nat→Prop}{w:World}{a:Nat}{b:Nat→UInt8}(h:FlIn S w a b):∀k,S k→k<w.heap.size:=by
 obtain⟨P,⟨pg,h1⟩,h4⟩:=h.go;intro k hk;rcases(h4 k).1 hk with q|q
 ·subst q;exact h1.lt
 ·exact h1.own k q
theorem FlIn.keep {S S1:Nat→Prop}{w w':World}{a:Nat}{b:Nat→UInt8}(h:FlIn S w a b)(hk:Kp S1 w w')(hd:∀k,S k→¬S1 k):FlIn S w' a b:=by
 have hl:=h.lt;obtain⟨P,h1,h4⟩:=h.go;have hb:∀k,S k→w'.heap[k]?=w.heap[k]?:=fun k q=>hk.block k (hl k q) (hd k q)
 have ha:=hb a ((h4 a).2 (.inl rfl));exact⟨P,h1.keep hk.size (fun i _=>⟨cell_of_block ha i,frozen_of_block ha i⟩) (fun k q _=>hb k ((h4 k).2 (.inr q))),h4⟩
theorem FlIn.gr {S:Nat→Prop}{w w':World}{a:Nat}{b:Nat→UInt8}(h:FlIn S w a b)(hb:Below w.heap.size w w'):FlIn S w' a b:=h.keep (S1:=fun _=>False) (Kp.of_below hb) (fun _ _ q=>q)
structure Mf (S S':Nat→Prop)(w w':World):Prop where
 up:∀k,S k→S' k
 new:∀k,S' k→S k∨w.heap.size≤k
 kp:Kp S w w'
theorem Mf.refl (S:Nat→Prop)(w:World):Mf S S w w:=⟨fun _ h=>h,fun _ h=>.inl h,Kp.refl _ w⟩
theorem FlIn.onBytes {S:Nat→Prop}{w:World}{a:Nat}{b b':Nat→UInt8}(h:FlIn S w a b){f:Nat}{args:Array Value}{r:Ending}
 (hc:∀P,PgIn P w a b→Calls Tryz.prog f args w fun x w'=>x=r∧∃P',PgIn P' w' a b'∧Fr P P' w w' a):Calls Tryz.prog f args w fun x w'=>x=r∧∃S',FlIn S' w' a b'∧Mf S S' w w':=by
 obtain⟨P,h1,h4⟩:=h.go;refine(hc P h1).mono ?_;rintro x w' ⟨rfl,P',g1,g2⟩;refine⟨rfl,fun k=>k=a∨P' k,⟨P',g1,fun k=>Iff.rfl⟩,fun k q=>?_,fun k q=>?_,g2.kp.mono (fun k q=>.inl ((h4 k).2 q))⟩
 ·rcases(h4 k).1 q with s|s
  ·exact .inl s
  ·exact .inr (g2.up k s)
 ·rcases q with q|q
  ·exact .inl ((h4 k).2 (.inl q))
  ·rcases g2.new k q with s|s
   ·exact .inl ((h4 k).2 (.inr s))
   ·exact .inr s
def wordB (addr size:Nat):Bool:=(decide (size=1) || decide (size=8))&&decide (addr+size≤65536)
theorem isWord_any (addr size:Nat)(w:World)(ha:addr<18446744073709551616)(hs:size<18446744073709551616):
 Calls Tryz.prog 136 #[.int .u64 addr,.int .u64 size] w fun x w'=>x=.returned (.bool (wordB addr size))∧w'=w:=by
 by_cases h1:size=1
 ·subst h1;by_cases h2:addr≤65535
  ·have:wordB addr 1=true:=by simp[wordB];omega
   rw[this];have d1:(addr:Int)≤65535:=by omega
   go_enter Tryz.func136,Tryz.ntmps136;go_wp2_with fail;go_ret;exact⟨rfl,rfl⟩
  ·have:wordB addr 1=false:=by simp[wordB];omega
   rw[this];have d1:¬(addr:Int)≤65535:=by omega
   go_enter Tryz.func136,Tryz.ntmps136;go_wp2_with fail;go_ret;exact⟨rfl,rfl⟩
 ·have e1:((size:Int)==1)=false:=by simpa using(by omega:¬(size:Int)=1)
  by_cases h8:size=8
  ·subst h8;by_cases h2:addr≤65528
   ·have:wordB addr 8=true:=by simp[wordB];omega
    rw[this];have d1:(addr:Int)≤65528:=by omega
    go_enter Tryz.func136,Tryz.ntmps136;go_wp2_with fail;go_ret;exact⟨rfl,rfl⟩
   ·have:wordB addr 8=false:=by simp[wordB];omega
    rw[this];have d1:¬(addr:Int)≤65528:=by omega
    go_enter Tryz.func136,Tryz.ntmps136;go_wp2_with fail;go_ret;exact⟨rfl,rfl⟩
  ·have e8:((size:Int)==8)=false:=by simpa using(by omega:¬(size:Int)=8)
   have:wordB addr size=false:=by simp[wordB,h1,h8]
   rw[this];replace h1:=Hid.mk h1;replace h8:=Hid.mk h8;go_enter Tryz.func136,Tryz.ntmps136;go_wp2_with fail;go_ret;exact⟨rfl,rfl⟩
def ldV (b:Nat→UInt8)(addr size:Nat):Nat:=if wordB addr size then leB b addr size else 0
def ldE (addr size:Nat):Int:=if wordB addr size then 0 else 60
def stB (b:Nat→UInt8)(addr size n:Nat):Nat→UInt8:=if wordB addr size then putB b addr n size else b
theorem wordB_in {addr size:Nat}(h:wordB addr size=true):addr+size≤65536∧size≤8:=by
 simp[wordB]at h;omega
theorem flLoad_any (S:Nat→Prop)(a addr size:Nat)(b:Nat→UInt8)(w:World)(h:FlIn S w a b)(ha:addr<18446744073709551616)(hs:size<18446744073709551616):
 Calls Tryz.prog 134 #[.pointer (some ⟨a,0,none⟩),.int .u64 addr,.int .u64 size] w fun x w'=>x=.returned (.tuple #[.int .u64 (ldV b addr size),.int .i64 (ldE addr size)])∧Below w.heap.size w w':=by
 have hW:=fun W=>isWord_any addr size W ha hs
 cases e:wordB addr size with
 |false=>
  rw[e]at hW;simp only[ldV,ldE,e,Bool.false_eq_true,if_false];replace h:=Hid.mk h;go_enter Tryz.func134,Tryz.ntmps134;go_wp2_with(refine(hW _).mono ?_;rintro x w1 ⟨rfl,rfl⟩);go_ret2;exact⟨rfl,Below.refl _ _⟩
 |true=>
  rw[e]at hW;have hi:=wordB_in e;obtain⟨P,h1,h4⟩:=h.go;have hN:=number_any P a addr size b w h1 hi.1 hi.2;simp only[ldV,ldE,e,if_true];replace h:=Hid.mk h;replace h1:=Hid.mk h1;clear h4;go_enter Tryz.func134,Tryz.ntmps134;go_wp2_with(first|(go_at_call 136;refine(hW _).mono ?_;rintro x w1 ⟨rfl,rfl⟩)|(go_at_call 137;refine hN.mono ?_;rintro x w1 ⟨rfl,rfl⟩));go_ret2;exact⟨rfl,Below.refl _ _⟩
theorem flStore_any (S:Nat→Prop)(a addr size n:Nat)(b:Nat→UInt8)(w:World)(h:FlIn S w a b)(ha:addr<18446744073709551616)(hs:size<18446744073709551616):
 Calls Tryz.prog 135 #[.pointer (some ⟨a,0,none⟩),.int .u64 addr,.int .u64 size,.int .u64 n] w fun x w'=>x=.returned (.int .i64 (ldE addr size))∧∃S',FlIn S' w' a (stB b addr size n)∧Mf S S' w w':=by
 have hW:=fun W=>isWord_any addr size W ha hs
 cases e:wordB addr size with
 |false=>
  rw[e]at hW;simp only[stB,ldE,e,Bool.false_eq_true,if_false];replace h:=Hid.mk h;go_enter Tryz.func135,Tryz.ntmps135;go_wp2_with(refine(hW _).mono ?_;rintro x w1 ⟨rfl,rfl⟩);go_ret;exact⟨rfl,S,h.out,Mf.refl _ _⟩
 |true=>
  rw[e]at hW;have hi:=wordB_in e;have hN:=h.onBytes fun P hP=>setNumber_any P a addr size n b w hP hi.1 hi.2
  simp only[stB,ldE,e,if_true];replace h:=Hid.mk h;generalize putB b addr n size=b1 at*;go_enter Tryz.func135,Tryz.ntmps135;go_wp2_with(go_at_call 136;refine(hW _).mono ?_;rintro x w1 ⟨rfl,rfl⟩);refine hN.mono ?_;rintro x w1 ⟨rfl,S1,h1,f1⟩;replace h1:=Hid.mk h1;replace f1:=Hid.mk f1;go_wp2_with fail;go_ret;exact⟨rfl,S1,h1.out,f1.out⟩
theorem flBytes_any (S:Nat→Prop)(a:Nat)(b:Nat→UInt8)(w:World)(h:FlIn S w a b):
 Calls Tryz.prog 24 #[.pointer (some ⟨a,0,none⟩)] w fun x w'=>x=.returned (.string ⟨(rowB b 0 65536).toArray⟩)∧Below w.heap.size w w':=by
 obtain⟨P,h1,h4⟩:=h.go;have hN:=text_any P a b w h1;generalize (rowB b 0 65536).toArray=R at*;replace h:=Hid.mk h;replace h1:=Hid.mk h1;clear h4;go_enter Tryz.func24,Tryz.ntmps24;go_wp2_with fail;refine hN.mono ?_;rintro x w1 ⟨rfl,hB⟩;replace hB:=Hid.mk hB;go_wp2_with fail;go_ret;exact⟨rfl,hB.out⟩
theorem at_below {w w1:World}{B k:Nat}{cs:Array Value}(h:At w k cs)(hb:Below B w w1)(hk:k<B):At w1 k cs:=
 ⟨Nat.lt_of_lt_of_le h.1 hb.size,fun o=>(hb.cell (p:=⟨k,o,none⟩) hk).trans (h.2.1 o),fun o=>(hb.frozen (p:=⟨k,o,none⟩) hk).trans (h.2.2 o)⟩
theorem at_kp {S:Nat→Prop}{w w1:World}{k:Nat}{cs:Array Value}(h:At w k cs)(hb:Kp S w w1)(hk:¬S k):At w1 k cs:=
 ⟨Nat.lt_of_lt_of_le h.1 hb.size,fun o=>(cell_of_block (hb.block k h.1 hk) o).trans (h.2.1 o),fun o=>(frozen_of_block (hb.block k h.1 hk) o).trans (h.2.2 o)⟩
end T
end Go.Proofs.YtdidjhillmgccaaGreat
