import Derived.Test.YtkhbiaaangnkdaaGreatDoorJTTags
import Derived.Test.YtkhbiaaangnkdaaGreatDoorJTBase
import Derived.Test.YtkhbiaaangnkdaaGreatDoorJ20
import Derived.Deep.MidRow
import Derived.Test.YtkhbiaaangnkdaaGreatDoorJ09
namespace Go.Proofs.YtkhbiaaangnkdaaGreatDoor
set_option maxRecDepth 100000
set_option maxHeartbeats 40000000
namespace T
open Go.RowKit
def str (l:List UInt8):ByteArray:=⟨l.toArray⟩
theorem str_size (s:List UInt8):(str s).size=s.length:=by simp[str,ByteArray.size]
theorem str_at (s:List UInt8)(i:Nat)(h:i<(str s).size)(h':i<s.length):(str s)[i]'h=s[i]:=by
 simp[str,ByteArray.getElem_eq_getElem_data]
theorem tagged_zero (w:World):(zeroValue 153).run Tryz.prog w=.ok (.agg (Array.replicate 128 (.pointer none))) w:=by kernel_rfl
def layB (b:Nat→UInt8)(addr:Nat)(l:List UInt8):Nat→Nat→UInt8
 |0=>b
 |k+1=>upd (layB b addr l k) (addr+k) (l.getD k 0)
theorem lay_any (S:Nat→Prop)(a addr:Nat)(b:Nat→UInt8)(l:List UInt8)(w:World)(h:PgIn S w a b)(ha:addr+l.length≤65536):
 Calls Tryz.prog 93 #[.pointer (some ⟨a,0,none⟩),.int .u64 addr,.string (str l)] w fun x w'=>x=.returned (.tuple #[])∧∃S',PgIn S' w' a (layB b addr l l.length)∧Fr S S' w w' a:=by
 have ss:=str_size l;replace h:=Hid.mk h;go_enter Tryz.func93,Tryz.ntmps93;go_wp2_with fail;go_loopw [9] (fun i wr=>∃j:Nat,i=.int .i64 j∧j≤l.length∧∃S',PgIn S' wr a (layB b addr l j)∧Fr S S' w wr a) (fun i _=>l.length - (intOf i).toNat)
 case atStart=>exact⟨0,rfl,by omega,S,h.out,Fr.refl S w a⟩
 case round=>
  obtain⟨j,rfl,hj,S',h1,hf⟩:=hrel;by_cases hlt:j<l.length
  ·have jl:(j:Int)<l.length:=by omega
   have hk:=fun W q=>set_any S' a (addr+j) (layB b addr l j) l[j] W q (by omega)
   have hnx:layB b addr l (j+1)=upd (layB b addr l j) (addr+j) l[j]:=by rw[layB];simp[hlt]
   rw[←hnx,Int.natCast_add]at hk;unfold bv at hk;have m0:IntKind.u64.wrap ((addr:Int)+j)=(addr:Int)+j:=by rw[IntKind.wrap_u64];omega
   have m1:IntKind.u64.wrap (j:Int)=j:=by rw[IntKind.wrap_u64];omega
   have js:j<(str l).size:=by rw[str_size];exact hlt
   have ha:=str_at l j js hlt;generalize hb1:layB b addr l (j+1)=b1 at*;replace hb1:=Hid.mk hb1;clear hnx;replace hf:=Hid.mk hf;replace h1:=Hid.mk h1;go_wp2_with fail;refine(hk _ h1.out).mono ?_;rintro x w1 ⟨rfl,S1,h2,hf2⟩;replace h2:=Hid.mk h2;replace hf2:=Hid.mk hf2;go_wp2_with fail;exact⟨⟨j+1,by go_num,by omega,S1,by rw[hb1.out];exact h2.out,hf.out.trans hf2.out⟩,by simp[intOf];omega⟩
  ·have jl:¬(j:Int)<l.length:=by omega
   have:j=l.length:=by omega
   subst this;replace hf:=Hid.mk hf;replace h1:=Hid.mk h1;go_wp2_with fail;go_end0;exact⟨rfl,S',h1.out,hf.out⟩
theorem str_take (l:List UInt8)(n:Nat):(str l).extract 0 n=str (l.take n):=by
 unfold str;apply ByteArray.ext;simp[ByteArray.data_extract,List.extract_toArray,List.extract_eq_take_drop]
theorem lying_any (addr:Nat)(l:List UInt8)(w:World)(ha:addr<18446744073709551616)(hl:l.length≤140737488355328):
 Calls Tryz.prog 92 #[.int .u64 addr,.string (str l)] w fun x w'=>x=.returned (.string (str (l.take (65536 - addr))))∧w'=w:=by
 have ss:=str_size l;by_cases h:65536≤addr
 ·have d1:(65536:Int)≤addr:=by omega
  rw[show 65536 - addr=0 by omega,List.take_zero];go_enter Tryz.func92,Tryz.ntmps92;go_wp2_with fail;go_ret;exact⟨rfl,rfl⟩
 ·have d1:¬(65536:Int)≤addr:=by omega
  have e1:str (l.take (65536 - addr))=(str l).extract 0 (min (l.length:Int) (65536 - addr)).toNat:=by
   rw[str_take];by_cases q:l.length≤65536 - addr
   ·rw[show (min (l.length:Int) (65536 - addr)).toNat=l.length by omega,List.take_of_length_le q,List.take_of_length_le (Nat.le_refl _)]
   ·rw[show (min (l.length:Int) (65536 - addr)).toNat=65536 - addr by omega]
  rw[e1];clear e1;go_enter Tryz.func92,Tryz.ntmps92;go_wp2_with fail;go_ret;exact⟨rfl,rfl⟩
theorem Pg.fresh (w:World)(n:Nat)(t:TypeId)(hn:64≤n):Pg (fun _=>False) (w.alloc (.cells (Array.replicate n (.pointer none)) t)) w.heap.size (fun _=>none) (fun _=>0):=by
 have hA:=At.new w (Array.replicate n (.pointer none)) t;refine⟨hA.1,fun q=>q,fun k q=>q.elim,fun i hi=>⟨?_,hA.2.2 i⟩,fun i k _ q=>by simp at q,fun _ _ _ _ _=>rfl,fun i j k _ _ q=>by simp at q⟩;rw[hA.2.1,Array.getElem?_replicate,if_pos (by omega)]
 rfl
theorem Cg.fresh (w:World)(t:TypeId):Cg (fun _=>False) (w.alloc (.cells (Array.replicate 128 (.pointer none)) t)) w.heap.size (fun _=>none) (fun _=>none):=by
 have hA:=At.new w (Array.replicate 128 (.pointer none)) t;refine⟨hA.1,fun q=>q,fun k q=>q.elim,fun i hi=>⟨?_,hA.2.2 _⟩,fun i k _ q=>by simp at q,fun _ _ _ _ _=>rfl,fun i j k _ _ q=>by simp at q⟩;rw[hA.2.1,Array.getElem?_replicate,if_pos (by omega)]
 rfl
theorem TgIn.fresh (w:World)(t:TypeId):TgIn (fun k=>k=w.heap.size) (w.alloc (.cells (Array.replicate 128 (.pointer none)) t)) w.heap.size (fun _=>0) (fun _=>none):=
 ⟨fun _=>False,fun _=>False,⟨_,Pg.fresh w 128 t (by omega)⟩,⟨_,Cg.fresh w t⟩,fun _ q=>q.elim,fun k=>by simp⟩
def EIn {α:Type}(k:Nat)(vals:α→List Value)(w:World)(a:Option Addr)(L:List α):Prop:=∀i (h:i<L.length),∃b off:Nat,a=some ⟨b,off,none⟩∧b<w.heap.size∧∀j v,(vals L[i])[j]?=some v→w.cell? ⟨b,off+i*k+j,none⟩=some v
theorem EIn.below {α:Type}{k:Nat}{vals:α→List Value}{w w1:World}{a:Option Addr}{L:List α}(h:EIn k vals w a L)(hb:Below w.heap.size w w1):EIn k vals w1 a L:=fun i hi=>by
 obtain⟨b,off,h1,h2,h3⟩:=h i hi;exact⟨b,off,h1,Nat.lt_of_lt_of_le h2 hb.size,fun j v q=>(hb.cell (p:=⟨b,_,none⟩) h2).trans (h3 j v q)⟩
theorem setCells_size (k:Nat):∀(vs:List Value) (o:Nat) (w:World),(w.setCells k o vs).heap.size=w.heap.size
 |[],_,_=>rfl
 |v::r,o,w=>by rw[World.setCells,setCells_size k r (o+1)];simp
theorem kp_setCells (S:Nat→Prop)(k:Nat)(h:S k):∀(vs:List Value) (o:Nat) (w:World),Kp S w (w.setCells k o vs)
 |[],_,w=>Kp.refl S w
 |v::r,o,w=>(Kp.set (S:=S) w ⟨k,o,none⟩ v h).trans (kp_setCells S k h r (o+1) _) (fun _ q=>.inl q)
structure Sl where
 cap:Bool
 b:Int
 e:Int
 lo:Int
 hi:Int
 p:Int
 s:Int
 c:Nat
def Sl.vals (x:Sl):List Value:=[.bool x.cap,.int .u64 x.b,.int .u64 x.e,.int .u64 x.lo,.int .u64 x.hi,.int .u8 x.p,.int .i64 x.s,.int .u64 x.c]
def Sl.v (x:Sl):Vl:=if x.cap then⟨true,0,⟨x.b,x.e,x.c,x.p,x.s⟩⟩else⟨false,x.c,Cp.zero⟩
structure Rg where
 b:Nat
 n:Int
 data:List UInt8
 slots:List Sl
structure Rg.Ok (r:Rg):Prop where
 rb:r.b<18446744073709551616
 rd:r.data.length≤140737488355328
 rs:r.slots.length≤140737488355328
def RgIn (w:World)(a:Option Addr)(L:List Rg):Prop:=∀i (h:i<L.length),∃(b off:Nat) (sa:Option Addr) (sc:Nat),a=some ⟨b,off,none⟩∧b<w.heap.size∧
 w.cell? ⟨b,off+i*4,none⟩=some (.int .u64 L[i].b)∧w.cell? ⟨b,off+i*4+1,none⟩=some (.int .u64 L[i].n)∧w.cell? ⟨b,off+i*4+2,none⟩=some (.string (str L[i].data))∧w.cell? ⟨b,off+i*4+3,none⟩=some (.slice sa L[i].slots.length sc)∧EIn 8 Sl.vals w sa L[i].slots
theorem RgIn.below {w w1:World}{a:Option Addr}{L:List Rg}(h:RgIn w a L)(hb:Below w.heap.size w w1):RgIn w1 a L:=fun i hi=>by
 obtain⟨b,off,sa,sc,ha,h1,c0,c1,c2,c3,hs⟩:=h i hi;exact⟨b,off,sa,sc,ha,Nat.lt_of_lt_of_le h1 hb.size,(hb.cell (p:=⟨b,_,none⟩) h1).trans c0,(hb.cell (p:=⟨b,_,none⟩) h1).trans c1,(hb.cell (p:=⟨b,_,none⟩) h1).trans c2,(hb.cell (p:=⟨b,_,none⟩) h1).trans c3,hs.below hb⟩
def inMem (base:Nat)(d:List UInt8):List UInt8:=d.take (65536 - base)
def dataB (b:Nat→UInt8)(base:Nat)(d:List UInt8):Nat→UInt8:=layB b base (inMem base d) (inMem base d).length
def dataT (t:Nat→Option Cp)(base:Nat)(d:List UInt8):Nat→Option Cp:=offT t base (base+(inMem base d).length)
def slB (b:Nat→UInt8)(base:Nat)(L:List Sl):Nat→Nat→UInt8
 |0=>b
 |k+1=>scB (slB b base L k) (base+k*16) (((L[k]?).map Sl.v).getD Vl.zero)
def slT (t:Nat→Option Cp)(base:Nat)(L:List Sl):Nat→Nat→Option Cp
 |0=>t
 |k+1=>scT (slT t base L k) (base+k*16) (((L[k]?).map Sl.v).getD Vl.zero)
theorem granB_up {base j:Nat}(h:granB (base+j*16)=false)(k:Nat)(hk:j≤k):granB (base+k*16)=false:=by
 simp only[granB,Bool.and_eq_false_iff,decide_eq_false_iff_not]at h ⊢;omega
theorem sl_stop {b:Nat→UInt8}{t:Nat→Option Cp}{base:Nat}{L:List Sl}{j:Nat}(h:granB (base+j*16)=false):∀k,j≤k→slB b base L k=slB b base L j∧slT t base L k=slT t base L j:=by
 intro k hk
 induction k with
 |zero=>
  have:j=0:=by omega
  subst this;exact⟨rfl,rfl⟩
 |succ k ih=>
  by_cases q:j=k+1
  ·subst q;exact⟨rfl,rfl⟩
  ·have hg:=granB_up h k (by omega);have:=ih (by omega);simp only[slB,slT,scB,scT,hg,Bool.false_eq_true,if_false];exact this
def Rg.toB (r:Rg)(b:Nat→UInt8):Nat→UInt8:=slB (dataB b r.b r.data) r.b r.slots r.slots.length
def Rg.toT (r:Rg)(t:Nat→Option Cp):Nat→Option Cp:=slT (dataT t r.b r.data) r.b r.slots r.slots.length
def rgB (L:List Rg):Nat→Nat→UInt8
 |0=>fun _=>0
 |k+1=>match L[k]? with|some r=>r.toB (rgB L k)|none=>rgB L k
def rgT (L:List Rg):Nat→Nat→Option Cp
 |0=>fun _=>none
 |k+1=>match L[k]? with|some r=>r.toT (rgT L k)|none=>rgT L k
theorem capOf_any (b e lo hi p s c:Int)(g:Bool)(w:World):
 Calls Tryz.prog 127 #[.agg #[.bool g,.int .u64 b,.int .u64 e,.int .u64 lo,.int .u64 hi,.int .u8 p,.int .i64 s],.int .u64 c] w fun x w'=>x=.returned (.agg #[.int .u64 b,.int .u64 e,.int .u64 c,.int .u8 p,.int .i64 s])∧w'=(w.alloc (.cells #[.bool g,.int .u64 b,.int .u64 e,.int .u64 lo,.int .u64 hi,.int .u8 p,.int .i64 s] 130)).alloc (.cells #[.int .u64 b,.int .u64 e,.int .u64 c,.int .u8 p,.int .i64 s] 73):=by
 go_enter Tryz.func127,Tryz.ntmps127;go_wp2
 all_goals
  simp[bodyPost,results,Tryz.results127,go_sem]
theorem firstOf_any (x:Sl)(w:World):
 Calls Tryz.prog 96 #[.agg #[.bool x.cap,.int .u64 x.b,.int .u64 x.e,.int .u64 x.lo,.int .u64 x.hi,.int .u8 x.p,.int .i64 x.s,.int .u64 x.c]] w fun r w'=>r=.returned x.v.agg∧Below w.heap.size w w':=by
 have hC:=fun W=>capOf_any x.b x.e x.lo x.hi x.p x.s x.c x.cap W
 cases q:x.cap with
 |false=>
  simp only[Sl.v,q,Bool.false_eq_true,if_false,Vl.agg,Cp.zero];clear hC;go_enter Tryz.func96,Tryz.ntmps96;go_wp2_with fail;simp[bodyPost,results,Tryz.results96,go_sem]
  repeat(first|exact Below.refl _ _|refine Below.alloc ?_ (by simp<;>omega) _)
 |true=>
  rw[q]at hC;simp only[Sl.v,q,if_true,Vl.agg];go_enter Tryz.func96,Tryz.ntmps96;go_wp2_with(refine(hC _).mono ?_;rintro y w1 ⟨rfl,rfl⟩);simp[bodyPost,results,Tryz.results96,go_sem]
  repeat(first|exact Below.refl _ _|refine Below.alloc ?_ (by simp<;>omega) _|refine Below.setCell ?_ (by simp<;>omega) _)
theorem inMem_len (base:Nat)(d:List UInt8):base<65536→base+(inMem base d).length≤65536:=by
 intro h;unfold inMem;rw[List.length_take];omega
theorem inMem_nil (base:Nat)(d:List UInt8)(h:¬base<65536):inMem base d=[]:=by
 unfold inMem;rw[show 65536 - base=0 by omega,List.take_zero]
theorem lay_nil (a addr:Nat)(w:World):
 Calls Tryz.prog 93 #[.pointer (some ⟨a,0,none⟩),.int .u64 addr,.string (str [])] w fun x w'=>x=.returned (.tuple #[])∧w'=w:=by
 have ss:(str []).size=0:=str_size [];go_enter Tryz.func93,Tryz.ntmps93;go_wp2_with fail;go_loopw [9] (fun i wr=>i=.int .i64 0∧wr=w) (fun i _=>0)
 case atStart=>exact⟨rfl,rfl⟩
 case round=>
  obtain⟨rfl,rfl⟩:=hrel;go_wp2_with fail;go_end0;exact⟨rfl,rfl⟩
theorem forget_nil (a addr:Nat)(w:World)(ha:addr<18446744073709551616):
 Calls Tryz.prog 94 #[.pointer (some ⟨a,64,none⟩),.int .u64 addr,.int .u64 0] w fun x w'=>x=.returned (.tuple #[])∧w'=w:=by
 have m0:IntKind.u64.wrap ((addr:Int)+0)=addr:=by rw[IntKind.wrap_u64];omega
 have m1:IntKind.u64.wrap (addr:Int)=addr:=by rw[IntKind.wrap_u64];omega
 have jl:¬(addr:Int)<addr:=by omega
 go_enter Tryz.func94,Tryz.ntmps94;go_wp2_with fail;go_loopw [6] (fun i wr=>i=.int .u64 addr∧wr=w) (fun i _=>0)
 case atStart=>exact⟨rfl,rfl⟩
 case round=>
  obtain⟨rfl,rfl⟩:=hrel;go_wp2_with fail;go_end0;exact⟨rfl,rfl⟩
theorem layData_any (S:Nat→Prop)(a base:Nat)(b:Nat→UInt8)(t:Nat→Option Cp)(d:List UInt8)(w:World)(h:TgIn S w a b t)(hb:base<18446744073709551616)(hl:d.length≤140737488355328):
 Calls Tryz.prog 62 #[.pointer (some ⟨a,0,none⟩),.int .u64 base,.string (str d)] w fun x w'=>x=.returned (.tuple #[])∧∃S',TgIn S' w' a (dataB b base d) (dataT t base d)∧Mf S S' w w':=by
 have hY:=fun W=>lying_any base d W hb hl
 have hlen:(inMem base d).length≤140737488355328:=by unfold inMem;rw[List.length_take];omega
 have hL:∀S1 W,TgIn S1 W a b t→Calls Tryz.prog 93 #[.pointer (some ⟨a,0,none⟩),.int .u64 base,.string (str (inMem base d))] W fun x w'=>x=.returned (.tuple #[])∧∃S',TgIn S' w' a (dataB b base d) t∧Mf S1 S' W w':=by
  intro S1 W hW;by_cases q:base<65536
  ·exact hW.onBytes fun P hP=>lay_any P a base b (inMem base d) W hP (inMem_len base d q)
  ·have e:dataB b base d=b:=by unfold dataB;rw[inMem_nil base d q];rfl
   rw[e,inMem_nil base d q];refine(lay_nil a base W).mono ?_;rintro x w' ⟨rfl,rfl⟩;exact⟨rfl,S1,hW,Mf.refl _ _⟩
 have hF:∀S1 W b1,TgIn S1 W a b1 t→Calls Tryz.prog 94 #[.pointer (some ⟨a,64,none⟩),.int .u64 base,.int .u64 ((inMem base d).length:Nat)] W fun x w'=>x=.returned (.tuple #[])∧∃S',TgIn S' w' a b1 (dataT t base d)∧Mf S1 S' W w':=by
  intro S1 W b1 hW;by_cases q:base<65536
  ·exact hW.onTags fun C hC=>(forget_any C a base (inMem base d).length t W hC (inMem_len base d q)).mono (R':=fun x w'=>x=.returned (.tuple #[])∧∃P',CgIn P' w' a (offT t base (base+(inMem base d).length))∧Gf C P' W w' a) (fun x w' r=>⟨r.1,C,r.2.1,r.2.2⟩)
  ·have e:dataT t base d=t:=by unfold dataT;rw[inMem_nil base d q];exact offT_done _ _ _ (by simp)
   rw[e,inMem_nil base d q];refine(forget_nil a base W hb).mono ?_;rintro x w' ⟨rfl,rfl⟩;exact⟨rfl,S1,hW,Mf.refl _ _⟩
 have ey:d.take (65536 - base)=inMem base d:=rfl;rw[ey]at hY;have ss:=str_size (inMem base d);generalize dataB b base d=b1 at*;generalize dataT t base d=t1 at*;generalize inMem base d=d1 at*;have m1:IntKind.u64.wrap (d1.length:Int)=d1.length:=by rw[IntKind.wrap_u64];omega
 replace h:=Hid.mk h;clear ey;go_enter Tryz.func62,Tryz.ntmps62;go_wp2_with(go_at_call 92;refine(hY _).mono ?_;rintro x w1 ⟨rfl,rfl⟩);refine(hL _ _ h.out).mono ?_;rintro x w2 ⟨rfl,S2,h2,f2⟩;replace h2:=Hid.mk h2;replace f2:=Hid.mk f2;go_wp2_with fail;refine(hF _ _ _ h2.out).mono ?_;rintro x w3 ⟨rfl,S3,h3,f3⟩;replace h3:=Hid.mk h3;replace f3:=Hid.mk f3;go_wp2_with fail;go_end0;exact⟨rfl,S3,h3.out,f2.out.trans f3.out⟩
structure SlAt (S:Nat→Prop)(w:World)(a base:Nat)(b:Nat→UInt8)(t:Nat→Option Cp)(L:List Sl)(j:Nat)(W:World):Prop where
 fits:j=0∨base+j*16≤65536
 mem:∃S',TgIn S' W a (slB b base L j) (slT t base L j)∧Mf S S' w W
theorem laySlots_any (S:Nat→Prop)(a base:Nat)(b:Nat→UInt8)(t:Nat→Option Cp)(L:List Sl)(sa:Option Addr)(sc:Nat)(w:World)(h:TgIn S w a b t)(hs:EIn 8 Sl.vals w sa L)(hS:∀k o,sa=some ⟨k,o,none⟩→0<L.length→¬S k)(hb:base<18446744073709551616)(hl:L.length≤140737488355328):
 Calls Tryz.prog 63 #[.pointer (some ⟨a,0,none⟩),.int .u64 base,.slice sa L.length sc] w fun x w'=>x=.returned (.tuple #[])∧∃S',TgIn S' w' a (slB b base L L.length) (slT t base L L.length)∧Mf S S' w w':=by
 have h0:SlAt S w a base b t L 0 w:=⟨.inl rfl,S,h,Mf.refl _ _⟩;replace h0:=Hid.mk h0;replace h:=Hid.mk h;replace hs:=Hid.mk hs;replace hS:=Hid.mk hS;go_enter Tryz.func63,Tryz.ntmps63;go_wp2_with fail;go_loopw [10] (fun i wr=>∃j:Nat,i=.int .i64 j∧j≤L.length∧SlAt S w a base b t L j wr) (fun i _=>L.length - (intOf i).toNat)
 case atStart=>exact⟨0,rfl,by omega,h0.out⟩
 case round=>
  obtain⟨j,rfl,hj,hA⟩:=hrel;by_cases hlt:j<L.length
  ·have jl:(j:Int)<L.length:=by omega
   obtain⟨hfit,S1,h1,f1⟩:=hA;obtain⟨kb,off,rfl,hkb,hc⟩:=hs.out j hlt;have hkS:=hS.out kb off rfl (by omega);have hbl:=f1.kp.block kb hkb hkS;have hc':∀q v,(Sl.vals L[j])[q]?=some v→wr.cell? ⟨kb,off+j*8+q,none⟩=some v:=fun q v r=>(cell_of_block hbl _).trans (hc q v r)
   have e1:L[j]?=some L[j]:=List.getElem?_eq_getElem hlt;have eB:slB b base L (j+1)=scB (slB b base L j) (base+j*16) L[j].v:=by rw[slB,e1];rfl
   have eT:slT t base L (j+1)=scT (slT t base L j) (base+j*16) L[j].v:=by rw[slT,e1];rfl
   have hFi:=firstOf_any L[j];have hSt:=fun W (q:TgIn S1 W a (slB b base L j) (slT t base L j))=>tgStoreCap_any S1 a (base+j*16) (slB b base L j) (slT t base L j) L[j].v W q (by omega) (by unfold Sl.v;split<;>simp[Cp.zero])
   have hstop:=fun(q:granB (base+j*16)=false)=>sl_stop (b:=b) (t:=t) (L:=L) q L.length (by omega)
   have hstop1:=fun(q:granB (base+j*16)=false)=>sl_stop (b:=b) (t:=t) (L:=L) q (j+1) (by omega)
   rw[←eB,←eT]at hSt;have m0:IntKind.u64.wrap (j:Int)=j:=by rw[IntKind.wrap_u64];omega
   have m1:IntKind.u64.wrap ((j:Int)*16)=(j:Int)*16:=by rw[IntKind.wrap_u64];omega
   have m2:IntKind.u64.wrap ((base:Int)+(j:Int)*16)=(base:Int)+(j:Int)*16:=by rw[IntKind.wrap_u64];omega
   have hfit2:granB (base+j*16)=true→base+(j+1)*16≤65536:=fun q=>by have:=granB_in q;omega
   have c0:=hc' 0 _ rfl;have c1:=hc' 1 _ rfl;have c2:=hc' 2 _ rfl;have c3:=hc' 3 _ rfl;have c4:=hc' 4 _ rfl;have c5:=hc' 5 _ rfl;have c6:=hc' 6 _ rfl;have c7:=hc' 7 _ rfl;rw[Nat.add_zero]at c0;generalize hbj:slB b base L j=bj at*;generalize htj:slT t base L j=tj at*;generalize hbj1:slB b base L (j+1)=bj1 at*;generalize htj1:slT t base L (j+1)=tj1 at*;generalize L[j]=x at*;rw[Int.natCast_add,Int.natCast_mul]at hSt;replace h1:=Hid.mk h1;replace f1:=Hid.mk f1;replace eB:=Hid.mk eB;replace eT:=Hid.mk eT;replace hstop:=Hid.mk hstop;replace hstop1:=Hid.mk hstop1;replace hfit2:=Hid.mk hfit2;replace hfit:=Hid.mk hfit;replace hc':=Hid.mk hc';replace hc:=Hid.mk hc;replace hbl:=Hid.mk hbl;replace e1:=Hid.mk e1;replace hbj:=Hid.mk hbj;replace htj:=Hid.mk htj;replace hbj1:=Hid.mk hbj1;replace htj1:=Hid.mk htj1;go_wp2_with fail;refine(hFi _).mono ?_;rintro y w1 ⟨rfl,hB⟩;have h2:TgIn S1 w1 a bj tj:=h1.out.gr (((Below.refl _ wr).alloc (Nat.le_refl _) _).trans (hB.mono (by simp)))
   have f2:Mf S S1 w w1:=f1.out.trans (Mf.below (((Below.refl _ wr).alloc (Nat.le_refl _) _).trans (hB.mono (by simp))));replace hB:=Hid.mk hB;replace h2:=Hid.mk h2;replace f2:=Hid.mk f2;replace hSt:=Hid.mk hSt;go_wp2_with fail;refine(hSt.out _ h2.out).mono ?_;rintro y w2 ⟨rfl,S2,h3,f3⟩;replace f3:=f2.out.trans f3;replace h3:=Hid.mk h3;replace f3:=Hid.mk f3;unfold lcE
   cases hg:granB (base+j*16)with
   |true=>
    have hfit3:=hfit2.out hg;replace hg:=Hid.mk hg;replace hfit3:=Hid.mk hfit3;simp only[if_true];go_wp2_with fail;exact⟨⟨j+1,by go_num,by omega,⟨.inr hfit3.out,S2,by rw[hbj1.out,htj1.out];exact h3.out,f3.out⟩⟩,by simp[intOf];omega⟩
   |false=>
    have hx:=hstop.out hg;have hy:=hstop1.out hg;replace hg:=Hid.mk hg;replace hx:=Hid.mk hx;replace hy:=Hid.mk hy;simp only[Bool.false_eq_true,if_false];go_wp2_with fail;refine xre ?_;refine⟨rfl,S2,?_,f3.out⟩;rw[hx.out.1,hx.out.2,←hy.out.1,←hy.out.2];exact h3.out
  ·have jl:¬(j:Int)<L.length:=by omega
   have:j=L.length:=by omega
   subst this;replace hA:=Hid.mk hA;go_wp2_with fail;go_end0;obtain⟨_,S1,h1,f1⟩:=hA.out;exact⟨rfl,S1,h1,f1⟩
structure RgAt (w:World)(L:List Rg)(j:Nat)(W:World):Prop where
 mem:∃S',TgIn S' W (w.heap.size+1) (rgB L j) (rgT L j)∧∀k,S' k→w.heap.size<k
 kept:Below w.heap.size w W
theorem newTagged_any (L:List Rg)(ra:Option Addr)(rc:Nat)(v1 v2 v3:Value)(w:World)(hL:RgIn w ra L)(hok:∀r∈L,r.Ok)(hl:L.length≤140737488355328):
 Calls Tryz.prog 34 #[.agg #[.slice ra L.length rc,v1,v2,v3]] w fun x w'=>∃S,x=.returned (.pointer (some ⟨w.heap.size+1,0,none⟩))∧TgIn S w' (w.heap.size+1) (rgB L L.length) (rgT L L.length)∧(∀k,S k→w.heap.size<k)∧Below w.heap.size w w':=by
 have tz:=tagged_zero;have hT:=TgIn.fresh (w.alloc (.cells #[.slice ra L.length rc,v1,v2,v3] 40)) 153;rw[World.size_alloc]at hT;have h0:RgAt w L 0 ((w.alloc (.cells #[.slice ra L.length rc,v1,v2,v3] 40)).alloc (.cells (Array.replicate 128 (.pointer none)) 153)):=
  ⟨⟨_,hT,fun k q=>by omega⟩,((Below.refl _ w).alloc (Nat.le_refl _) _).alloc (by simp) _⟩
 replace h0:=Hid.mk h0;replace hL:=Hid.mk hL;replace hok:=Hid.mk hok;clear hT;go_enter Tryz.func34,Tryz.ntmps34;go_wp2_with fail;go_loopw [11] (fun i wr=>∃j:Nat,i=.int .i64 j∧j≤L.length∧RgAt w L j wr) (fun i _=>L.length - (intOf i).toNat)
 case atStart=>exact⟨0,rfl,by omega,h0.out⟩
 case round=>
  obtain⟨j,rfl,hj,⟨⟨S1,h1,n1⟩,hK⟩⟩:=hrel;by_cases hlt:j<L.length
  ·have jl:(j:Int)<L.length:=by omega
   obtain⟨kb,off,sa,sc,rfl,hkb,c0,c1,c2,c3,hs⟩:=(hL.out.below (hK.mono (Nat.le_refl _))) j hlt;obtain⟨kb',off',sa',sc',hkk,hkb',_,_,_,g3,hs'⟩:=hL.out j hlt;have hr:=hok.out L[j] (List.getElem_mem hlt);have e1:L[j]?=some L[j]:=List.getElem?_eq_getElem hlt;have eB:rgB L (j+1)=L[j].toB (rgB L j):=by rw[rgB,e1]
   have eT:rgT L (j+1)=L[j].toT (rgT L j):=by rw[rgT,e1]
   have lt1:=h1.lt;have hD:=fun W (q:TgIn S1 W (w.heap.size+1) (rgB L j) (rgT L j))=>layData_any S1 (w.heap.size+1) L[j].b (rgB L j) (rgT L j) L[j].data W q hr.rb hr.rd
   have hS:=fun S2 W (q:TgIn S2 W (w.heap.size+1) (dataB (rgB L j) L[j].b L[j].data) (dataT (rgT L j) L[j].b L[j].data)) (q1:EIn 8 Sl.vals W sa L[j].slots) (q2:∀k o,sa=some ⟨k,o,none⟩→0<L[j].slots.length→¬S2 k)=>laySlots_any S2 (w.heap.size+1) L[j].b (dataB (rgB L j) L[j].b L[j].data) (dataT (rgT L j) L[j].b L[j].data) L[j].slots sa sc W q q1 q2 hr.rb hr.rs
   have eB':slB (dataB (rgB L j) L[j].b L[j].data) L[j].b L[j].slots L[j].slots.length=L[j].toB (rgB L j):=rfl;have eT':slT (dataT (rgT L j) L[j].b L[j].data) L[j].b L[j].slots L[j].slots.length=L[j].toT (rgT L j):=rfl;rw[eB',eT',←eB,←eT]at hS;have hsa:∀k o,sa=some ⟨k,o,none⟩→0<L[j].slots.length→k<w.heap.size:=fun k o q r=>by
    have g3':=(hK.cell (p:=⟨kb',off'+j*4+3,none⟩) hkb').trans g3;have hq:(⟨kb,off,none⟩:Addr)=⟨kb',off',none⟩:=by injection hkk
    injection hq with hq1 hq2
    subst hq1 hq2;rw[c3]at g3';have:sa=sa':=by injection g3' with g;injection g
    subst this;obtain⟨b2,o2,e2,l2,_⟩:=hs' 0 r;rw[e2]at q;injection q with q;injection q with q
    omega
   have hj1:Hid (j+1≤L.length):=⟨hlt⟩;generalize hbj:rgB L j=bj at*;generalize htj:rgT L j=tj at*;generalize hbj1:rgB L (j+1)=bj1 at*;generalize htj1:rgT L (j+1)=tj1 at*;generalize hx:L[j]=x at*;generalize dataB bj x.b x.data=bd at*;generalize dataT tj x.b x.data=td at*;have szr:=hK.size;have nS1:¬S1 wr.heap.size:=fun q=>by have:=lt1 _ q;omega
   have hA0:∀t,TgIn S1 (wr.alloc (.cells #[.int .u64 x.b,.int .u64 x.n,.string (str x.data),.slice sa x.slots.length sc] t)) (w.heap.size+1) bj tj:=fun t=>h1.gr ((Below.refl _ wr).alloc (Nat.le_refl _) _)
   replace h1:=Hid.mk h1;replace n1:=Hid.mk n1;replace hK:=Hid.mk hK;replace hs:=Hid.mk hs;replace hs':=Hid.mk hs';replace hsa:=Hid.mk hsa;replace hD:=Hid.mk hD;replace hS:=Hid.mk hS;replace hr:=Hid.mk hr;replace eB:=Hid.mk eB;replace eT:=Hid.mk eT;replace eB':=Hid.mk eB';replace eT':=Hid.mk eT';replace lt1:=Hid.mk lt1;replace hA0:=Hid.mk hA0;replace nS1:=Hid.mk nS1;replace hbj:=Hid.mk hbj;replace htj:=Hid.mk htj;replace hbj1:=Hid.mk hbj1;replace htj1:=Hid.mk htj1;replace e1:=Hid.mk e1;replace hx:=Hid.mk hx;replace hkk:=Hid.mk hkk;replace g3:=Hid.mk g3;go_wp2_with fail;refine(hD.out _ (hA0.out _)).mono ?_;rintro y w2 ⟨rfl,S2,h2,f2⟩;have A2:=at_kp (At.new wr #[.int .u64 x.b,.int .u64 x.n,.string (str x.data),.slice sa x.slots.length sc] 126) f2.kp nS1.out;have s2:wr.heap.size+1≤w2.heap.size:=by have:=f2.kp.size;simpa using this
   have n2:∀k,S2 k→w.heap.size<k:=fun k q=>by
    rcases f2.new k q with r|r
    ·exact n1.out k r
    ·simp at r;omega
   have K2:Below w.heap.size w w2:=(hK.out.alloc (by omega) _).trans (f2.kp.below (by simp;omega) (fun k q=>Nat.le_of_lt (n1.out k q)));have E2:EIn 8 Sl.vals w2 sa x.slots:=by
    intro i hi;obtain⟨b2,o2,e2,l2,c2⟩:=hs.out i hi;have l3:=hsa.out b2 o2 e2 (by omega);have hb2:=(K2.block b2 l3).trans (hK.out.block b2 l3).symm;exact⟨b2,o2,e2,Nat.lt_of_lt_of_le l3 K2.size,fun j v q=>(cell_of_block hb2 _).trans (c2 j v q)⟩
   have z0:w2.cell? ⟨wr.heap.size,0,none⟩=some (.int .u64 x.b):=A2.2.1 0;have z3:w2.cell? ⟨wr.heap.size,3,none⟩=some (.slice sa x.slots.length sc):=A2.2.1 3;have q3:∀k o,sa=some ⟨k,o,none⟩→0<x.slots.length→¬S2 k:=fun k o q r p=>by
    have:=hsa.out k o q r;have:=n2 k p;omega
   replace h2:=Hid.mk h2;replace f2:=Hid.mk f2;replace A2:=Hid.mk A2;replace n2:=Hid.mk n2;replace K2:=Hid.mk K2;replace E2:=Hid.mk E2;replace q3:=Hid.mk q3;go_wp2_with fail;refine(hS.out _ _ h2.out E2.out q3.out).mono ?_;rintro y w3 ⟨rfl,S3,h3,f3⟩;have n3:∀k,S3 k→w.heap.size<k:=fun k q=>by
    rcases f3.new k q with r|r
    ·exact n2.out k r
    ·omega
   have K3:Below w.heap.size w w3:=K2.out.trans (f3.kp.below K2.out.size (fun k q=>Nat.le_of_lt (n2.out k q)));replace h3:=Hid.mk h3;replace n3:=Hid.mk n3;replace K3:=Hid.mk K3;go_wp2_with fail;exact⟨⟨j+1,by go_num,hj1.out,⟨⟨S3,by rw[hbj1.out,htj1.out];exact h3.out,n3.out⟩,K3.out⟩⟩,by have:=hj1.out;simp[intOf];omega⟩
  ·have jl:¬(j:Int)<L.length:=by omega
   have:j=L.length:=by omega
   subst this;replace h1:=Hid.mk h1;replace n1:=Hid.mk n1;replace hK:=Hid.mk hK;go_wp2_with fail;go_ret;exact⟨rfl,S1,h1.out,n1.out,hK.out⟩
structure Ed where
 e:Int
 v:Int
 f:Int
def flt (f:Int):Ed:=⟨7,0,f⟩
structure Fm where
 gate:Nat
 pc:Nat
 regs:Nat→Vl
structure Tc where
 store:Bool
 addr:Nat
 size:Nat
def Vl.row (v:Vl):List Value:=[.bool v.g,.int .u64 v.n,.int .u64 v.c.b,.int .u64 v.c.e,.int .u64 v.c.c,.int .u8 v.c.p,.int .i64 v.c.s]
theorem Vl.row_len (v:Vl):v.row.length=7:=rfl
def regRow (r:Nat→Vl):Nat→List Value
 |0=>[]
 |n+1=>regRow r n++(r n).row
theorem regRow_len (r:Nat→Vl)(n:Nat):(regRow r n).length=n*7:=by
 induction n with
 |zero=>rfl
 |succ n ih=>rw[regRow,List.length_append,ih,Vl.row_len];omega
theorem regRow_at (r:Nat→Vl)(n:Nat):∀o,o<n*7→(regRow r n)[o]?=(r (o/7)).row[o%7]?:=by
 induction n with
 |zero=>intro o h;omega
 |succ n ih=>
  intro o h;rw[regRow];by_cases q:o<n*7
  ·rw[List.getElem?_append_left (by rw[regRow_len];exact q)];exact ih o q
  ·rw[List.getElem?_append_right (by rw[regRow_len];omega),regRow_len];rw[show o/7=n by omega,show o%7=o - n*7 by omega]
def Fm.row (f:Fm):List Value:=.int .i64 f.gate::.int .i64 f.pc::regRow f.regs 16
def Tc.row (x:Tc):List Value:=[.bool x.store,.int .u64 x.addr,.int .u64 x.size]
def mRow (p0 p1 p2:Value)(d:Int)(km:Nat)(f:Fm)(st inp out tou:Value)(o:Ed):List Value:=
 [p0,p1,p2,.int .i64 d,.pointer (some ⟨km,0,none⟩),.int .i64 f.gate,.int .i64 f.pc]++regRow f.regs 16++[st,inp,out,tou,.int .i64 o.e,.int .u64 o.v,.int .i64 o.f]
theorem mRow_idx (p0 p1 p2:Value)(d:Int)(km:Nat)(f:Fm)(st inp out tou:Value)(o:Ed)(x:Nat):
 (mRow p0 p1 p2 d km f st inp out tou o)[x]?=if x<7 then [p0,p1,p2,.int .i64 d,.pointer (some ⟨km,0,none⟩),.int .i64 f.gate,.int .i64 f.pc][x]? else if x<119 then(f.regs ((x - 7)/7)).row[(x - 7)%7]? else [st,inp,out,tou,.int .i64 o.e,.int .u64 o.v,.int .i64 o.f][x - 119]?:=by
 have hl:([p0,p1,p2,Value.int .i64 d,.pointer (some ⟨km,0,none⟩),.int .i64 f.gate,.int .i64 f.pc]++regRow f.regs 16).length=119:=by rw[List.length_append,regRow_len];rfl
 unfold mRow;rw[List.getElem?_append,hl];by_cases h1:x<119
 ·rw[if_pos h1,List.getElem?_append];by_cases h2:x<7
  ·rw[if_pos h2,if_pos (by simpa using h2)]
  ·rw[if_neg h2,if_neg (by simpa using h2),if_pos h1];exact regRow_at f.regs 16 (x - 7) (by omega)
 ·rw[if_neg h1,if_neg (by omega),if_neg h1]
theorem mRow_reg (p0 p1 p2:Value)(d:Int)(km:Nat)(f:Fm)(st inp out tou:Value)(o:Ed)(r j:Nat)(hr:r<16)(hj:j<7):
 (mRow p0 p1 p2 d km f st inp out tou o)[7+r*7+j]?=(f.regs r).row[j]?:=by
 rw[mRow_idx,if_neg (by omega),if_pos (by omega),show(7+r*7+j - 7)/7=r by omega,show(7+r*7+j - 7)%7=j by omega]
def updV (r:Nat→Vl)(i:Nat)(v:Vl):Nat→Vl:=fun x=>if x=i then v else r x
structure Bx (w:World)(a:Nat)(row:List Value):Prop where
 lt:a<w.heap.size
 at_:∀o v,row[o]?=some v→w.cell? ⟨a,o,none⟩=some v
 fr:∀o,w.frozen? ⟨a,o,none⟩=false
theorem Bx.block {w w1:World}{a:Nat}{row:List Value}(h:Bx w a row)(hs:w.heap.size≤w1.heap.size)(hb:w1.heap[a]?=w.heap[a]?):Bx w1 a row:=
 ⟨Nat.lt_of_lt_of_le h.lt hs,fun o v q=>(cell_of_block hb o).trans (h.at_ o v q),fun o=>(frozen_of_block hb o).trans (h.fr o)⟩
theorem Bx.keep {S:Nat→Prop}{w w1:World}{a:Nat}{row:List Value}(h:Bx w a row)(hk:Kp S w w1)(hn:¬S a):Bx w1 a row:=h.block hk.size (hk.block a h.lt hn)
theorem Bx.set {w:World}{a:Nat}{row:List Value}(h:Bx w a row)(i:Nat)(v:Value):Bx (w.setCell ⟨a,i,none⟩ v) a (row.set i v):=by
 refine⟨by simpa using h.lt,fun o u q=>?_,fun o=>by simpa using h.fr o⟩;by_cases e:i=o
 ·subst e;rw[List.getElem?_set_self']at q
  cases hq:row[i]? with
  |none=>rw[hq]at q;simp at q
  |some y=>
   rw[hq]at q;have:v=u:=by simpa using q
   subst this;exact css (h.at_ i y hq)
 ·rw[List.getElem?_set_ne e]at q;rw[cso (fun _=>e)];exact h.at_ o u q
theorem mRow_other (p0 p1 p2:Value)(d:Int)(km:Nat)(f:Fm)(st inp out tou:Value)(o:Ed)(r:Nat)(v:Vl)(x:Nat)(hx:x<7+r*7∨7+r*7+7≤x):
 (mRow p0 p1 p2 d km {f with regs:=updV f.regs r v} st inp out tou o)[x]?=(mRow p0 p1 p2 d km f st inp out tou o)[x]?:=by
 rw[mRow_idx,mRow_idx];by_cases h2:x<7
 ·rw[if_pos h2,if_pos h2]
 ·rw[if_neg h2,if_neg h2];by_cases h1:x<119
  ·rw[if_pos h1,if_pos h1];have:updV f.regs r v ((x - 7)/7)=f.regs ((x - 7)/7):=by unfold updV;rw[if_neg (by omega)]
   show(updV f.regs r v ((x - 7)/7)).row[(x - 7)%7]?=_;rw[this]
  ·rw[if_neg h1,if_neg h1]
theorem Bx.putReg {w:World}{a:Nat}{p0 p1 p2:Value}{d:Int}{km:Nat}{f:Fm}{st inp out tou:Value}{o:Ed}(h:Bx w a (mRow p0 p1 p2 d km f st inp out tou o))(r:Nat)(v:Vl)(hr:r<16):
 Bx (w.setCells a (7+r*7) v.row) a (mRow p0 p1 p2 d km {f with regs:=updV f.regs r v} st inp out tou o):=by
 refine⟨by rw[setCells_size];exact h.lt,fun x u q=>?_,fun x=>by rw[World.frozen?_setCells];exact h.fr x⟩;by_cases hx:x<7+r*7∨7+r*7+7≤x
 ·rw[mRow_other _ _ _ _ _ _ _ _ _ _ _ r v x hx]at q;rw[World.cell?_setCells_out a v.row (7+r*7) w _ (fun _ _=>by rw[Vl.row_len];exact hx)];exact h.at_ x u q
 ·obtain⟨j,rfl⟩:∃j,x=7+r*7+j:=⟨x - (7+r*7),by omega⟩;rw[mRow_reg _ _ _ _ _ _ _ _ _ _ _ r j hr (by omega)]at q;have e:({f with regs:=updV f.regs r v}:Fm).regs r=v:=by simp[updV]
  rw[e]at q;have hj:j<v.row.length:=by rw[Vl.row_len];omega
  rw[World.cell?_setCells_in a v.row (7+r*7) w (fun i hi=>by
   rw[Vl.row_len]at hi;have e2:=mRow_reg p0 p1 p2 d km f st inp out tou o r i hr hi;have e3:(f.regs r).row[i]?=some ((f.regs r).row[i]'(by rw[Vl.row_len];exact hi)):=List.getElem?_eq_getElem _;rw[e3]at e2;rw[h.at_ _ _ e2];rfl) j hj,←q,List.getElem?_eq_getElem hj]
end T
end Go.Proofs.YtkhbiaaangnkdaaGreatDoor
