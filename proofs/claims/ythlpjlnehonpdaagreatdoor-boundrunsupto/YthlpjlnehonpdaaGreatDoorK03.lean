import Derived.Test.YthlpjlnehonpdaaGreatDoorK02
import Derived.Deep.Slices
import Derived.SizedLaws
namespace Go.Proofs.YthlpjlnehonpdaaGreatDoor
set_option maxRecDepth 100000
set_option maxHeartbeats 40000000
open Go.RowKit
theorem str_list (l:List UInt8):(str l).toList=l:=by
 rw[ByteArray.toList_eq];rfl
theorem Right_any (op a b c m:Int)(w:World)(ht:TabIn w)(h0:0≤op)(h1:op<256):
 Calls Tryz.prog 96 #[.agg #[.int .u8 op,.int .i64 a,.int .i64 b,.int .i64 c,.int .i64 m]] w fun x w'=>x=.returned (.int .i64 (rightF op a b c m))∧Gr w w':=by
 have hn:=Name_any op (w.alloc (.cells #[.int .u8 op,.int .i64 a,.int .i64 b,.int .i64 c,.int .i64 m] 29)) (ht.gr ((Gr.refl w).alloc _)) h0 h1;have hf:=fieldsRight_any op a b c m (w.alloc (.cells #[.int .u8 op,.int .i64 a,.int .i64 b,.int .i64 c,.int .i64 m] 29)) (ht.gr ((Gr.refl w).alloc _)) h0 h1;unfold rightF;generalize fR op (shapeOf op) 0 a b c m=ok at*;generalize nameOf op=nm at*;have sl:=str_list;by_cases hm:nm=[]
 ·subst hm;rw[if_pos rfl];go_enter Tryz.func96,Tryz.ntmps96;go_wp2_with(go_at_call 141;refine hn.mono ?_;rintro x w' ⟨rfl,rfl⟩);go_ret;exact⟨rfl,(Gr.refl w).alloc _⟩
 ·rw[if_neg hm];have hq:nm.isEmpty=false:=by simpa using hm
  cases ok with
  |true=>
   go_enter Tryz.func96,Tryz.ntmps96;go_wp2_with(first|(go_at_call 141;refine hn.mono ?_;rintro x w' ⟨rfl,rfl⟩)|(go_at_call 142;refine hf.mono ?_;rintro x w' ⟨rfl,hG⟩));go_ret;exact⟨rfl,hG.of_alloc⟩
  |false=>
   go_enter Tryz.func96,Tryz.ntmps96;go_wp2_with(first|(go_at_call 141;refine hn.mono ?_;rintro x w' ⟨rfl,rfl⟩)|(go_at_call 142;refine hf.mono ?_;rintro x w' ⟨rfl,hG⟩));go_ret;exact⟨rfl,hG.of_alloc⟩
def Ins.right (k:Ins):Int:=rightF k.op k.a k.b k.c k.m
def OpsIn (L:List Ins):Prop:=∀k∈L,0≤k.op∧k.op<256
def maxI:Nat:=3518437208883
open Go.ChangeShapes Go.WideShapes Go.ChangeAt Go.RowKit Go.Deep
theorem five_list {α:Type}{cs:List α}(h:cs.length=5):∃c0 c1 c2 c3 c4,cs=[c0,c1,c2,c3,c4]:=by
 match cs,h with
 |[c0,c1,c2,c3,c4],_=>exact⟨c0,c1,c2,c3,c4,rfl⟩
theorem bulk_one {H:Type}(d:DataW H):1≤Rows.uptoBulk d:=by
 cases d with
 |lit l=>cases l<;>simp[Rows.uptoBulk]
 |_=>simp[Rows.uptoBulk]
theorem bulk_len {H:Type}(l:List (DataW H)):l.length≤Rows.uptoBulkAll l:=by
 induction l with
 |nil=>simp[Rows.uptoBulkAll]
 |cons x r ih=>have:=bulk_one x;simp only[Rows.uptoBulkAll,List.length_cons];omega
theorem trod_inst {H:Type}{enc:TypeId×Value→H}{W:World}{b0 n:Nat}{spare:Nat→Bool}{held:Bool}{cs:List Value}{x:DataW H×List MemPlace}
 (hf:DataW.trod enc Tryz.prog W b0 spare held n 29 cs=some x):∃k:Ins,cs=k.vals∧(0≤k.op∧k.op<256)∧6≤Rows.uptoBulk x.1:=by
 have hs:=Tryz.underlying29;obtain⟨xs,m,_,hxx,hcl,hl,hx⟩:=DataW.trod_struct hs hf;obtain⟨c0,c1,c2,c3,c4,rfl⟩:=five_list (hcl.trans cellsInst);have hbk:6≤Rows.uptoBulk x.1:=by
  rw[hxx];have:=bulk_len (xs.map (·.1));rw[List.length_map,hl]at this;have h5:5≤Rows.uptoBulkAll (xs.map (·.1)):=this;simp only[Rows.uptoBulk];omega
 have at_:∀i,i<5→∃y,xs[i]?=some y:=by
  intro i hi;have:i<xs.length:=by rw[hl];simpa using hi
  exact⟨xs[i],by simp[this]⟩
 have k1:Tryz.prog.cellsOf 26=1:=by kernel_rfl
 have k2:Tryz.prog.cellsOf 3=1:=by kernel_rfl
 obtain⟨y0,t0⟩:=at_ 0 (by omega);rw[←hx 0 _ rfl]at t0;obtain⟨y1,t1⟩:=at_ 1 (by omega);rw[←hx 1 _ rfl]at t1;obtain⟨y2,t2⟩:=at_ 2 (by omega);rw[←hx 2 _ rfl]at t2;obtain⟨y3,t3⟩:=at_ 3 (by omega);rw[←hx 3 _ rfl]at t3;obtain⟨y4,t4⟩:=at_ 4 (by omega);rw[←hx 4 _ rfl]at t4;obtain⟨op,e0,_,w0⟩:=DataW.trod_int Tryz.underlying26 t0;obtain⟨a,e1,_,_⟩:=DataW.trod_int Tryz.underlying3 t1;obtain⟨b,e2,_,_⟩:=DataW.trod_int Tryz.underlying3 t2;obtain⟨c,e3,_,_⟩:=DataW.trod_int Tryz.underlying3 t3;obtain⟨m,e4,_,_⟩:=DataW.trod_int Tryz.underlying3 t4;simp[k1,k2]at e0 e1 e2 e3 e4;subst e0 e1 e2 e3 e4;exact⟨⟨op,a,b,c,m⟩,rfl,bd_u8 w0,hbk⟩
theorem addr_add (b off k:Nat):(⟨b,off,none⟩:Addr).add k=⟨b,off+k,none⟩:=by by_cases h:k=0<;>simp[Addr.add,h]
theorem choose_list {α:Type}(p:Nat→α→Prop):∀n,(∀i,i<n→∃k,p i k)→∃L:List α,L.length=n∧∀i (h:i<L.length),p i L[i]
 |0,_=>⟨[],rfl,fun i h=>by simp at h⟩
 |n+1,h=>by
  obtain⟨L,hl,hL⟩:=choose_list p n (fun i hi=>h i (by omega));obtain⟨k,hk⟩:=h n (by omega);refine⟨L++[k],by simp[hl],fun i hi=>?_⟩;by_cases hin:i<L.length
  ·rw[List.getElem_append_left hin];exact hL i hin
  ·have:i=n:=by simp at hi;omega
   subst this;rw[List.getElem_append_right (by omega)];simpa [hl]using hk
theorem gr_size {w W:World}(h:Gr w W):w.heap.size≤W.heap.size:=h.below.size
theorem Gr.cell {w W:World}(h:Gr w W){k:Nat}(hk:k<w.heap.size)(o:Nat):W.cell? ⟨k,o,none⟩=w.cell? ⟨k,o,none⟩:=h.below.cell (p:=⟨k,o,none⟩) hk
theorem retI {k:IntKind}{a b:Int}(h:a=b):Ending.returned (.int k a)=.returned (.int k b):=by rw[h]
def W64 (x:Int):Prop:=0≤x∧x<18446744073709551616
def B8 (x:Int):Prop:=0≤x∧x<256
def J64 (x:Int):Prop:= -9223372036854775808≤x∧x<9223372036854775808
structure PTyp where
 cap:Bool
 b:Int
 e:Int
 lo:Int
 hi:Int
 p:Int
 s:Int
structure PSlot where
 t:PTyp
 c:Int
structure PReg where
 b:Int
 n:Int
 data:List UInt8
 slots:List PSlot
structure PRoot where
 r:Int
 b:Int
 e:Int
 c:Int
 p:Int
 s:Int
structure PComp where
 roots:List PRoot
 code:List Ins
structure PGate where
 c:Int
 e:Int
 args:List PTyp
 res:List PTyp
structure PImg where
 regs:List PReg
 comps:List PComp
 gates:List PGate
 depth:Int
def PTyp.vals (t:PTyp):List Value:=[.bool t.cap,.int .u64 t.b,.int .u64 t.e,.int .u64 t.lo,.int .u64 t.hi,.int .u8 t.p,.int .i64 t.s]
def PSlot.vals (k:PSlot):List Value:=k.t.vals++[.int .u64 k.c]
def PRoot.vals (k:PRoot):List Value:=[.int .i64 k.r,.int .u64 k.b,.int .u64 k.e,.int .u64 k.c,.int .u8 k.p,.int .i64 k.s]
def PTyp.Rng (t:PTyp):Prop:=W64 t.b∧W64 t.e∧W64 t.lo∧W64 t.hi∧B8 t.p∧J64 t.s
def PSlot.Rng (k:PSlot):Prop:=k.t.Rng∧W64 k.c
def PRoot.Rng (k:PRoot):Prop:=J64 k.r∧W64 k.b∧W64 k.e∧W64 k.c∧B8 k.p∧J64 k.s
def hasB (h p:Int):Bool:=bits .andNot .u8 p h==0
def rightB (b e p s:Int):Bool:=decide (b≤e)&&decide (e≤4294967296)&&hasB 127 p&&decide (0≤s)&&decide (s≤15)
theorem right_false {b e p s:Int}(h:¬(b≤e∧e≤4294967296∧hasB 127 p=true∧0≤s∧s≤15)):false=rightB b e p s:=by
 symm;rw[Bool.eq_false_iff];intro k
 simp only[rightB,Bool.and_eq_true,decide_eq_true_eq]at k;exact h ⟨k.1.1.1.1,k.1.1.1.2,k.1.1.2,k.1.2,k.2⟩
theorem right_last {b e p s:Int}(h1:b≤e)(h2:e≤4294967296)(h3:hasB 127 p=true)(h4:0≤s):decide (s≤15)=rightB b e p s:=by simp[rightB,h1,h2,h3,h4]
def dataB (b e p s:Int):Bool:=rightB b e p s&&(bits .and .u8 p 16==0)
def PTyp.right (t:PTyp):Bool:=if t.cap then dataB t.b t.e t.p t.s&&decide (t.lo≤t.hi)else t.b==0&&t.e==0&&t.lo==0&&t.hi==0&&t.p==0&&t.s==0
def inLH (lo hi c:Int):Bool:=decide (lo≤c)&&decide (c≤hi)
def PSlot.right (k:PSlot):Bool:=k.t.cap&&k.t.right&&inLH k.t.lo k.t.hi k.c
def placeB (b n f:Int):Bool:=b%16==0&&n%16==0&&!(n==0)&&decide (f≤b)&&decide (b<65536)&&decide (n≤65536 - b)
def endsNought (d:List UInt8):Bool:=match d.getLast? with|some x=>x==0|none=>false
def contentB (n:Int)(d:List UInt8)(k:Nat):Bool:=if 0<k then d.isEmpty&&(n==16*(k:Int))else decide ((d.length:Int)≤n)&&!endsNought d
def slotsR:List PSlot→Bool
 |[]=>true
 |k::l=>k.right&&slotsR l
def regsR:List PReg→Int→Int
 |[],_=>0
 |r::l,f=>if placeB r.b r.n f&&contentB r.n r.data r.slots.length then(if slotsR r.slots then regsR l (r.b+r.n)else 45)else 43
def rootsR:List PRoot→Int→Bool
 |[],_=>true
 |k::l,f=>if f<k.r∧k.r<16∧dataB k.b k.e k.p k.s=true then rootsR l k.r else false
def tgtB (op m:Int)(code gates:Int):Bool:=if 20≤op∧op≤25 then decide (m<code)else if op=31 then decide (m<gates)else true
def codeF (code gates:Int):List Ins→Int
 |[]=>0
 |k::l=>if k.right=0 then(if tgtB k.op k.m code gates then codeF code gates l else 48)else k.right
def codeR (L:List Ins)(gates:Int):Int:=if L.length<1∨400<L.length then 42 else codeF L.length gates L
def compsR (gates:Int):List PComp→Int
 |[]=>0
 |c::l=>if rootsR c.roots 7 then(if codeR c.code gates=0 then compsR gates l else codeR c.code gates)else 46
def typesR:List PTyp→Bool
 |[]=>true
 |t::l=>t.right&&typesR l
def hasI (L:List PComp)(c e:Int):Bool:=if 0≤c∧c<L.length∧0≤e then(match L[c.toNat]? with|some k=>decide (e<k.code.length)|none=>false)else false
def gatesR (L:List PComp):List PGate→Int
 |[]=>0
 |g::l=>if hasI L g.c g.e&&decide (g.args.length≤7)&&decide (g.res.length≤7)then(if typesR g.args&&typesR g.res then gatesR L l else 44)else 47
def countsB (a b c:Nat)(d:Int):Bool:=decide (a≤8)&&decide (1≤b)&&decide (b≤4)&&decide (1≤c)&&decide (c≤16)&&decide (1≤d)&&decide (d≤16)
def PImg.right (m:PImg):Int:=
 if countsB m.regs.length m.comps.length m.gates.length m.depth then
  (if regsR m.regs 0=0 then(if compsR m.gates.length m.comps=0 then gatesR m.comps m.gates else compsR m.gates.length m.comps)else regsR m.regs 0)
 else 42
def FIn {α:Type}(n:Nat)(vals:α→List Value)(B:Nat)(w:World)(a:Option Addr)(L:List α):Prop:=
 ∀i (h:i<L.length),∃b off:Nat,a=some ⟨b,off,none⟩∧b<B∧b<w.heap.size∧∀j,j<n→w.cell? ⟨b,off+i*n+j,none⟩=(vals L[i])[j]?
theorem FIn.below {α:Type}{n:Nat}{vals:α→List Value}{B:Nat}{w w1:World}{a:Option Addr}{L:List α}(h:FIn n vals B w a L)(hb:Below B w w1):FIn n vals B w1 a L:=fun i hi=>by
 obtain⟨b,off,ha,h1,h2,h3⟩:=h i hi;exact⟨b,off,ha,h1,Nat.lt_of_lt_of_le h2 hb.size,fun j hj=>(hb.cell (p:=⟨b,_,none⟩) h1).trans (h3 j hj)⟩
theorem FIn.mono {α:Type}{n:Nat}{vals:α→List Value}{B B':Nat}{w:World}{a:Option Addr}{L:List α}(h:FIn n vals B w a L)(hb:B≤B'):FIn n vals B' w a L:=fun i hi=>by
 obtain⟨b,off,ha,h1,h2,h3⟩:=h i hi;exact⟨b,off,ha,Nat.lt_of_lt_of_le h1 hb,h2,h3⟩
theorem FIn.nil {α:Type}(n:Nat)(vals:α→List Value)(B:Nat)(w:World)(a:Option Addr):FIn n vals B w a []:=fun i hi=>by simp at hi
open Go.ChangeShapes Go.WideShapes Go.ChangeAt Go.RowKit
theorem bd_u64 {n:Int}(h:(Lit.int .u64 n).wf=true):0≤n∧n<18446744073709551616:=by
 have:=bounds_u64 h;omega
theorem cellsType:Tryz.prog.cellsOf 132=7:=by kernel_rfl
theorem cellsCap:Tryz.prog.cellsOf 77=5:=by kernel_rfl
end Go.Proofs.YthlpjlnehonpdaaGreatDoor
