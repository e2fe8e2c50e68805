import Derived.Test.YtdidjhillmgccaaGreatTNew
import Derived.Test.YtdidjhillmgccaaGreatTSep0
import Derived.Deep.MidRow
namespace Go.Proofs.YtdidjhillmgccaaGreat
namespace Z
open Go.RowKit
open T (Sep Ob Kp Mf FlIn Hid)
structure Hz (p:Prop):Prop where
 out:p
theorem ζ {p:Prop}(h:p):Hz p:=⟨h⟩
structure Fx where
 cv:Value
 gv:Value
 dep:Int
 mp:Nat
 g:Nat
 p:Nat
 r:Nat→Int
 sv:Value
 iv:Value
 ov_:Value
 tv:Value
 e:Int
 v:Int
 f:Int
def Fx.at (x:Fx)(j:Nat):Value:=
 if 6≤j∧j<22 then .int .u64 (x.r (j - 6))else
 match j with
 |0=>x.cv
 |1=>x.gv
 |2=>.int .i64 x.dep
 |3=>.pointer (some ⟨x.mp,0,none⟩)
 |4=>.int .i64 x.g
 |5=>.int .i64 x.p
 |22=>x.sv
 |23=>x.iv
 |24=>x.ov_
 |25=>x.tv
 |26=>.int .i64 x.e
 |27=>.int .u64 x.v
 |_=>.int .i64 x.f
theorem Fx.reg (x:Fx)(i:Nat)(h:i<16):x.at (6+i)=.int .u64 (x.r i):=by
 unfold Fx.at;rw[if_pos ⟨by omega,by omega⟩,Nat.add_sub_cancel_left]
structure Bx (w:World)(a:Nat)(x:Fx):Prop where
 lt:a<w.heap.size
 at_:∀j,j<29→w.cell? ⟨a,j,none⟩=some (x.at j)
 fr:∀j,w.frozen? ⟨a,j,none⟩=false
theorem Bx.block {w w1:World}{a:Nat}{x:Fx}(h:Bx w a x)(hs:w.heap.size≤w1.heap.size)(hb:w1.heap[a]?=w.heap[a]?):Bx w1 a x:=
 ⟨Nat.lt_of_lt_of_le h.lt hs,fun j q=>(T.cell_of_block hb j).trans (h.at_ j q),fun j=>(T.frozen_of_block hb j).trans (h.fr j)⟩
theorem Bx.keep {S:Nat→Prop}{w w1:World}{a:Nat}{x:Fx}(h:Bx w a x)(hk:Kp S w w1)(hn:¬S a):Bx w1 a x:=h.block hk.size (hk.block a h.lt hn)
theorem Bx.gr {w w1:World}{a:Nat}{x:Fx}(h:Bx w a x)(g:Gr w w1):Bx w1 a x:=h.block g.below.size (g.below.block a h.lt)
theorem Bx.bel {w w1:World}{a:Nat}{x:Fx}(h:Bx w a x)(g:Below w.heap.size w w1):Bx w1 a x:=h.block g.size (g.block a h.lt)
theorem cs_same {w:World}{k o:Nat}{v u:Value}(h:w.cell? ⟨k,o,none⟩=some u):(w.setCell ⟨k,o,none⟩ v).cell? ⟨k,o,none⟩=some v:=World.cell?_setCell_same (w:=w) (a:=⟨k,o,none⟩) (v:=v) (u:=u) h
theorem Bx.set {w:World}{a:Nat}{x x':Fx}(h:Bx w a x)(i:Nat)(v:Value)(hi:i<29)(hx:∀j,j<29→x'.at j=if j=i then v else x.at j):Bx (w.setCell ⟨a,i,none⟩ v) a x':=by
 refine⟨by simpa using h.lt,fun j q=>?_,fun j=>by simpa using h.fr j⟩;rw[hx j q];by_cases e:j=i
 ·rw[if_pos e,e];exact cs_same (h.at_ i hi)
 ·rw[if_neg e,T.cso (fun _=>Ne.symm e)];exact h.at_ j q
def bxOb (a:Nat)(x:Fx):Ob:=⟨fun k=>k=a,fun w=>Bx w a x,fun _ h _ q=>q▸h.lt,fun _ _ _ h hk hd=>h.keep hk (hd _ rfl)⟩
def updR (r:Nat→Int)(i:Nat)(n:Int):Nat→Int:=fun k=>if k=i then n else r k
theorem fx_cases {P:Nat→Prop}(h0:P 0)(h1:P 1)(h2:P 2)(h3:P 3)(h4:P 4)(h5:P 5)(hr:∀i,i<16→P (6+i))(h22:P 22)(h23:P 23)(h24:P 24)(h25:P 25)(h26:P 26)(h27:P 27)(h28:P 28):∀j,j<29→P j:=by
 intro j hj;by_cases q:6≤j∧j<22
 ·have:=hr (j - 6) (by omega)
  rwa [show 6+(j - 6)=j by omega]at this
 ·have hq:j=0∨j=1∨j=2∨j=3∨j=4∨j=5∨j=22∨j=23∨j=24∨j=25∨j=26∨j=27∨j=28:=by omega
  rcases hq with rfl|rfl|rfl|rfl|rfl|rfl|rfl|rfl|rfl|rfl|rfl|rfl|rfl
  ·exact h0
  ·exact h1
  ·exact h2
  ·exact h3
  ·exact h4
  ·exact h5
  ·exact h22
  ·exact h23
  ·exact h24
  ·exact h25
  ·exact h26
  ·exact h27
  ·exact h28
def Fx.next (x:Fx):Fx:={x with p:=x.p+1}
def Fx.put (x:Fx)(i:Nat)(n:Int):Fx:={x with r:=updR x.r i n}
def Fx.lay (x:Fx)(i:Nat)(n:Int):Fx:=(x.put i n).next
def Fx.br (x:Fx)(ok:Bool)(t:Nat):Fx:=if ok then{x with p:=t}else{x with p:=x.p+1}
def Fx.dm (x:Fx)(ok:Bool)(c:Int):Fx:=if ok then{x with p:=x.p+1}else{x with e:=2,v:=c,f:=0}
def Fx.fin (x:Fx)(e v f:Int):Fx:={x with e:=e,v:=v,f:=f}
theorem Bx.pc {w:World}{a:Nat}{x:Fx}(h:Bx w a x)(q:Nat):Bx (w.setCell ⟨a,5,none⟩ (.int .i64 q)) a {x with p:=q}:=
 h.set 5 _ (by omega) (fx_cases rfl rfl rfl rfl rfl rfl (fun i hi=>by rw[Fx.reg _ i hi,if_neg (by omega),Fx.reg _ i hi]) rfl rfl rfl rfl rfl rfl rfl)
theorem Bx.reg {w:World}{a:Nat}{x:Fx}(h:Bx w a x)(i:Nat)(hi:i<16)(n:Int):Bx (w.setCell ⟨a,6+i,none⟩ (.int .u64 n)) a (x.put i n):=
 h.set (6+i) _ (by omega) (fx_cases (by rw[if_neg (by omega)];rfl) (by rw[if_neg (by omega)];rfl) (by rw[if_neg (by omega)];rfl) (by rw[if_neg (by omega)];rfl) (by rw[if_neg (by omega)];rfl) (by rw[if_neg (by omega)];rfl)
  (fun j hj=>by
   rw[Fx.reg _ j hj];by_cases e:j=i
   ·rw[if_pos (by omega)];show Value.int .u64 (updR x.r i n j)=_;unfold updR;rw[if_pos e]
   ·rw[if_neg (by omega),Fx.reg _ j hj];show Value.int .u64 (updR x.r i n j)=_;unfold updR;rw[if_neg e])
  (by rw[if_neg (by omega)];rfl) (by rw[if_neg (by omega)];rfl) (by rw[if_neg (by omega)];rfl) (by rw[if_neg (by omega)];rfl) (by rw[if_neg (by omega)];rfl) (by rw[if_neg (by omega)];rfl) (by rw[if_neg (by omega)];rfl))
theorem Bx.iv {w:World}{a:Nat}{x:Fx}(h:Bx w a x)(v:Value):Bx (w.setCell ⟨a,23,none⟩ v) a {x with iv:=v}:=
 h.set 23 _ (by omega) (fx_cases rfl rfl rfl rfl rfl rfl (fun i hi=>by rw[Fx.reg _ i hi,if_neg (by omega),Fx.reg _ i hi]) rfl rfl rfl rfl rfl rfl rfl)
theorem Bx.ov {w:World}{a:Nat}{x:Fx}(h:Bx w a x)(v:Value):Bx (w.setCell ⟨a,24,none⟩ v) a {x with ov_:=v}:=
 h.set 24 _ (by omega) (fx_cases rfl rfl rfl rfl rfl rfl (fun i hi=>by rw[Fx.reg _ i hi,if_neg (by omega),Fx.reg _ i hi]) rfl rfl rfl rfl rfl rfl rfl)
theorem Bx.tv {w:World}{a:Nat}{x:Fx}(h:Bx w a x)(v:Value):Bx (w.setCell ⟨a,25,none⟩ v) a {x with tv:=v}:=
 h.set 25 _ (by omega) (fx_cases rfl rfl rfl rfl rfl rfl (fun i hi=>by rw[Fx.reg _ i hi,if_neg (by omega),Fx.reg _ i hi]) rfl rfl rfl rfl rfl rfl rfl)
theorem Bx.sv {w:World}{a:Nat}{x:Fx}(h:Bx w a x)(v:Value):Bx (w.setCell ⟨a,22,none⟩ v) a {x with sv:=v}:=
 h.set 22 _ (by omega) (fx_cases rfl rfl rfl rfl rfl rfl (fun i hi=>by rw[Fx.reg _ i hi,if_neg (by omega),Fx.reg _ i hi]) rfl rfl rfl rfl rfl rfl rfl)
theorem Bx.e {w:World}{a:Nat}{x:Fx}(h:Bx w a x)(n:Int):Bx (w.setCell ⟨a,26,none⟩ (.int .i64 n)) a {x with e:=n}:=
 h.set 26 _ (by omega) (fx_cases rfl rfl rfl rfl rfl rfl (fun i hi=>by rw[Fx.reg _ i hi,if_neg (by omega),Fx.reg _ i hi]) rfl rfl rfl rfl rfl rfl rfl)
theorem Bx.v {w:World}{a:Nat}{x:Fx}(h:Bx w a x)(n:Int):Bx (w.setCell ⟨a,27,none⟩ (.int .u64 n)) a {x with v:=n}:=
 h.set 27 _ (by omega) (fx_cases rfl rfl rfl rfl rfl rfl (fun i hi=>by rw[Fx.reg _ i hi,if_neg (by omega),Fx.reg _ i hi]) rfl rfl rfl rfl rfl rfl rfl)
theorem Bx.f {w:World}{a:Nat}{x:Fx}(h:Bx w a x)(n:Int):Bx (w.setCell ⟨a,28,none⟩ (.int .i64 n)) a {x with f:=n}:=
 h.set 28 _ (by omega) (fx_cases rfl rfl rfl rfl rfl rfl (fun i hi=>by rw[Fx.reg _ i hi,if_neg (by omega),Fx.reg _ i hi]) rfl rfl rfl rfl rfl rfl rfl)
structure Fi where
 op:Int
 a:Nat
 b:Nat
 c:Nat
 i:Int
abbrev Fi.w (i:Fi):Array Value:=#[.int .u8 i.op,.int .i64 i.a,.int .i64 i.b,.int .i64 i.c,.int .u64 i.i]
def Fi.vals (i:Fi):List Value:=[.int .u8 i.op,.int .i64 i.a,.int .i64 i.b,.int .i64 i.c,.int .u64 i.i]
def Bo1 (a:Nat)(x:Fx)(w w':World):Prop:=Bx w' a x∧Kp (fun k=>k=a) w w'
theorem Kp.gr1 {S:Nat→Prop}{w w1 w2:World}(h:Kp S w w1)(g:Gr w1 w2):Kp S w w2:=h.trans (Kp.of_below g.below) (fun _ q=>q.elim) (S1:=fun _=>False)
theorem Kp.ofGr {S:Nat→Prop}{w w1:World}(g:Gr w w1):Kp S w w1:=Kp.of_below g.below
theorem Bo1.after {a:Nat}{x:Fx}{w w1 w2:World}(g:Gr w w1)(h:Bo1 a x w1 w2):Bo1 a x w w2:=⟨h.1,(Kp.ofGr g).trans h.2 (fun _ q=>.inl q)⟩
theorem xk1 (i:Fi)(kb:Nat):Hz (∀V,At V kb #[.int .u8 i.op,.int .i64 i.a,.int .i64 i.b,.int .i64 i.c,.int .u64 i.i]→V.rangeAt kb 0 (Fi.vals i)∧V.cell? ⟨kb,1,none⟩=some (.int .i64 i.a)∧V.cell? ⟨kb,3,none⟩=some (.int .i64 i.c)∧V.cell? ⟨kb,4,none⟩=some (.int .u64 i.i)):=Hz.mk (fun _ q=>⟨fun j v e=>by rw[Nat.zero_add];exact(q.2.1 j).trans (by simpa [Fi.vals]using e),q.2.1 1,q.2.1 3,q.2.1 4⟩)
theorem xk2 (n:Int)(ia ib ic:Nat)(imm:Int)(kb:Nat):Hz (∀V,At V kb #[.int .u8 n,.int .i64 ia,.int .i64 ib,.int .i64 ic,.int .u64 imm]→V.cell? ⟨kb,0,none⟩=some (.int .u8 n)∧V.cell? ⟨kb,1,none⟩=some (.int .i64 ia)∧V.cell? ⟨kb,2,none⟩=some (.int .i64 ib)∧V.cell? ⟨kb,3,none⟩=some (.int .i64 ic)∧V.cell? ⟨kb,4,none⟩=some (.int .u64 imm)):=Hz.mk (fun _ q=>⟨q.2.1 0,q.2.1 1,q.2.1 2,q.2.1 3,q.2.1 4⟩)
end Z
end Go.Proofs.YtdidjhillmgccaaGreat
