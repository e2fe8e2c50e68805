import Derived.Test.YtdidjhillmgccaaGreatZMac
import Derived.Test.YtdidjhillmgccaaGreatRRow0
import Derived.Test.YtdidjhillmgccaaGreatP11
namespace Go.Proofs.YtdidjhillmgccaaGreat
namespace Z
open Go.RowKit
open T (Sep Ob Kp Mf FlIn)
structure Dx where
 pv:Value
 pg:Value
 pm:Value
 dep:Int
 g:Nat
 p:Nat
 r:Nat→Int
 sv:Value
 mv:Value
 iv:Value
 ov_:Value
 tv:Value
 e:Int
 v:Int
 f:Int
 og:Nat
 op:Nat
def Dx.at (x:Dx)(j:Nat):Value:=
 if 6≤j∧j<22 then .int .u64 (x.r (j - 6))else
 match j with
 |0=>x.pv
 |1=>x.pg
 |2=>x.pm
 |3=>.int .i64 x.dep
 |4=>.int .i64 x.g
 |5=>.int .i64 x.p
 |22=>x.sv
 |23=>x.mv
 |24=>x.iv
 |25=>x.ov_
 |26=>x.tv
 |27=>.int .i64 x.e
 |28=>.int .u64 x.v
 |29=>.int .i64 x.f
 |30=>.int .i64 x.og
 |_=>.int .i64 x.op
theorem Dx.reg (x:Dx)(i:Nat)(h:i<16):x.at (6+i)=.int .u64 (x.r i):=by
 unfold Dx.at;rw[if_pos ⟨by omega,by omega⟩,Nat.add_sub_cancel_left]
structure DBx (w:World)(a:Nat)(x:Dx):Prop where
 lt:a<w.heap.size
 at_:∀j,j<32→w.cell? ⟨a,j,none⟩=some (x.at j)
 fr:∀j,w.frozen? ⟨a,j,none⟩=false
theorem DBx.block {w w1:World}{a:Nat}{x:Dx}(h:DBx w a x)(hs:w.heap.size≤w1.heap.size)(hb:w1.heap[a]?=w.heap[a]?):DBx w1 a x:=
 ⟨Nat.lt_of_lt_of_le h.lt hs,fun j q=>(T.cell_of_block hb j).trans (h.at_ j q),fun j=>(T.frozen_of_block hb j).trans (h.fr j)⟩
theorem DBx.keep {S:Nat→Prop}{w w1:World}{a:Nat}{x:Dx}(h:DBx w a x)(hk:Kp S w w1)(hn:¬S a):DBx w1 a x:=h.block hk.size (hk.block a h.lt hn)
theorem DBx.gr {w w1:World}{a:Nat}{x:Dx}(h:DBx w a x)(g:Gr w w1):DBx w1 a x:=h.block g.below.size (g.below.block a h.lt)
theorem DBx.set {w:World}{a:Nat}{x x':Dx}(h:DBx w a x)(i:Nat)(v:Value)(hi:i<32)(hx:∀j,j<32→x'.at j=if j=i then v else x.at j):DBx (w.setCell ⟨a,i,none⟩ v) a x':=by
 refine⟨by simpa using h.lt,fun j q=>?_,fun j=>by simpa using h.fr j⟩;rw[hx j q];by_cases e:j=i
 ·rw[if_pos e,e];exact cs_same (h.at_ i hi)
 ·rw[if_neg e,T.cso (fun _=>Ne.symm e)];exact h.at_ j q
def dbOb (a:Nat)(x:Dx):Ob:=⟨fun k=>k=a,fun w=>DBx w a x,fun _ h _ q=>q▸h.lt,fun _ _ _ h hk hd=>h.keep hk (hd _ rfl)⟩
theorem dx_cases {P:Nat→Prop}(h0:P 0)(h1:P 1)(h2:P 2)(h3:P 3)(h4:P 4)(h5:P 5)(hr:∀i,i<16→P (6+i))(h22:P 22)(h23:P 23)(h24:P 24)(h25:P 25)(h26:P 26)(h27:P 27)(h28:P 28)(h29:P 29)(h30:P 30)(h31:P 31):∀j,j<32→P j:=by
 intro j hj;by_cases q:6≤j∧j<22
 ·have:=hr (j - 6) (by omega)
  rwa [show 6+(j - 6)=j by omega]at this
 ·have hq:j=0∨j=1∨j=2∨j=3∨j=4∨j=5∨j=22∨j=23∨j=24∨j=25∨j=26∨j=27∨j=28∨j=29∨j=30∨j=31:=by omega
  rcases hq with rfl|rfl|rfl|rfl|rfl|rfl|rfl|rfl|rfl|rfl|rfl|rfl|rfl|rfl|rfl|rfl
  ·exact h0
  ·exact h1
  ·exact h2
  ·exact h3
  ·exact h4
  ·exact h5
  ·exact h22
  ·exact h23
  ·exact h24
  ·exact h25
  ·exact h26
  ·exact h27
  ·exact h28
  ·exact h29
  ·exact h30
  ·exact h31
theorem DBx.g_ {w:World}{a:Nat}{x:Dx}(h:DBx w a x)(n:Nat):DBx (w.setCell ⟨a,4,none⟩ (.int .i64 n)) a {x with g:=n}:=
 h.set 4 _ (by omega) (dx_cases rfl rfl rfl rfl rfl rfl (fun i hi=>by rw[Dx.reg _ i hi,if_neg (by omega),Dx.reg _ i hi]) rfl rfl rfl rfl rfl rfl rfl rfl rfl rfl)
theorem DBx.p_ {w:World}{a:Nat}{x:Dx}(h:DBx w a x)(n:Nat):DBx (w.setCell ⟨a,5,none⟩ (.int .i64 n)) a {x with p:=n}:=
 h.set 5 _ (by omega) (dx_cases rfl rfl rfl rfl rfl rfl (fun i hi=>by rw[Dx.reg _ i hi,if_neg (by omega),Dx.reg _ i hi]) rfl rfl rfl rfl rfl rfl rfl rfl rfl rfl)
theorem DBx.sv {w:World}{a:Nat}{x:Dx}(h:DBx w a x)(v:Value):DBx (w.setCell ⟨a,22,none⟩ v) a {x with sv:=v}:=
 h.set 22 _ (by omega) (dx_cases rfl rfl rfl rfl rfl rfl (fun i hi=>by rw[Dx.reg _ i hi,if_neg (by omega),Dx.reg _ i hi]) rfl rfl rfl rfl rfl rfl rfl rfl rfl rfl)
theorem DBx.mv {w:World}{a:Nat}{x:Dx}(h:DBx w a x)(v:Value):DBx (w.setCell ⟨a,23,none⟩ v) a {x with mv:=v}:=
 h.set 23 _ (by omega) (dx_cases rfl rfl rfl rfl rfl rfl (fun i hi=>by rw[Dx.reg _ i hi,if_neg (by omega),Dx.reg _ i hi]) rfl rfl rfl rfl rfl rfl rfl rfl rfl rfl)
theorem DBx.iv {w:World}{a:Nat}{x:Dx}(h:DBx w a x)(v:Value):DBx (w.setCell ⟨a,24,none⟩ v) a {x with iv:=v}:=
 h.set 24 _ (by omega) (dx_cases rfl rfl rfl rfl rfl rfl (fun i hi=>by rw[Dx.reg _ i hi,if_neg (by omega),Dx.reg _ i hi]) rfl rfl rfl rfl rfl rfl rfl rfl rfl rfl)
theorem DBx.ov_ {w:World}{a:Nat}{x:Dx}(h:DBx w a x)(v:Value):DBx (w.setCell ⟨a,25,none⟩ v) a {x with ov_:=v}:=
 h.set 25 _ (by omega) (dx_cases rfl rfl rfl rfl rfl rfl (fun i hi=>by rw[Dx.reg _ i hi,if_neg (by omega),Dx.reg _ i hi]) rfl rfl rfl rfl rfl rfl rfl rfl rfl rfl)
theorem DBx.tv {w:World}{a:Nat}{x:Dx}(h:DBx w a x)(v:Value):DBx (w.setCell ⟨a,26,none⟩ v) a {x with tv:=v}:=
 h.set 26 _ (by omega) (dx_cases rfl rfl rfl rfl rfl rfl (fun i hi=>by rw[Dx.reg _ i hi,if_neg (by omega),Dx.reg _ i hi]) rfl rfl rfl rfl rfl rfl rfl rfl rfl rfl)
theorem DBx.e_ {w:World}{a:Nat}{x:Dx}(h:DBx w a x)(n:Int):DBx (w.setCell ⟨a,27,none⟩ (.int .i64 n)) a {x with e:=n}:=
 h.set 27 _ (by omega) (dx_cases rfl rfl rfl rfl rfl rfl (fun i hi=>by rw[Dx.reg _ i hi,if_neg (by omega),Dx.reg _ i hi]) rfl rfl rfl rfl rfl rfl rfl rfl rfl rfl)
theorem DBx.v_ {w:World}{a:Nat}{x:Dx}(h:DBx w a x)(n:Int):DBx (w.setCell ⟨a,28,none⟩ (.int .u64 n)) a {x with v:=n}:=
 h.set 28 _ (by omega) (dx_cases rfl rfl rfl rfl rfl rfl (fun i hi=>by rw[Dx.reg _ i hi,if_neg (by omega),Dx.reg _ i hi]) rfl rfl rfl rfl rfl rfl rfl rfl rfl rfl)
theorem DBx.f_ {w:World}{a:Nat}{x:Dx}(h:DBx w a x)(n:Int):DBx (w.setCell ⟨a,29,none⟩ (.int .i64 n)) a {x with f:=n}:=
 h.set 29 _ (by omega) (dx_cases rfl rfl rfl rfl rfl rfl (fun i hi=>by rw[Dx.reg _ i hi,if_neg (by omega),Dx.reg _ i hi]) rfl rfl rfl rfl rfl rfl rfl rfl rfl rfl)
theorem DBx.og_ {w:World}{a:Nat}{x:Dx}(h:DBx w a x)(n:Nat):DBx (w.setCell ⟨a,30,none⟩ (.int .i64 n)) a {x with og:=n}:=
 h.set 30 _ (by omega) (dx_cases rfl rfl rfl rfl rfl rfl (fun i hi=>by rw[Dx.reg _ i hi,if_neg (by omega),Dx.reg _ i hi]) rfl rfl rfl rfl rfl rfl rfl rfl rfl rfl)
theorem DBx.op_ {w:World}{a:Nat}{x:Dx}(h:DBx w a x)(n:Nat):DBx (w.setCell ⟨a,31,none⟩ (.int .i64 n)) a {x with op:=n}:=
 h.set 31 _ (by omega) (dx_cases rfl rfl rfl rfl rfl rfl (fun i hi=>by rw[Dx.reg _ i hi,if_neg (by omega),Dx.reg _ i hi]) rfl rfl rfl rfl rfl rfl rfl rfl rfl rfl)
theorem DBx.reg {w:World}{a:Nat}{x:Dx}(h:DBx w a x)(i:Nat)(hi:i<16)(n:Int):DBx (w.setCell ⟨a,6+i,none⟩ (.int .u64 n)) a {x with r:=updR x.r i n}:=
 h.set (6+i) _ (by omega) (dx_cases (by rw[if_neg (by omega)];rfl) (by rw[if_neg (by omega)];rfl) (by rw[if_neg (by omega)];rfl) (by rw[if_neg (by omega)];rfl) (by rw[if_neg (by omega)];rfl) (by rw[if_neg (by omega)];rfl)
  (fun j hj=>by
   rw[Dx.reg _ j hj];by_cases e:j=i
   ·rw[if_pos (by omega)];show Value.int .u64 (updR x.r i n j)=_;unfold updR;rw[if_pos e]
   ·rw[if_neg (by omega),Dx.reg _ j hj];show Value.int .u64 (updR x.r i n j)=_;unfold updR;rw[if_neg e])
  (by rw[if_neg (by omega)];rfl) (by rw[if_neg (by omega)];rfl) (by rw[if_neg (by omega)];rfl) (by rw[if_neg (by omega)];rfl) (by rw[if_neg (by omega)];rfl) (by rw[if_neg (by omega)];rfl) (by rw[if_neg (by omega)];rfl) (by rw[if_neg (by omega)];rfl) (by rw[if_neg (by omega)];rfl) (by rw[if_neg (by omega)];rfl))
def DB1 (a:Nat)(x:Dx)(w w':World):Prop:=DBx w' a x∧Kp (fun k=>k=a) w w'
def Dx.out5 (x:Dx)(e v f:Int)(g p:Nat):Dx:={x with e:=e,v:=v,f:=f,og:=g,op:=p}
def Dx.fin (x:Dx)(e v f:Int):Dx:=x.out5 e v f x.g x.p
def Dx.lay (x:Dx)(i:Nat)(n:Int):Dx:={x with p:=x.p+1,r:=updR x.r i n}
def Dx.next (x:Dx):Dx:={x with p:=x.p+1}
theorem DBx.out5 {w:World}{a:Nat}{x:Dx}(h:DBx w a x)(e v f:Int)(g p:Nat):DBx (((((w.setCell ⟨a,27,none⟩ (.int .i64 e)).setCell ⟨a,28,none⟩ (.int .u64 v)).setCell ⟨a,29,none⟩ (.int .i64 f)).setCell ⟨a,30,none⟩ (.int .i64 g)).setCell ⟨a,31,none⟩ (.int .i64 p)) a (x.out5 e v f g p):=
 ((((h.e_ e).v_ v).f_ f).og_ g).op_ p
end Z
set_option maxRecDepth 100000
set_option maxHeartbeats 40000000
namespace Z
open Go.RowKit
open T (Sep Ob Kp Mf FlIn)
theorem dend_any (a:Nat)(x:Dx)(e v f:Int)(w:World)(h:DBx w a x):
 Calls Tryz.prog 53 #[.pointer (some ⟨a,0,none⟩),.int .i64 e,.int .u64 v,.int .i64 f] w fun r w'=>r=.returned (.tuple #[])∧DB1 a (x.fin e v f) w w':=by
 have hd:=h.gr ((Gr.refl w).drew);have hth:Hz (w.drew.there a 27 5):=ζ (fun j hj=>⟨by rw[hd.at_ (27+j) (by omega)];rfl,hd.fr _⟩);have hn:Hz (DB1 a (x.fin e v f) w (w.drew.setCells a 27 [Value.int .i64 e,.int .u64 v,.int .i64 f,.int .i64 x.g,.int .i64 x.p])):=ζ ⟨hd.out5 e v f x.g x.p,(Kp.ofGr ((Gr.refl w).drew)).trans (kp_set1 (kp_set1 (kp_set1 (kp_set1 (kp_set1 (Kp.refl _ w.drew) 27 _) 28 _) 29 _) 30 _) 31 _) (fun _ q=>.inl q)⟩;go_enter Tryz.func53,Tryz.ntmps53;refine wp_region_held_drew (S:=(fun W=>W.cell? ⟨a,4,none⟩=some (.int .i64 x.g)∧W.cell? ⟨a,5,none⟩=some (.int .i64 x.p))) (by kernel_rfl) (⟨hd.at_ 4 (by omega),hd.at_ 5 (by omega)⟩) (fun hHeld=>?_);refine xz 0 rfl (h:=xz 1 rfl (h:=xz 2 rfl (h:=xz 3 rfl (h:=xz 4 rfl (h:=xz 5 rfl (h:=xz 6 rfl (h:=xz 7 rfl (h:=xz 8 rfl (h:=xz 9 rfl (h:=xz 10 rfl (h:=xz 11 rfl (h:=xz 12 rfl (h:=xz 13 rfl (h:=xz 14 rfl (h:=?_)))))))))))))));try simp only[xap]
 refine xrd 15 rfl (fun K hK=>?_);rw[if_pos (by rfl)];refine wp_store_mid _ _ _ rfl _ _ (List.toArray _) rfl rfl (hth.out) (by kernel_rfl) (by simp[Value.oneCell']) ?_;refine hK.out _ _ (⟨hn.out.1.at_ 4 (by omega),hn.out.1.at_ 5 (by omega)⟩) (fun hHeld=>?_);clear hK K;try simp only[Act.put]
 refine xdn ?_ _;clear hHeld hth;generalize hV:w.drew.setCells a 27 [Value.int .i64 e,.int .u64 v,.int .i64 f,.int .i64 x.g,.int .i64 x.p]=V at*;clear hV;go_wp2_with fail
 first|go_end0|((try simp only[Exit.inBlock,Exit.then]);refine xre ?_)
 exact⟨rfl,hn.out⟩
theorem sh64 (y:Int)(hn:0≤y):min (y.tmod 64).toNat 64=(y%64).toNat:=by
 rw[Int.tmod_eq_emod_of_nonneg hn];omega
theorem reck3 (x y:Int)(w:World):
 Calls Tryz.prog 72 #[.int .u8 3,.int .u64 x,.int .u64 y] w fun r w'=>r=.returned (.int .u64 (IntKind.u64.wrap (x+y)))∧w'=w:=by
 go_enter Tryz.func72,Tryz.ntmps72;go_wp2_with fail;go_ret;exact⟨rfl,rfl⟩
theorem reck4 (x y:Int)(w:World):
 Calls Tryz.prog 72 #[.int .u8 4,.int .u64 x,.int .u64 y] w fun r w'=>r=.returned (.int .u64 (IntKind.u64.wrap (x - y)))∧w'=w:=by
 go_enter Tryz.func72,Tryz.ntmps72;go_wp2_with fail;go_ret;exact⟨rfl,rfl⟩
theorem reck5 (x y:Int)(w:World):
 Calls Tryz.prog 72 #[.int .u8 5,.int .u64 x,.int .u64 y] w fun r w'=>r=.returned (.int .u64 (IntKind.u64.wrap (x*y)))∧w'=w:=by
 go_enter Tryz.func72,Tryz.ntmps72;go_wp2_with fail;go_ret;exact⟨rfl,rfl⟩
theorem reck6 (x y:Int)(w:World):
 Calls Tryz.prog 72 #[.int .u8 6,.int .u64 x,.int .u64 y] w fun r w'=>r=.returned (.int .u64 (bits .and .u64 x y))∧w'=w:=by
 go_enter Tryz.func72,Tryz.ntmps72;go_wp2_with fail;go_ret;exact⟨rfl,rfl⟩
theorem reck7 (x y:Int)(w:World):
 Calls Tryz.prog 72 #[.int .u8 7,.int .u64 x,.int .u64 y] w fun r w'=>r=.returned (.int .u64 (bits .or .u64 x y))∧w'=w:=by
 go_enter Tryz.func72,Tryz.ntmps72;go_wp2_with fail;go_ret;exact⟨rfl,rfl⟩
theorem reck8 (x y:Int)(w:World):
 Calls Tryz.prog 72 #[.int .u8 8,.int .u64 x,.int .u64 y] w fun r w'=>r=.returned (.int .u64 (bits .xor .u64 x y))∧w'=w:=by
 go_enter Tryz.func72,Tryz.ntmps72;go_wp2_with fail;go_ret;exact⟨rfl,rfl⟩
theorem reck9 (x y:Int)(w:World)(hn:0≤y):
 Calls Tryz.prog 72 #[.int .u8 9,.int .u64 x,.int .u64 y] w fun r w'=>r=.returned (.int .u64 (IntKind.u64.wrap (x*2^min (y.tmod 64).toNat 64)))∧w'=w:=by
 rw[sh64 y hn];go_enter Tryz.func72,Tryz.ntmps72;go_wp2_with fail;go_ret;exact⟨rfl,rfl⟩
theorem reck10 (x y:Int)(w:World)(hn:0≤y):
 Calls Tryz.prog 72 #[.int .u8 10,.int .u64 x,.int .u64 y] w fun r w'=>r=.returned (.int .u64 (x/2^min (y.tmod 64).toNat 64))∧w'=w:=by
 rw[sh64 y hn];go_enter Tryz.func72,Tryz.ntmps72;go_wp2_with fail;go_ret;exact⟨rfl,rfl⟩
theorem reck12 (x y:Int)(w:World):
 Calls Tryz.prog 72 #[.int .u8 12,.int .u64 x,.int .u64 y] w fun r w'=>r=.returned (.int .u64 (if x<y then 1 else 0))∧w'=w:=by
 by_cases hq:x<y
 ·rw[if_pos hq];have hq2:decide (x<y)=true:=decide_eq_true hq;go_enter Tryz.func72,Tryz.ntmps72;go_wp2_with fail;go_ret;exact⟨rfl,rfl⟩
 ·rw[if_neg hq];have hq2:decide (x<y)=false:=decide_eq_false hq;go_enter Tryz.func72,Tryz.ntmps72;go_wp2_with fail;go_ret;exact⟨rfl,rfl⟩
theorem reck13 (x y:Int)(w:World):
 Calls Tryz.prog 72 #[.int .u8 13,.int .u64 x,.int .u64 y] w fun r w'=>r=.returned (.int .u64 (if x=y then 1 else 0))∧w'=w:=by
 by_cases hq:x=y
 ·rw[if_pos hq];have hq2:(x==y)=true:=by simpa using hq
  go_enter Tryz.func72,Tryz.ntmps72;go_wp2_with fail;go_ret;exact⟨rfl,rfl⟩
 ·rw[if_neg hq];have hq2:(x==y)=false:=by simpa using hq
  go_enter Tryz.func72,Tryz.ntmps72;go_wp2_with fail;go_ret;exact⟨rfl,rfl⟩
end Z
end Go.Proofs.YtdidjhillmgccaaGreat
