import Derived.Test.YtdidjhillmgccaaGreatP23
import Derived.Test.YtdidjhillmgccaaGreatP22
import Derived.Laws.StructEq
import Derived.Test.YtdidjhillmgccaaGreatP15
namespace Go.Proofs.YtdidjhillmgccaaGreat
namespace Z
open Go.RowKit
open T (Sep Ob Kp Mf FlIn boxOb)
section
variable {B:Nat} {W W':World} {a b:Nat} {P:Pr} {s s' t:Fm} {l:List Ob}
end
end Z
set_option maxRecDepth 100000
set_option maxHeartbeats 40000000
namespace Z
open Go.RowKit
open T (Sep Ob Kp Mf FlIn boxOb)
theorem regs_lit (r:Nat→Int):regs r=[Value.int .u64 (r 0),.int .u64 (r 1),.int .u64 (r 2),.int .u64 (r 3),.int .u64 (r 4),.int .u64 (r 5),.int .u64 (r 6),.int .u64 (r 7),.int .u64 (r 8),.int .u64 (r 9),.int .u64 (r 10),.int .u64 (r 11),.int .u64 (r 12),.int .u64 (r 13),.int .u64 (r 14),.int .u64 (r 15)]:=rfl
theorem part_r (r:Nat→Int)(i:Nat)(hi:i<16)(W:World):(part 51 (regs r).toArray (i*1)).run Tryz.prog W=.ok (.int .u64 (r i)) W:=by
 have h:=regs_at r i hi;rw[Nat.mul_one];unfold part;simp[go_sem,h]
theorem items_r (d:Nat)(r:Nat→Int)(W:World):∀is:List Nat,(∀i∈is,i<16)→(Op.eqItems (d+4) 51 1 (regs r).toArray (regs r).toArray is).run Tryz.prog W=.ok true W
 |[],_=>by simp[Op.eqItems]
 |i::is,h=>by
  have hi:=h i (List.mem_cons_self ..);have e:(Op.equalIn (d+4) 51 (.int .u64 (r i)) (.int .u64 (r i))).run Tryz.prog W=.ok true W:=by simp[go_sem]
  simp only[Op.eqItems,Sem.run_bind,part_r r i hi,Result.andThen_ok,e];simpa using items_r d r W is (fun j hj=>h j (List.mem_cons_of_mem _ hj))
theorem arr_in (dd:Nat)(r:Nat→Int)(W:World):(Op.equalIn (dd+5) 68 (.agg (regs r).toArray) (.agg (regs r).toArray)).run Tryz.prog W=.ok true W:=by
 have hi:=items_r dd r W (List.range 16) (fun i hi=>by simpa using hi);have ha:=run_equalIn_array (P:=Tryz.prog) W (dd+4) (regs r).toArray (regs r).toArray Tryz.underlying68 (e:=51) rfl;rw[show Tryz.prog.cellsOf 51=1 by kernel_rfl,hi]at ha;exact ha
theorem sn_in (dd:Nat)(g p d:Int)(r:Nat→Int)(W:World):(Op.equalIn (dd+6) 103 (.agg (snV g p d r).toArray) (.agg (snV g p d r).toArray)).run Tryz.prog W=.ok true W:=by
 have ha:=arr_in dd r W;unfold snV;rw[regs_lit]at ha ⊢;simp[go_sem,ha]
theorem sn_eql (g p d:Int)(r:Nat→Int)(W:World):(binOp .eql 103 (.agg (snV g p d r).toArray) (.agg (snV g p d r).toArray)).run Tryz.prog W=.ok (.bool true) W:=by
 rw[run_eql_struct,sn_in 9994 g p d r W]
 rfl
theorem eat3 {w W:World}{a:Option Addr}{L:List Tc}(h:T.EIn 3 Tc.vals w a L)(g:Gr w W)(j:Nat)(hj:j<L.length):∃b off:Nat,a=some ⟨b,off,none⟩∧b<W.heap.size∧W.rangeAt b (off+j*3) L[j].vals:=by
 obtain⟨b,off,e1,e2,e3⟩:=h j hj;exact⟨b,off,e1,Nat.lt_of_lt_of_le e2 g.below.size,fun i v q=>(T.cell_of_block (g.below.block b e2) _).trans (e3 i v q)⟩
theorem sameTouches_any (A B:List Tc)(sa sb:Option Addr)(ca cb:Nat)(w:World)(hA:T.EIn 3 Tc.vals w sa A)(hB:T.EIn 3 Tc.vals w sb B)(hl:A.length≤1000000):
 Calls Tryz.prog 34 #[.slice sa A.length ca,.slice sb B.length cb] w fun x w'=>Says (A=B) x∧Gr w w':=by
 by_cases hn:A.length=B.length;rotate_left
 ·have hni:((A.length:Int) != (B.length:Int))=true:=by simp;omega
  have z:Hz (Says (A=B) (.returned (.bool false))):=ζ ⟨false,rfl,iff_of_false (by decide) (fun q=>hn (by rw[q]))⟩;clear hn;go_enter Tryz.func34,Tryz.ntmps34;go_wp2_with fail;go_ret;exact⟨z.out,Gr.refl _⟩
 have hni:((A.length:Int) != (B.length:Int))=false:=by simp;omega
 replace hA:=ζ hA;replace hB:=ζ hB;replace hn:=ζ hn;go_enter Tryz.func34,Tryz.ntmps34;go_upto_region 4 with fail
 go_loopw [5] (fun x wr=>∃j:Nat,x=.int .i64 j∧j≤A.length∧Hz (∀m (h:m<A.length) (h2:m<B.length),m<j→A[m]=B[m])∧Hz (Gr w wr)) (fun x _=>A.length - (intOf x).toNat)
 case atStart=>exact⟨0,rfl,Nat.zero_le _,ζ (fun m _ _ q=>absurd q (Nat.not_lt_zero _)),ζ (Gr.refl _)⟩
 case round=>
  obtain⟨j,rfl,hjl,hbe,G⟩:=hrel;by_cases hj:j<A.length
  ·have hj2:j<B.length:=by rw[←hn.out];exact hj
   have hj1:(j:Int)<(A.length:Int):=Int.ofNat_lt.2 hj;have hj3:(j:Int)<(B.length:Int):=Int.ofNat_lt.2 hj2;obtain⟨b1,o1,rfl,k1,c1⟩:=eat3 hA.out G.out j hj;obtain⟨b2,o2,rfl,k2,c2⟩:=eat3 hB.out G.out j hj2;have GD:Gr wr wr.drew:=(Gr.refl wr).drew;obtain⟨x,hx⟩:∃x,A[j]=x:=⟨_,rfl⟩;obtain⟨y,hy⟩:∃y,B[j]=y:=⟨_,rfl⟩;rw[hx]at c1;rw[hy]at c2;replace hx:=ζ hx;replace hy:=ζ hy;by_cases he:x=y;rotate_left
   ·have z:Hz (Says (A=B) (.returned (.bool false))):=ζ ⟨false,rfl,iff_of_false (by decide) (fun q=>he (by rw[←hx.out,←hy.out];subst q;rfl))⟩;have h3:x.s=y.s→x.a=y.a→¬x.n=y.n:=fun e1 e2 e3=>he (by
     obtain⟨x1,x2,x3⟩:=x;obtain⟨y1,y2,y3⟩:=y;simp at e1 e2 e3;rw[e1,e2,e3])
    clear he;by_cases q1:x.s=y.s
    ·by_cases q2:x.a=y.a
     ·have q3:=h3 q1 q2;clear h3;go_upto_region 6 with fail
      refine wp_region_held_drew (S:=(fun W=>W.cell? ⟨b1,o1+j*3,none⟩=some (.bool x.s)∧W.cell? ⟨b1,o1+j*3+1,none⟩=some (.int .u64 x.a)∧W.cell? ⟨b1,o1+j*3+1+1,none⟩=some (.int .u64 x.n)∧W.cell? ⟨b2,o2+j*3,none⟩=some (.bool y.s)∧W.cell? ⟨b2,o2+j*3+1,none⟩=some (.int .u64 y.a)∧W.cell? ⟨b2,o2+j*3+1+1,none⟩=some (.int .u64 y.n))) (by kernel_rfl) (⟨(T.cell_of_block (GD.below.block b1 k1) _).trans (c1 0 _ rfl),(T.cell_of_block (GD.below.block b1 k1) _).trans (c1 1 _ rfl),(T.cell_of_block (GD.below.block b1 k1) _).trans (c1 2 _ rfl),(T.cell_of_block (GD.below.block b2 k2) _).trans (c2 0 _ rfl),(T.cell_of_block (GD.below.block b2 k2) _).trans (c2 1 _ rfl),(T.cell_of_block (GD.below.block b2 k2) _).trans (c2 2 _ rfl)⟩) (fun hHeld=>?_);refine xz 0 rfl (h:=xz 1 rfl (h:=xz 2 rfl (h:=xz 3 rfl (h:=xz 4 rfl (h:=xz 5 rfl (h:=xz 6 rfl (h:=xz 7 rfl (h:=xz 8 rfl (h:=?_)))))))));try simp only[xap]
      refine xdn ?_ _;clear hHeld;go_wp2_with fail;go_ret;exact⟨z.out,G.out.trans GD⟩
     ·clear h3;go_upto_region 6 with fail
      refine wp_region_held_drew (S:=(fun W=>W.cell? ⟨b1,o1+j*3,none⟩=some (.bool x.s)∧W.cell? ⟨b1,o1+j*3+1,none⟩=some (.int .u64 x.a)∧W.cell? ⟨b1,o1+j*3+1+1,none⟩=some (.int .u64 x.n)∧W.cell? ⟨b2,o2+j*3,none⟩=some (.bool y.s)∧W.cell? ⟨b2,o2+j*3+1,none⟩=some (.int .u64 y.a)∧W.cell? ⟨b2,o2+j*3+1+1,none⟩=some (.int .u64 y.n))) (by kernel_rfl) (⟨(T.cell_of_block (GD.below.block b1 k1) _).trans (c1 0 _ rfl),(T.cell_of_block (GD.below.block b1 k1) _).trans (c1 1 _ rfl),(T.cell_of_block (GD.below.block b1 k1) _).trans (c1 2 _ rfl),(T.cell_of_block (GD.below.block b2 k2) _).trans (c2 0 _ rfl),(T.cell_of_block (GD.below.block b2 k2) _).trans (c2 1 _ rfl),(T.cell_of_block (GD.below.block b2 k2) _).trans (c2 2 _ rfl)⟩) (fun hHeld=>?_);refine xz 0 rfl (h:=xz 1 rfl (h:=xz 2 rfl (h:=xz 3 rfl (h:=xz 4 rfl (h:=xz 5 rfl (h:=xz 6 rfl (h:=xz 7 rfl (h:=xz 8 rfl (h:=?_)))))))));try simp only[xap]
      refine xdn ?_ _;clear hHeld;go_wp2_with fail;go_ret;exact⟨z.out,G.out.trans GD⟩
    ·clear h3;go_upto_region 6 with fail
     refine wp_region_held_drew (S:=(fun W=>W.cell? ⟨b1,o1+j*3,none⟩=some (.bool x.s)∧W.cell? ⟨b1,o1+j*3+1,none⟩=some (.int .u64 x.a)∧W.cell? ⟨b1,o1+j*3+1+1,none⟩=some (.int .u64 x.n)∧W.cell? ⟨b2,o2+j*3,none⟩=some (.bool y.s)∧W.cell? ⟨b2,o2+j*3+1,none⟩=some (.int .u64 y.a)∧W.cell? ⟨b2,o2+j*3+1+1,none⟩=some (.int .u64 y.n))) (by kernel_rfl) (⟨(T.cell_of_block (GD.below.block b1 k1) _).trans (c1 0 _ rfl),(T.cell_of_block (GD.below.block b1 k1) _).trans (c1 1 _ rfl),(T.cell_of_block (GD.below.block b1 k1) _).trans (c1 2 _ rfl),(T.cell_of_block (GD.below.block b2 k2) _).trans (c2 0 _ rfl),(T.cell_of_block (GD.below.block b2 k2) _).trans (c2 1 _ rfl),(T.cell_of_block (GD.below.block b2 k2) _).trans (c2 2 _ rfl)⟩) (fun hHeld=>?_);refine xz 0 rfl (h:=xz 1 rfl (h:=xz 2 rfl (h:=xz 3 rfl (h:=xz 4 rfl (h:=xz 5 rfl (h:=xz 6 rfl (h:=xz 7 rfl (h:=xz 8 rfl (h:=?_)))))))));try simp only[xap]
     refine xdn ?_ _;clear hHeld;go_wp2_with fail;go_ret;exact⟨z.out,G.out.trans GD⟩
   subst he;have hbe2:Hz (∀m (h:m<A.length) (h2:m<B.length),m<j+1→A[m]=B[m]):=ζ (fun m h h2 q=>by
    by_cases e:m<j
    ·exact hbe.out m h h2 e
    ·obtain rfl:m=j:=by omega
     rw[hx.out,hy.out])
   go_upto_region 6 with fail;refine wp_region_held_drew (S:=(fun W=>W.cell? ⟨b1,o1+j*3,none⟩=some (.bool x.s)∧W.cell? ⟨b1,o1+j*3+1,none⟩=some (.int .u64 x.a)∧W.cell? ⟨b1,o1+j*3+1+1,none⟩=some (.int .u64 x.n)∧W.cell? ⟨b2,o2+j*3,none⟩=some (.bool x.s)∧W.cell? ⟨b2,o2+j*3+1,none⟩=some (.int .u64 x.a)∧W.cell? ⟨b2,o2+j*3+1+1,none⟩=some (.int .u64 x.n))) (by kernel_rfl) (⟨(T.cell_of_block (GD.below.block b1 k1) _).trans (c1 0 _ rfl),(T.cell_of_block (GD.below.block b1 k1) _).trans (c1 1 _ rfl),(T.cell_of_block (GD.below.block b1 k1) _).trans (c1 2 _ rfl),(T.cell_of_block (GD.below.block b2 k2) _).trans (c2 0 _ rfl),(T.cell_of_block (GD.below.block b2 k2) _).trans (c2 1 _ rfl),(T.cell_of_block (GD.below.block b2 k2) _).trans (c2 2 _ rfl)⟩) (fun hHeld=>?_);refine xz 0 rfl (h:=xz 1 rfl (h:=xz 2 rfl (h:=xz 3 rfl (h:=xz 4 rfl (h:=xz 5 rfl (h:=xz 6 rfl (h:=xz 7 rfl (h:=xz 8 rfl (h:=?_)))))))));try simp only[xap]
   refine xdn ?_ _;clear hHeld;have G4:=ζ (G.out.trans GD);clear hbe G GD;go_wp2_with fail;refine⟨⟨j+1,?_,hj,hbe2,G4⟩,?_⟩
   ·first|rfl|(rw[show wrap64 ((j:Int)+1)=((j+1:Nat):Int)by unfold wrap64;omega])|go_num
   ·first|(simp[intOf];omega)|(rw[show wrap64 ((j:Int)+1)=((j+1:Nat):Int)by unfold wrap64;omega];simp[intOf];omega)
  ·have hj1:¬(j:Int)<(A.length:Int):=fun q=>hj (Int.ofNat_lt.1 q)
   have z:Hz (Says (A=B) (.returned (.bool true))):=ζ ⟨true,rfl,iff_of_true rfl (List.ext_getElem hn.out (fun m h h2=>hbe.out m h h2 (by omega)))⟩;go_wp2_with fail;go_ret;exact⟨z.out,G.out⟩
end Z
end Go.Proofs.YtdidjhillmgccaaGreat
