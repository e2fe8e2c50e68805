import Derived.Test.YtdidjhillmgccaaGreatP35
import Derived.Test.YtdidjhillmgccaaGreatP22
import Derived.Lib.LazyBuf
namespace Go.Proofs.YtdidjhillmgccaaGreat
set_option maxRecDepth 100000
set_option maxHeartbeats 40000000
namespace Z
open Go.RowKit
open T (Sep Ob Kp Mf FlIn boxOb)
theorem yields_eqI {ops:Array Oper}{S:World→Prop}{op:Oper}{a:Act}(hw:Region.wanted op (yielded ops a.tmps)=true)(x y:Operand)(u:TypeId)(ho:op.op=.binOp .eql 53 x y u)(i:Ri)(h0:a.eval x=.agg i.vals.toArray)(h1:a.eval y=.agg i.vals.toArray):YieldsIf Tryz.prog ops S op (.bool true) a:=
 .inl ⟨hw,fun w _=>by
  unfold execOp;simp only[ho,h0,h1,ri_eql,run_eqGuard_agg (P:=Tryz.prog) w .eql 53 x y i.vals.toArray i.vals.toArray (by kernel_rfl),Sem.run_bind,Sem.run_pure,Result.andThen_ok]⟩
theorem yields_eqG {ops:Array Oper}{S:World→Prop}{op:Oper}{a:Act}(hw:Region.wanted op (yielded ops a.tmps)=true)(x y:Operand)(u:TypeId)(ho:op.op=.binOp .eql 70 x y u)(i:Rg)(h0:a.eval x=.agg i.vals.toArray)(h1:a.eval y=.agg i.vals.toArray):YieldsIf Tryz.prog ops S op (.bool true) a:=
 .inl ⟨hw,fun w _=>by
  unfold execOp;simp only[ho,h0,h1,fe_eql,run_eqGuard_agg (P:=Tryz.prog) w .eql 70 x y i.vals.toArray i.vals.toArray (by kernel_rfl),Sem.run_bind,Sem.run_pure,Result.andThen_ok]⟩
theorem own_cell {w:World}{lo e n c:Nat}{la:Option Addr}{xs:List Value}(h:w.ownsRow lo e 1 (.slice la n c) n xs)(i:Nat)(hi:i<n)(v:Value)(hv:xs[i]?=some v):∃g,la=some ⟨g,0,none⟩∧g<w.heap.size∧w.cell? ⟨g,i,none⟩=some v:=by
 have hlt:=h.lt;rcases h.2 with⟨h8,h9⟩|⟨g,cap,cur,e1,hb,hg,hc1,hc2,hc3,hc4⟩
 ·omega
 ·cases e1
  refine⟨g,rfl,(hlt g rfl).2,?_⟩;have:w.cell? ⟨g,i,none⟩=cur[i]?:=by simp[World.cell?,hg]
  rw[this];rw[←hc4,List.getElem?_take_of_lt (by omega)]at hv;rw[←hv];simp
theorem rwsL_at (C:List (List Ri))(K:Nat→Nat)(n i:Nat)(h:i<n):(rwsL C K n)[i]?=some (rwE C K i):=by
 unfold rwsL;simp[h]
theorem Bk.gr {W1 wr V:World}{kc kg:Nat}{K:Nat→Nat}{R:Rp}{i:Nat}(h:Bk W1 wr kc kg K R i)(g:Gr wr V):Bk W1 V kc kg K R i:=
 ⟨Kp.gr1 h.kp g,h.code.keep (Kp.ofGr (S:=fun _=>False) g) (fun r=>r),fun j h1 h2=>(h.rows j h1 h2).gr g,h.gates.gr g⟩
structure BkR (W1 wr:World)(kc kg:Nat)(K:Nat→Nat)(R:Rp)(i e:Nat)(RW:List Ri):Prop where
 kp:Kp (LnS kc kg K R.code.length) W1 wr
 code:FrF wr kc (R.code.length+8) i (rowF R.code K R.code.length)
 rows:∀j,i<j→j<R.code.length→At wr (K j) (padA (R.code.getD j []))
 row:FrF wr (K i) ((RW.length+8)*5) (e*5) (cellF (padA RW))
 gates:At wr kg (padG R.gates)
theorem BkR.gr {W1 wr V:World}{kc kg:Nat}{K:Nat→Nat}{R:Rp}{i e:Nat}{RW:List Ri}(h:BkR W1 wr kc kg K R i e RW)(g:Gr wr V):BkR W1 V kc kg K R i e RW:=
 ⟨Kp.gr1 h.kp g,h.code.keep (Kp.ofGr (S:=fun _=>False) g) (fun r=>r),fun j h1 h2=>(h.rows j h1 h2).gr g,h.row.keep (Kp.ofGr (S:=fun _=>False) g) (fun r=>r),h.gates.gr g⟩
theorem Bk.into {W1 wr:World}{kc kg:Nat}{K:Nat→Nat}{R:Rp}{i:Nat}(h:Bk W1 wr kc kg K R i)(hi:i<R.code.length)(RW:List Ri)(hR:R.code[i]=RW):BkR W1 wr kc kg K R i 0 RW:=by
 refine⟨h.kp,h.code,fun j h1 h2=>h.rows j (by omega) h2,?_,h.gates⟩;have:=frf_at (h.rows i (Nat.le_refl i) hi);rw[pad_size,show R.code.getD i []=RW by rw[←hR];simp[hi]]at this;rw[Nat.zero_mul];exact this
theorem BkR.next {W1 wr:World}{kc kg:Nat}{K:Nat→Nat}{R:Rp}{i e:Nat}{RW:List Ri}(h:BkR W1 wr kc kg K R i e RW)(hi:i<R.code.length)(he:e<RW.length+8)(hne:K i≠kc∧K i≠kg)(hinj:∀j,j<R.code.length→K i=K j→i=j)(vs:List Value)(hv:vs.length=5):BkR W1 (wr.setCells (K i) (e*5) vs) kc kg K R i (e+1) RW:=by
 have hk:=kp_setsZ wr (K i) vs (e*5);have hle:e*5+5≤(RW.length+8)*5:=by have:(e+1)*5≤(RW.length+8)*5:=Nat.mul_le_mul_right _ he;omega
 refine⟨h.kp.trans hk (fun k q=>.inl (.inr (.inr ⟨i,hi,q⟩))),h.code.keep hk (fun q=>hne.1 q.symm),fun j h1 h2=>at_keep (h.rows j h1 h2) hk (fun q=>by have:=hinj j h2 q.symm;omega),?_,at_keep h.gates hk (fun q=>hne.2 q.symm)⟩;have:=FrF.sets vs h.row (by rw[hv];exact hle);rw[hv]at this;rw[show(e+1)*5=e*5+5 by omega];exact this
theorem BkR.out {W1 wr:World}{kc kg:Nat}{K:Nat→Nat}{R:Rp}{i e:Nat}{RW:List Ri}(h:BkR W1 wr kc kg K R i e RW)(hi:i<R.code.length)(v:Value)(hne:∀j,j<R.code.length→K j≠kc)(hcg:kc≠kg):Bk W1 (wr.setCell ⟨kc,i,none⟩ v) kc kg K R (i+1):=by
 have hk:Kp (fun b=>b=kc) wr (wr.setCell ⟨kc,i,none⟩ v):=Kp.set (S:=fun b=>b=kc) wr ⟨kc,i,none⟩ v rfl;exact⟨h.kp.trans hk (fun k q=>.inl (.inl q)),h.code.set v (by omega),fun j h1 h2=>at_keep (h.rows j (by omega) h2) hk (fun q=>hne j h2 q),at_keep h.gates hk (fun q=>hcg q.symm)⟩
structure BkG (W1 wr:World)(kc kg:Nat)(K:Nat→Nat)(R:Rp)(i:Nat):Prop where
 kp:Kp (LnS kc kg K R.code.length) W1 wr
 gates:FrF wr kg ((R.gates.length+8)*19) (i*19) (cellF (padG R.gates))
theorem BkG.gr {W1 wr V:World}{kc kg:Nat}{K:Nat→Nat}{R:Rp}{i:Nat}(h:BkG W1 wr kc kg K R i)(g:Gr wr V):BkG W1 V kc kg K R i:=⟨Kp.gr1 h.kp g,h.gates.keep (Kp.ofGr (S:=fun _=>False) g) (fun r=>r)⟩
theorem Bk.toG {W1 wr:World}{kc kg:Nat}{K:Nat→Nat}{R:Rp}{i:Nat}(h:Bk W1 wr kc kg K R i):BkG W1 wr kc kg K R 0:=by
 refine⟨h.kp,?_⟩;have:=frf_at h.gates;rw[padG_size]at this;rw[Nat.zero_mul];exact this
theorem BkG.next {W1 wr:World}{kc kg:Nat}{K:Nat→Nat}{R:Rp}{i:Nat}(h:BkG W1 wr kc kg K R i)(hi:i<R.gates.length+8)(v:Value):BkG W1 (wr.setCell ⟨kg,i*19,none⟩ v) kc kg K R (i+1):=by
 have hk:Kp (fun b=>b=kg) wr (wr.setCell ⟨kg,i*19,none⟩ v):=Kp.set (S:=fun b=>b=kg) wr ⟨kg,i*19,none⟩ v rfl;have hle:i*19+19≤(R.gates.length+8)*19:=by have:(i+1)*19≤(R.gates.length+8)*19:=Nat.mul_le_mul_right _ hi;omega
 exact⟨h.kp.trans hk (fun k q=>.inl (.inr (.inl q))),(h.gates.set v (by omega)).mono (by omega)⟩
theorem back_any (R:Rp)(ca ga:Option Addr)(cc gc:Nat)(mem:ByteArray)(lo hi:Nat)(w:World)(kc kg:Nat)(K:Nat→Nat)(la:Option Addr)(lc:Nat)(h:LnA lo hi w kc kg K (.slice la R.code.length lc) R)(hhi:hi≤w.heap.size)(hP:∃V:World,V.heap.size=lo∧Below lo V w∧RpIn V ca ga R)(hc:R.code.length≤1500000)(hr:∀r∈R.code,r.length≤2000000)(hg:R.gates.length≤2000000):
 Calls Tryz.prog 20 #[.agg (List.toArray [Value.slice (some ⟨kc,0,none⟩) R.code.length (R.code.length+8),.slice (some ⟨kg,0,none⟩) R.gates.length (R.gates.length+8),.string mem,.int .i64 R.dep]),.slice la R.code.length lc,.agg (List.toArray [Value.slice ca R.code.length cc,.slice ga R.gates.length gc,.string mem,.int .i64 R.dep])] w fun x w'=>x=.returned (.bool true)∧Kp (LnS kc kg K R.code.length) w w':=by
 have n1:wrap64 ((R.code.length:Int)+8)=(R.code.length:Int)+8:=by unfold wrap64;omega
 have n2:IntKind.i64.wrap ((R.code.length:Int)+8)=(R.code.length:Int)+8:=by rw[IntKind.wrap_i64];omega
 have n3:wrap64 ((R.gates.length:Int)+8)=(R.gates.length:Int)+8:=by unfold wrap64;omega
 have n4:IntKind.i64.wrap ((R.gates.length:Int)+8)=(R.gates.length:Int)+8:=by rw[IntKind.wrap_i64];omega
 have n5:(0:Int)≤(R.code.length:Int)+8:=by omega
 have n6:(0:Int)≤(R.gates.length:Int)+8:=by omega
 have n7:((R.code.length:Int)+8).toNat=R.code.length+8:=by omega
 have n8:((R.gates.length:Int)+8).toNat=R.gates.length+8:=by omega
 obtain⟨V0,hV0,hBV,hRV⟩:=hP;have hlow:lo≤w.heap.size:=by rw[←hV0];exact hV0▸hBV.size
 have hlo:Hz (∀X,Kp (LnS kc kg K R.code.length) w X→∀b,b<lo→X.heap[b]?=V0.heap[b]?):=ζ (fun X q b hb=>(q.block b (by omega) (fun r=>by
  rcases r with r|r|⟨j,hj,r⟩
  ·have:=h.kc_.1;omega
  ·have:=h.kg_.1;omega
  ·have:=(h.done j hj).1.1;omega)).trans (hBV.block b hb))
 have hwas:Hz (∀k (hk:k<R.code.length),∃(b off:Nat) (ra:Option Addr) (rc:Nat),ca=some ⟨b,off,none⟩∧∀X:World,(∀b,b<lo→X.heap[b]?=V0.heap[b]?)→X.cell? ⟨b,off+k,none⟩=some (.slice ra R.code[k].length rc)∧∀e (he:e<R.code[k].length),∃rb ro,ra=some ⟨rb,ro,none⟩∧rb<lo∧∀X:World,(∀b,b<lo→X.heap[b]?=V0.heap[b]?)→X.rangeAt rb (ro+e*5) R.code[k][e].vals):=ζ (fun k hk=>by
  obtain⟨b,off,ra,rc,e1,e2,e3,e4⟩:=hRV.code k hk;refine⟨b,off,ra,rc,e1,fun X hX=>⟨(T.cell_of_block (hX b (by omega)) _).trans e3,fun e he=>?_⟩⟩;obtain⟨rb,ro,f1,f2,f3⟩:=e4 e he;exact⟨rb,ro,f1,by omega,fun X hX j v q=>(T.cell_of_block (hX rb (by omega)) _).trans (f3 j v q)⟩)
 have hwasg:Hz (∀k (hk:k<R.gates.length),∃(b off:Nat),ga=some ⟨b,off,none⟩∧b<lo∧∀X:World,(∀b,b<lo→X.heap[b]?=V0.heap[b]?)→X.rangeAt b (off+k*19) R.gates[k].vals):=ζ (fun k hk=>by
  obtain⟨b,off,e1,e2,e3⟩:=hRV.gate k hk;exact⟨b,off,e1,by omega,fun X hX j v q=>(T.cell_of_block (hX b (by omega)) _).trans (e3 j v q)⟩)
 have hinj:=ζ h.inj;have hcgn:=ζ h.ne;have hin':Hz (∀k,hi≤k→¬LnS kc kg K R.code.length k):=ζ (fun k hk r=>by
  rcases r with r|r|⟨j,hj,r⟩
  ·have:=h.kc_.2;omega
  ·have:=h.kg_.2;omega
  ·have:=(h.done j hj).1.2;omega)
 have hKc:=ζ (fun j hj=>(h.done j hj).2.1);have hKg:=ζ (fun j hj=>(h.done j hj).2.2.1);have hrws:Hz (∀i (hi2:i<R.code.length) X,Kp (LnS kc kg K R.code.length) w X→∃g,la=some ⟨g,0,none⟩∧X.cell? ⟨g,i,none⟩=some (rwE R.code K i)):=ζ (fun i hi2 X q=>by
  obtain⟨g,e1,e2,e3⟩:=own_cell h.own i hi2 _ (rwsL_at R.code K _ i hi2);refine⟨g,e1,(T.cell_of_block (q.block g e2 (fun r=>?_)) _).trans e3⟩;obtain⟨a1,a2,a3,a4⟩:=h.ap g (by rw[e1];rfl);rcases r with r|r|⟨j,hj,r⟩
  ·exact a2 r
  ·exact a3 r
  ·exact a4 j hj r.symm)
 have hBw:Hz (∀W,Gr w W→Bk w W kc kg K R 0):=ζ (fun W g=>⟨Kp.ofGr g,(show FrF w kc (R.code.length+8) 0 (rowF R.code K R.code.length)from⟨_,h.row,fun _ _=>rfl⟩).keep (Kp.ofGr (S:=fun _=>False) g) (fun r=>r),fun j _ h2=>(h.done j h2).2.2.2.gr g,h.gates.gr g⟩);clear h hBV hRV hV0;replace hr:=ζ hr;replace hhi:=ζ hhi;go_enter Tryz.func20,Tryz.ntmps20;go_upto_region 1 with fail
 refine wp_world (fun W=>At W w.heap.size (List.toArray [Value.slice (some ⟨kc,0,none⟩) R.code.length (R.code.length+8),.slice (some ⟨kg,0,none⟩) R.gates.length (R.gates.length+8),.string mem,.int .i64 R.dep])∧At W (w.heap.size+1) (List.toArray [Value.slice ca R.code.length cc,.slice ga R.gates.length gc,.string mem,.int .i64 R.dep])∧Gr w W) ⟨(At.new w _ _).alloc _,At.at_ _ _ _ (by simp),((Gr.refl _).alloc _).alloc _⟩ ?_;rintro W ⟨hA3,hA5,G⟩;have hk3:Hz (hi≤w.heap.size):=hhi;have hk5:Hz (hi≤w.heap.size+1):=ζ (by have:=hhi.out;omega);have hwW:=ζ G.below.size;have hBk:=ζ (hBw.out W G);have hKW:Hz (∀X,Kp (LnS kc kg K R.code.length) W X→Kp (LnS kc kg K R.code.length) w X):=ζ (fun X q=>(Kp.ofGr G).trans q (fun _ r=>.inl r));have hA3h:=ζ hA3;have hA5h:=ζ hA5;generalize w.heap.size+1=k5 at*;generalize hk3e:w.heap.size=k3 at hA3 hA3h hk3 ⊢;have p0:W.cell? ⟨k3,0,none⟩=some (.slice (some ⟨kc,0,none⟩) R.code.length (R.code.length+8)):=hA3.2.1 0
 have p1:W.cell? ⟨k3,1,none⟩=some (.slice (some ⟨kg,0,none⟩) R.gates.length (R.gates.length+8)):=hA3.2.1 1;have q0:W.cell? ⟨k5,0,none⟩=some (.slice ca R.code.length cc):=hA5.2.1 0;have q1:W.cell? ⟨k5,1,none⟩=some (.slice ga R.gates.length gc):=hA5.2.1 1;clear hA3 hA5 hBw;go_upto_region 5 with fail
 clear p0 p1 q0 q1;replace hBk:Hz (Bk W W kc kg K R 0):=ζ ⟨Kp.refl _ W,hBk.out.code,hBk.out.rows,hBk.out.gates⟩;replace hlo:Hz (∀X,Kp (LnS kc kg K R.code.length) W X→∀b,b<lo→X.heap[b]?=V0.heap[b]?):=ζ (fun X q=>hlo.out X (hKW.out X q));replace hrws:Hz (∀i (hi2:i<R.code.length) X,Kp (LnS kc kg K R.code.length) W X→∃g,la=some ⟨g,0,none⟩∧X.cell? ⟨g,i,none⟩=some (rwE R.code K i)):=ζ (fun i hi2 X q=>hrws.out i hi2 X (hKW.out X q));go_loopw [9,10] (fun v x wr=>∃i:Nat,v=.bool true∧x=.int .i64 i∧i≤R.code.length+8∧Hz (Bk W wr kc kg K R i)) (fun _ x _=>R.code.length+8 - (intOf x).toNat)
 case atStart=>exact⟨0,by first|rfl|simp,rfl,Nat.zero_le _,hBk⟩
 case round=>
  clear hBk;obtain⟨i,rfl,rfl,hi8,hQ⟩:=hrel;have hA5w:=at_keep hA5h.out hQ.out.kp (hin'.out _ hk5.out);have q0:wr.cell? ⟨k5,0,none⟩=some (.slice ca R.code.length cc):=hA5w.2.1 0;by_cases hi9:i<R.code.length+8
  ·have hi1:(i:Int)<(R.code.length:Int)+8:=by omega
   by_cases hin:i<R.code.length
   ·have hi2:¬(R.code.length:Int)≤(i:Int):=by omega
    have hi3:(i:Int)<(R.code.length:Int):=by omega
    obtain⟨cb,co,ra,rc,eca,hwx⟩:=hwas.out i hin;subst eca;obtain⟨x3,hw2⟩:=hwx wr (hlo.out wr hQ.out.kp);obtain⟨rg,ela,hrg⟩:=hrws.out i hin wr hQ.out.kp;subst ela;obtain⟨RW,hRW⟩:∃RW,R.code[i]=RW:=⟨_,rfl⟩;have hRl:RW.length≤2000000:=by rw[←hRW];exact hr.out _ (List.getElem_mem hin)
    have hrE:rwE R.code K i=.slice (some ⟨K i,0,none⟩) (RW.length+8) (RW.length+8):=by unfold rwE;rw[←hRW];simp[hin]
    have hrF:Hz (rowF R.code K R.code.length i=.slice (some ⟨K i,0,none⟩) RW.length (RW.length+8)):=ζ (by unfold rowF;rw[if_pos hin,←hRW];simp[hin]);rw[hrE]at hrg;rw[hRW]at x3;obtain⟨x1,_,_⟩:=hQ.out.code.at hi9;rw[hrF.out]at x1;have hwas2:Hz (∀e (he:e<RW.length),∃rb ro,ra=some ⟨rb,ro,none⟩∧rb<lo∧∀X:World,(∀b,b<lo→X.heap[b]?=V0.heap[b]?)→X.rangeAt rb (ro+e*5) RW[e].vals):=ζ (by subst hRW;exact hw2);have hneK:Hz (K i≠kc∧K i≠kg):=ζ ⟨hKc.out i hin,hKg.out i hin⟩;have x2:=q0;have hwx5:Hz (∀X:World,(∀b,b<lo→X.heap[b]?=V0.heap[b]?)→X.cell? ⟨cb,co+i,none⟩=some (.slice ra RW.length rc)):=ζ (fun X q=>by rw[←hRW];exact(hwx X q).1);clear hw2 hrE;go_upto_region 10 with fail
    refine wp_region_held_drew (S:=(fun X=>X.cell? ⟨kc,i,none⟩=some (.slice (some ⟨K i,0,none⟩) RW.length (RW.length+8))∧X.cell? ⟨k5,0,none⟩=some (.slice (some ⟨cb,co,none⟩) R.code.length cc)∧X.cell? ⟨cb,co+i,none⟩=some (.slice ra RW.length rc))) (by kernel_rfl) (⟨x1,x2,x3⟩) (fun hHeld=>?_);refine xz 0 rfl (h:=xz 1 rfl (h:=?_));try simp only[xap]
    refine xz 2 rfl (h:=?_);try simp only[xap]
    refine xz 3 rfl (h:=?_);try simp only[xap]
    refine xz 4 rfl (h:=?_);try simp only[xap]
    refine xz 5 rfl (h:=?_);try simp only[xap]
    refine xz 6 rfl (h:=?_);try simp only[xap]
    refine xz 7 rfl (h:=?_);try simp only[xap]
    refine xz 8 rfl (h:=?_);try simp only[xap]
    refine xz 9 rfl (h:=?_);try simp only[xap]
    refine xz 10 rfl (h:=?_);try simp only[xap]
    refine xz 11 rfl (h:=?_);try simp only[xap]
    refine xz 12 rfl (h:=?_);try simp only[xap]
    refine xz 13 rfl (h:=xz 14 rfl (h:=xz 15 rfl (h:=?_)));try simp only[xap]
    refine xdn ?_ _;clear hHeld x1 x2 x3 hrg q0;have hIn:=ζ ((hQ.out.gr ((Gr.refl wr).drew)).into hin RW hRW);clear hQ hwx;replace hRW:=ζ hRW;go_upto_region 12 with fail
    generalize wr.drew=wv at*;go_loopw [9,12] (fun v x wq=>∃e:Nat,v=.bool true∧x=.int .i64 e∧e≤RW.length+8∧Hz (BkR W wq kc kg K R i e RW)) (fun _ x _=>RW.length+8 - (intOf x).toNat)
    case atStart=>exact⟨0,by first|rfl|simp,rfl,Nat.zero_le _,hIn⟩
    case round=>
     clear hIn;obtain⟨e,rfl,rfl,he8,hQ⟩:=hrel;by_cases hen:e<RW.length+8
     ·have he1:(e:Int)<(RW.length:Int)+8:=by omega
      have hWs:=ζ hQ.out.kp.size;go_upto_region 14 with fail
      have hA0:At (wr.alloc (.cells (List.toArray [Value.int .u8 0,.int .i64 0,.int .i64 0,.int .i64 0,.int .u64 0]) 53)) wr.heap.size (List.toArray [Value.int .u8 0,.int .i64 0,.int .i64 0,.int .i64 0,.int .u64 0]):=At.new wr _ _;have hth:=ζ (At.there hA0 0 5 (by decide));have hkw:=ζ (At.setAll hA0 [Value.int .u8 0,.int .i64 0,.int .i64 0,.int .i64 0,.int .u64 0] rfl);have g1:=ζ (Gr.setCells ((Gr.refl wr).alloc (.cells (List.toArray [Value.int .u8 0,.int .i64 0,.int .i64 0,.int .i64 0,.int .u64 0]) 53)) wr.heap.size (Nat.le_refl _) [Value.int .u8 0,.int .i64 0,.int .i64 0,.int .i64 0,.int .u64 0] 0);have hkx:Hz (W.heap.size≤wr.heap.size):=ζ hWs.out;clear hA0;refine wp_region_lit ?_;iterate 2 (refine xp fun K hK=>?_;go_simp;with_reducible refine hK _ _ ?_;clear hK K;(try simp only[xap]))
      refine xp fun K hK=>?_
      refine wp_store_mid _ _ _ rfl _ _ (List.toArray [Value.int .u8 0,.int .i64 0,.int .i64 0,.int .i64 0,.int .u64 0]) rfl rfl hth.out (by kernel_rfl) (by simp[Value.oneCell']) (hK _ _ ?_);clear hK K;try simp only[Act.put]
      generalize World.setCells _ _ _ _=V1 at*;generalize wr.heap.size=kw at*;clear hth;replace hQ:=ζ (hQ.out.gr g1.out);have hnw:Hz (¬kc=kw∧¬kg=kw∧∀j,j<R.code.length→¬K j=kw):=ζ (by
       have q1:=hkx.out;have q2:=hwW.out;have q3:=hk3.out;have q4:∀k,LnS kc kg K R.code.length k→k<hi:=fun k r=>Nat.lt_of_not_le (fun q=>hin'.out k q r)
       have a1:=q4 kc (.inl rfl);have a2:=q4 kg (.inr (.inl rfl));exact⟨by omega,by omega,fun j hj=>by have:=q4 (K j) (.inr (.inr ⟨j,hj,rfl⟩));omega⟩)
      have hA5w:=at_keep hA5h.out hQ.out.kp (hin'.out _ hk5.out);have q0:V1.cell? ⟨k5,0,none⟩=some (.slice (some ⟨cb,co,none⟩) R.code.length cc):=hA5w.2.1 0;have x3:V1.cell? ⟨cb,co+i,none⟩=some (.slice ra RW.length rc):=(by have:=(hwx5.out V1 (hlo.out V1 hQ.out.kp));exact this);clear hA5w g1;by_cases hel:e<RW.length
      ·skip
       have he2:(e:Int)<(RW.length:Int):=by omega
       have he3:¬(RW.length:Int)≤(e:Int):=by omega
       obtain⟨rb,ro,era,hrb,hrx⟩:=hwas2.out e hel;have hrw:=ζ (hrx V1 (hlo.out V1 hQ.out.kp));subst era;have hth:=ζ (At.there hkw.out 0 5 (by decide));have hk2:=ζ (At.setAll hkw.out RW[e].vals rfl);have kp2:=ζ (kp_setsZ V1 kw RW[e].vals 0);go_upto_region 16 with fail;refine wp_region_lit ?_;iterate 7 (refine xp fun K hK=>?_;go_simp;with_reducible refine hK _ _ ?_;clear hK K;(try simp only[xap]))
       refine xp fun K hK=>?_
       refine wp_load_mid _ _ rfl _ (ro+e*5) rfl RW[e].vals _ hrw.out Tryz.underlying53 rfl (by kernel_rfl) (hK _ _ ?_);clear hK K;try simp only[xap]
       refine xp fun K hK=>?_
       refine wp_store_mid _ _ _ rfl _ _ (List.toArray RW[e].vals) rfl rfl hth.out (by kernel_rfl) (by simp[Ri.vals,Value.oneCell']) (hK _ _ ?_);clear hK K;try simp only[Act.put]
       have hQ2:Hz (BkR W (V1.setCells kw 0 RW[e].vals) kc kg K R i e RW):=ζ ⟨hQ.out.kp.trans kp2.out (fun k q=>.inr (by have:k=kw:=q;have:=hkx.out;omega)),hQ.out.code.keep kp2.out hnw.out.1,fun j h1 h2=>at_keep (hQ.out.rows j h1 h2) kp2.out (hnw.out.2.2 j h2),hQ.out.row.keep kp2.out (hnw.out.2.2 i hin),at_keep hQ.out.gates kp2.out hnw.out.2.1⟩;generalize World.setCells _ _ _ _=V2 at*;have y2:V2.rangeAt kw 0 (elI RW e).vals:=by rw[elI_in RW e hel];exact At.range hk2.out
       clear hth hk2 kp2 hrw hQ hkw;have hQ:=hQ2;clear hQ2;have y1:=padA_range hQ.out.row hen;obtain⟨y3,_,_⟩:=hQ.out.code.at (by omega);rw[hrF.out]at y3;go_upto_region 17 with fail
       refine wp_region_held_drew (S:=(fun X=>X.rangeAt (K i) (e*5) (elI RW e).vals∧X.rangeAt kw 0 (elI RW e).vals∧X.cell? ⟨kc,i,none⟩=some (.slice (some ⟨K i,0,none⟩) RW.length (RW.length+8)))) (by kernel_rfl) (⟨y1,y2,y3⟩) (fun hHeld=>?_);refine xz 0 rfl (h:=xz 1 rfl (h:=?_));try simp only[xap]
       refine xz 2 rfl (h:=?_);try simp only[xap]
       refine xz 3 rfl (h:=?_);try simp only[xap]
       refine xz 4 rfl (h:=?_);try simp only[xap]
       refine xtk 5 rfl (yieldsIf_load_mid (by rfl) _ _ rfl _ _ rfl _ _ (fun _ h=>h.1) Tryz.underlying53 rfl (by kernel_rfl)) ?_;try simp only[xap]
       refine xtk 6 rfl (yieldsIf_load_mid (by rfl) _ _ rfl _ _ rfl _ _ (fun _ h=>h.2.1) Tryz.underlying53 rfl (by kernel_rfl)) ?_;try simp only[xap]
       refine xtk 7 (v:=.bool true) rfl (yields_eqI (by rfl) _ _ _ rfl (elI RW e) (by rfl) (by rfl)) ?_;try simp only[xap]
       refine xz 8 rfl (h:=xz 9 rfl (h:=?_));try simp only[xap]
       refine xz 10 rfl (h:=?_);try simp only[xap]
       refine xz 11 rfl (h:=?_);try simp only[xap]
       refine xz 12 rfl (h:=?_);try simp only[xap]
       refine xz 13 rfl (h:=?_);try simp only[xap]
       refine xz 14 rfl (h:=?_);try simp only[xap]
       refine xz 15 rfl (h:=?_);try simp only[xap]
       refine xz 16 rfl (h:=?_);try simp only[xap]
       refine xz 17 rfl (h:=?_);try simp only[xap]
       refine xz 18 rfl (h:=?_);try simp only[xap]
       refine xz 19 rfl (h:=?_);try simp only[xap]
       refine xz 20 rfl (h:=?_);try simp only[xap]
       refine xz 21 rfl (h:=?_);try simp only[xap]
       refine xz 22 rfl (h:=?_);try simp only[xap]
       refine xz 23 rfl (h:=?_);try simp only[xap]
       refine xtk 24 rfl (yieldsIf_load_mid (by rfl) _ _ rfl _ _ rfl _ _ (fun _ h=>h.1) Tryz.underlying53 rfl (by kernel_rfl)) ?_;try simp only[xap]
       refine xtk 25 rfl (yieldsIf_load_mid (by rfl) _ _ rfl _ _ rfl _ _ (fun _ h=>h.2.1) Tryz.underlying53 rfl (by kernel_rfl)) ?_;try simp only[xap]
       refine xtk 26 (v:=.bool true) rfl (yields_eqI (by rfl) _ _ _ rfl (elI RW e) (by rfl) (by rfl)) ?_;try simp only[xap]
       refine xz 27 rfl (h:=xz 28 rfl (h:=xz 29 rfl (h:=?_)));try simp only[xap]
       refine xdn ?_ _;clear hHeld y1 y2 y3;have g2:Gr V2 V2.drew:=(Gr.refl V2).drew;replace hQ:=ζ (hQ.out.gr g2);clear g2;generalize V2.drew=V3 at*;have hth:=ζ (hQ.out.row.there (e*5) 5 (by omega));have hQ3:=ζ (hQ.out.next hin hen hneK.out (fun j h1 h2=>hinj.out i j hin h1 h2) [Value.int .u8 28,.int .i64 0,.int .i64 0,.int .i64 0,.int .u64 77] rfl);have hjj:(e:Int)<(RW.length:Int)+8:=by omega
       go_upto_region 18 with fail;refine wp_region_lit ?_;iterate 4 (refine xp fun K hK=>?_;go_simp;with_reducible refine hK _ _ ?_;clear hK K;(try simp only[xap]))
       refine xp fun K hK=>?_
       refine wp_store_mid _ _ _ rfl _ _ (List.toArray [Value.int .u8 28,.int .i64 0,.int .i64 0,.int .i64 0,.int .u64 77]) rfl rfl hth.out (by kernel_rfl) (by simp[Value.oneCell']) (hK _ _ ?_);clear hK K;try simp only[Act.put]
       generalize World.setCells _ _ _ _=V4 at*;clear hth;go_wp2_with fail;refine⟨⟨e+1,?_,?_,hen,hQ3⟩,?_⟩
       ·first|rfl|simp
       ·first|rfl|rw[next_wZ hen (by omega)]|go_num
       ·first|exact next_mZ hen|(rw[next_wZ hen (by omega)];exact next_mZ hen)
      ·skip
       have he2:¬(e:Int)<(RW.length:Int):=by omega
       have he3:(RW.length:Int)≤(e:Int):=by omega
       have y2:V1.rangeAt kw 0 (elI RW e).vals:=by rw[elI_out RW e (by omega)];exact At.range hkw.out
       generalize hV12:V1=V2 at*;clear hV12 hkw;have y1:=padA_range hQ.out.row hen;obtain⟨y3,_,_⟩:=hQ.out.code.at (by omega);rw[hrF.out]at y3;go_upto_region 17 with fail
       refine wp_region_held_drew (S:=(fun X=>X.rangeAt (K i) (e*5) (elI RW e).vals∧X.rangeAt kw 0 (elI RW e).vals∧X.cell? ⟨kc,i,none⟩=some (.slice (some ⟨K i,0,none⟩) RW.length (RW.length+8)))) (by kernel_rfl) (⟨y1,y2,y3⟩) (fun hHeld=>?_);refine xz 0 rfl (h:=xz 1 rfl (h:=?_));try simp only[xap]
       refine xz 2 rfl (h:=?_);try simp only[xap]
       refine xz 3 rfl (h:=?_);try simp only[xap]
       refine xz 4 rfl (h:=?_);try simp only[xap]
       refine xtk 5 rfl (yieldsIf_load_mid (by rfl) _ _ rfl _ _ rfl _ _ (fun _ h=>h.1) Tryz.underlying53 rfl (by kernel_rfl)) ?_;try simp only[xap]
       refine xtk 6 rfl (yieldsIf_load_mid (by rfl) _ _ rfl _ _ rfl _ _ (fun _ h=>h.2.1) Tryz.underlying53 rfl (by kernel_rfl)) ?_;try simp only[xap]
       refine xtk 7 (v:=.bool true) rfl (yields_eqI (by rfl) _ _ _ rfl (elI RW e) (by rfl) (by rfl)) ?_;try simp only[xap]
       refine xz 8 rfl (h:=xz 9 rfl (h:=?_));try simp only[xap]
       refine xz 10 rfl (h:=?_);try simp only[xap]
       refine xz 11 rfl (h:=?_);try simp only[xap]
       refine xz 12 rfl (h:=?_);try simp only[xap]
       refine xz 13 rfl (h:=?_);try simp only[xap]
       refine xz 14 rfl (h:=?_);try simp only[xap]
       refine xz 15 rfl (h:=?_);try simp only[xap]
       refine xz 16 rfl (h:=?_);try simp only[xap]
       refine xz 17 rfl (h:=?_);try simp only[xap]
       refine xtk 18 (v:=undef) rfl (Or.inr ⟨by rfl,rfl⟩) ?_;try simp only[xap]
       refine xtk 19 (v:=undef) rfl (Or.inr ⟨by rfl,rfl⟩) ?_;try simp only[xap]
       refine xtk 20 (v:=undef) rfl (Or.inr ⟨by rfl,rfl⟩) ?_;try simp only[xap]
       refine xtk 21 (v:=undef) rfl (Or.inr ⟨by rfl,rfl⟩) ?_;try simp only[xap]
       refine xtk 22 (v:=undef) rfl (Or.inr ⟨by rfl,rfl⟩) ?_;try simp only[xap]
       refine xtk 23 (v:=undef) rfl (Or.inr ⟨by rfl,rfl⟩) ?_;try simp only[xap]
       refine xtk 24 (v:=undef) rfl (Or.inr ⟨by rfl,rfl⟩) ?_;try simp only[xap]
       refine xtk 25 (v:=undef) rfl (Or.inr ⟨by rfl,rfl⟩) ?_;try simp only[xap]
       refine xtk 26 (v:=undef) rfl (Or.inr ⟨by rfl,rfl⟩) ?_;try simp only[xap]
       refine xz 27 rfl (h:=xz 28 rfl (h:=xz 29 rfl (h:=?_)));try simp only[xap]
       refine xdn ?_ _;clear hHeld y1 y2 y3;have g2:Gr V2 V2.drew:=(Gr.refl V2).drew;replace hQ:=ζ (hQ.out.gr g2);clear g2;generalize V2.drew=V3 at*;have hth:=ζ (hQ.out.row.there (e*5) 5 (by omega));have hQ3:=ζ (hQ.out.next hin hen hneK.out (fun j h1 h2=>hinj.out i j hin h1 h2) [Value.int .u8 28,.int .i64 0,.int .i64 0,.int .i64 0,.int .u64 77] rfl);have hjj:(e:Int)<(RW.length:Int)+8:=by omega
       go_upto_region 18 with fail;refine wp_region_lit ?_;iterate 4 (refine xp fun K hK=>?_;go_simp;with_reducible refine hK _ _ ?_;clear hK K;(try simp only[xap]))
       refine xp fun K hK=>?_
       refine wp_store_mid _ _ _ rfl _ _ (List.toArray [Value.int .u8 28,.int .i64 0,.int .i64 0,.int .i64 0,.int .u64 77]) rfl rfl hth.out (by kernel_rfl) (by simp[Value.oneCell']) (hK _ _ ?_);clear hK K;try simp only[Act.put]
       generalize World.setCells _ _ _ _=V4 at*;clear hth;go_wp2_with fail;refine⟨⟨e+1,?_,?_,hen,hQ3⟩,?_⟩
       ·first|rfl|simp
       ·first|rfl|rw[next_wZ hen (by omega)]|go_num
       ·first|exact next_mZ hen|(rw[next_wZ hen (by omega)];exact next_mZ hen)
     ·have he1:¬(e:Int)<(RW.length:Int)+8:=by omega
      obtain⟨z1,z2,z3⟩:=hQ.out.code.at hi9;have hout:=ζ (hQ.out.out hin (.slice none 0 0) hKc.out hcgn.out);go_wp2_with fail;refine⟨⟨i+1,?_,?_,hi9,hout⟩,?_⟩
      ·first|rfl|simp
      ·first|rfl|rw[next_wZ hi9 (by omega)]|go_num
      ·first|exact next_mZ hi9|(rw[next_wZ hi9 (by omega)];exact next_mZ hi9)
   ·have hi2:(R.code.length:Int)≤(i:Int):=by omega
    obtain⟨x1,_,_⟩:=hQ.out.code.at hi9;rw[show rowF R.code K R.code.length i=.slice none 0 0 by unfold rowF;rw[if_neg hin]]at x1;have hnx:Hz (Bk W wr kc kg K R (i+1)):=ζ ⟨hQ.out.kp,hQ.out.code.mono (by omega),fun j h1 h2=>hQ.out.rows j (by omega) h2,hQ.out.gates⟩;have eq8:(binOp .eql 54 (.slice none 0 0) (.slice none 0 0)).run Tryz.prog wr=.ok (.bool true) wr:=run_eql_slice_nil (P:=Tryz.prog) wr 54 _ none 0 0 Tryz.underlying54;go_upto_region 8 with fail;refine wp_region_lit ?_;iterate 2 (refine xp fun K hK=>?_;go_simp;with_reducible refine hK _ _ ?_;clear hK K;(try simp only[xap]))
    refine BigFrame.wpList_want (by rfl) (fun K hK=>?_);go_simp;with_reducible refine hK _ _ ?_
    clear hK K;try simp only[xap]
    refine BigFrame.wpList_want (by rfl) (fun K hK=>?_);go_simp;with_reducible refine hK _ _ ?_
    clear hK K;try simp only[xap]
    refine BigFrame.wpList_want (by rfl) (fun K hK=>?_);go_simp;with_reducible refine hK _ _ ?_
    clear hK K;try simp only[xap]
    refine BigFrame.wpList_want (by rfl) (fun K hK=>?_);go_simp;with_reducible refine hK _ _ ?_
    clear hK K;try simp only[xap]
    refine BigFrame.wpList_want (by rfl) (fun K hK=>?_);go_simp;with_reducible refine hK _ _ ?_
    clear hK K;try simp only[xap]
    iterate 2 (refine xp fun K hK=>?_;go_simp;with_reducible refine hK _ _ ?_;clear hK K;(try simp only[xap]))
    go_wp2_with fail;refine⟨⟨i+1,?_,?_,hi9,hnx⟩,?_⟩
    ·first|rfl|simp
    ·first|rfl|rw[next_wZ hi9 (by omega)]|go_num
    ·first|exact next_mZ hi9|(rw[next_wZ hi9 (by omega)];exact next_mZ hi9)
  ·have hi1:¬(i:Int)<(R.code.length:Int)+8:=by omega
   have hG0:=ζ hQ.out.toG;clear hQ hA5w q0;go_upto_region 21 with fail
   go_loopw [9,14] (fun v x wq=>∃i:Nat,v=.bool true∧x=.int .i64 i∧i≤R.gates.length+8∧Hz (BkG W wq kc kg K R i)) (fun _ x _=>R.gates.length+8 - (intOf x).toNat)
   case atStart=>exact⟨0,by first|rfl|simp,rfl,Nat.zero_le _,hG0⟩
   case round=>
    clear hG0 hi8 hi9 hi1;obtain⟨i,rfl,rfl,hi8,hQ⟩:=hrel;by_cases hin:i<R.gates.length+8
    ·have hi1:(i:Int)<(R.gates.length:Int)+8:=by omega
     have hWs:=ζ hQ.out.kp.size;go_upto_region 23 with fail
     have hA0:At (wr.alloc (.cells (List.toArray [Value.int .i64 0,.int .i64 0,.int .i64 0,.int .u64 0,.int .u64 0,.int .u64 0,.int .u64 0,.int .u64 0,.int .u64 0,.int .u64 0,.int .u64 0,.int .u64 0,.int .u64 0,.int .u64 0,.int .u64 0,.int .u64 0,.int .u64 0,.int .u64 0,.int .u64 0]) 70)) wr.heap.size (List.toArray [Value.int .i64 0,.int .i64 0,.int .i64 0,.int .u64 0,.int .u64 0,.int .u64 0,.int .u64 0,.int .u64 0,.int .u64 0,.int .u64 0,.int .u64 0,.int .u64 0,.int .u64 0,.int .u64 0,.int .u64 0,.int .u64 0,.int .u64 0,.int .u64 0,.int .u64 0]):=At.new wr _ _;have hth:=ζ (At.there hA0 0 19 (by decide));have hkw:=ζ (At.setAll hA0 [Value.int .i64 0,.int .i64 0,.int .i64 0,.int .u64 0,.int .u64 0,.int .u64 0,.int .u64 0,.int .u64 0,.int .u64 0,.int .u64 0,.int .u64 0,.int .u64 0,.int .u64 0,.int .u64 0,.int .u64 0,.int .u64 0,.int .u64 0,.int .u64 0,.int .u64 0] rfl);have g1:=ζ (Gr.setCells ((Gr.refl wr).alloc (.cells (List.toArray [Value.int .i64 0,.int .i64 0,.int .i64 0,.int .u64 0,.int .u64 0,.int .u64 0,.int .u64 0,.int .u64 0,.int .u64 0,.int .u64 0,.int .u64 0,.int .u64 0,.int .u64 0,.int .u64 0,.int .u64 0,.int .u64 0,.int .u64 0,.int .u64 0,.int .u64 0]) 70)) wr.heap.size (Nat.le_refl _) [Value.int .i64 0,.int .i64 0,.int .i64 0,.int .u64 0,.int .u64 0,.int .u64 0,.int .u64 0,.int .u64 0,.int .u64 0,.int .u64 0,.int .u64 0,.int .u64 0,.int .u64 0,.int .u64 0,.int .u64 0,.int .u64 0,.int .u64 0,.int .u64 0,.int .u64 0] 0)
     have hkx:Hz (W.heap.size≤wr.heap.size):=ζ hWs.out;clear hA0;refine wp_region_lit ?_;iterate 2 (refine xp fun K hK=>?_;go_simp;with_reducible refine hK _ _ ?_;clear hK K;(try simp only[xap]))
     refine xp fun K hK=>?_
     refine wp_store_mid _ _ _ rfl _ _ (List.toArray [Value.int .i64 0,.int .i64 0,.int .i64 0,.int .u64 0,.int .u64 0,.int .u64 0,.int .u64 0,.int .u64 0,.int .u64 0,.int .u64 0,.int .u64 0,.int .u64 0,.int .u64 0,.int .u64 0,.int .u64 0,.int .u64 0,.int .u64 0,.int .u64 0,.int .u64 0]) rfl rfl hth.out (by kernel_rfl) (by simp[Value.oneCell']) (hK _ _ ?_);clear hK K;try simp only[Act.put]
     generalize World.setCells _ _ _ _=V1 at*;generalize wr.heap.size=kw at*;clear hth;replace hQ:=ζ (hQ.out.gr g1.out);have hnw:Hz (¬kg=kw):=ζ (by
      have q1:=hkx.out;have q2:=hwW.out;have q3:=hk3.out;have:=Nat.lt_of_not_le (fun q=>hin'.out kg q (.inr (.inl rfl)));omega)
     have hA5w:=at_keep hA5h.out hQ.out.kp (hin'.out _ hk5.out);have q1:V1.cell? ⟨k5,1,none⟩=some (.slice ga R.gates.length gc):=hA5w.2.1 1;clear hA5w g1;by_cases hil:i<R.gates.length
     ·skip
      have he2:(i:Int)<(R.gates.length:Int):=by omega
      obtain⟨gb,go,ega,hgb,hgx⟩:=hwasg.out i hil;subst ega;have hrw:=ζ (hgx V1 (hlo.out V1 hQ.out.kp));have hth:Hz (V1.there kw 0 R.gates[i].vals.length):=ζ (by rw[Rg.len];exact At.there hkw.out 0 19 (by decide));have hk2:=ζ (At.setAll hkw.out R.gates[i].vals (by rw[Rg.len];rfl));have kp2:=ζ (kp_setsZ V1 kw R.gates[i].vals 0);go_upto_region 25 with fail;refine wp_region_lit ?_;iterate 4 (refine xp fun K hK=>?_;go_simp;with_reducible refine hK _ _ ?_;clear hK K;(try simp only[xap]))
      refine xp fun K hK=>?_
      refine wp_load_mid _ _ rfl _ (go+i*19) rfl R.gates[i].vals _ hrw.out Tryz.underlying70 rfl (by rw[Rg.len];kernel_rfl) (hK _ _ ?_);clear hK K;try simp only[xap]
      refine xp fun K hK=>?_
      refine wp_store_mid _ _ _ rfl _ _ (List.toArray R.gates[i].vals) rfl rfl hth.out (by rw[List.size_toArray,Rg.len];kernel_rfl) (Rg.one _) (hK _ _ ?_);clear hK K;try simp only[Act.put]
      have hQ2:Hz (BkG W (V1.setCells kw 0 R.gates[i].vals) kc kg K R i):=ζ ⟨hQ.out.kp.trans kp2.out (fun k q=>.inr (by have:k=kw:=q;have:=hkx.out;omega)),hQ.out.gates.keep kp2.out hnw.out⟩;generalize World.setCells _ _ _ _=V2 at*;have y2:V2.rangeAt kw 0 (elG R.gates i).vals:=by rw[elG_in R.gates i hil];exact At.range hk2.out
      clear hth hk2 kp2 hrw hQ hkw;have hQ:=hQ2;clear hQ2;have y1:=padG_range hQ.out.gates hin;go_upto_region 26 with fail
      refine wp_region_held_drew (S:=(fun X=>X.rangeAt kg (i*19) (elG R.gates i).vals∧X.rangeAt kw 0 (elG R.gates i).vals)) (by kernel_rfl) (⟨y1,y2⟩) (fun hHeld=>?_);refine xz 0 rfl (h:=xz 1 rfl (h:=?_));try simp only[xap]
      refine xz 2 rfl (h:=?_);try simp only[xap]
      refine xz 3 rfl (h:=?_);try simp only[xap]
      refine xz 4 rfl (h:=?_);try simp only[xap]
      refine xtk 5 rfl (yieldsIf_load_mid (by rfl) _ _ rfl _ _ rfl _ _ (fun _ h=>h.1) Tryz.underlying70 rfl (by rw[Rg.len];kernel_rfl)) ?_;try simp only[xap]
      refine xtk 6 rfl (yieldsIf_load_mid (by rfl) _ _ rfl _ _ rfl _ _ (fun _ h=>h.2) Tryz.underlying70 rfl (by rw[Rg.len];kernel_rfl)) ?_;try simp only[xap]
      refine xtk 7 (v:=.bool true) rfl (yields_eqG (by rfl) _ _ _ rfl (elG R.gates i) (by rfl) (by rfl)) ?_;try simp only[xap]
      refine xz 8 rfl (h:=xz 9 rfl (h:=?_));try simp only[xap]
      refine xdn ?_ _;clear hHeld y1 y2;have g2:Gr V2 V2.drew:=(Gr.refl V2).drew;replace hQ:=ζ (hQ.out.gr g2);clear g2;generalize V2.drew=V3 at*;obtain⟨z1,z2,z3⟩:=(hQ.out.gates).at (by have:(i+1)*19≤(R.gates.length+8)*19:=Nat.mul_le_mul_right _ hin;omega);have hQ3:=ζ (hQ.out.next hin (.int .i64 77));go_wp2_with fail;refine⟨⟨i+1,?_,?_,hin,hQ3⟩,?_⟩
      ·first|rfl|simp
      ·first|rfl|rw[next_wZ hin (by omega)]|go_num
      ·first|exact next_mZ hin|(rw[next_wZ hin (by omega)];exact next_mZ hin)
     ·skip
      have he2:¬(i:Int)<(R.gates.length:Int):=by omega
      have y2:V1.rangeAt kw 0 (elG R.gates i).vals:=by rw[elG_out R.gates i (by omega)];exact At.range hkw.out
      generalize hV12:V1=V2 at*;clear hV12 hkw;have y1:=padG_range hQ.out.gates hin;go_upto_region 26 with fail
      refine wp_region_held_drew (S:=(fun X=>X.rangeAt kg (i*19) (elG R.gates i).vals∧X.rangeAt kw 0 (elG R.gates i).vals)) (by kernel_rfl) (⟨y1,y2⟩) (fun hHeld=>?_);refine xz 0 rfl (h:=xz 1 rfl (h:=?_));try simp only[xap]
      refine xz 2 rfl (h:=?_);try simp only[xap]
      refine xz 3 rfl (h:=?_);try simp only[xap]
      refine xz 4 rfl (h:=?_);try simp only[xap]
      refine xtk 5 rfl (yieldsIf_load_mid (by rfl) _ _ rfl _ _ rfl _ _ (fun _ h=>h.1) Tryz.underlying70 rfl (by rw[Rg.len];kernel_rfl)) ?_;try simp only[xap]
      refine xtk 6 rfl (yieldsIf_load_mid (by rfl) _ _ rfl _ _ rfl _ _ (fun _ h=>h.2) Tryz.underlying70 rfl (by rw[Rg.len];kernel_rfl)) ?_;try simp only[xap]
      refine xtk 7 (v:=.bool true) rfl (yields_eqG (by rfl) _ _ _ rfl (elG R.gates i) (by rfl) (by rfl)) ?_;try simp only[xap]
      refine xz 8 rfl (h:=xz 9 rfl (h:=?_));try simp only[xap]
      refine xdn ?_ _;clear hHeld y1 y2;have g2:Gr V2 V2.drew:=(Gr.refl V2).drew;replace hQ:=ζ (hQ.out.gr g2);clear g2;generalize V2.drew=V3 at*;obtain⟨z1,z2,z3⟩:=(hQ.out.gates).at (by have:(i+1)*19≤(R.gates.length+8)*19:=Nat.mul_le_mul_right _ hin;omega);have hQ3:=ζ (hQ.out.next hin (.int .i64 77));go_wp2_with fail;refine⟨⟨i+1,?_,?_,hin,hQ3⟩,?_⟩
      ·first|rfl|simp
      ·first|rfl|rw[next_wZ hin (by omega)]|go_num
      ·first|exact next_mZ hin|(rw[next_wZ hin (by omega)];exact next_mZ hin)
    ·have hi1:¬(i:Int)<(R.gates.length:Int)+8:=by omega
     have hfin:=ζ (hKW.out _ hQ.out.kp);go_wp2_with fail;go_ret;exact⟨rfl,hfin.out⟩
end Z
end Go.Proofs.YtdidjhillmgccaaGreat
