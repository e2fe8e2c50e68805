import Derived.Test.YtdidjhillmgccaaGreatP32
import Derived.Test.YtdidjhillmgccaaGreatP31
import Derived.Test.YtdidjhillmgccaaGreatZNew
import Derived.Lib.LazyBuf
namespace Go.Proofs.YtdidjhillmgccaaGreat
namespace Z
open Go.RowKit
open T (Sep Ob Kp Mf FlIn boxOb)
def layF (m:Nat→UInt8):Nat→List UInt8→Nat→UInt8
 |_,[]=>m
 |o,v::r=>layF (T.upd m o v) (o+1) r
def setL (xs:List Value):Nat→List Value→List Value
 |_,[]=>xs
 |o,v::r=>setL (xs.set o v) (o+1) r
theorem own_setN {lo e n c g:Nat}(vs:List Value):∀{w:World} {xs:List Value} (_:w.ownsRow lo e 1 (.slice (some ⟨g,0,none⟩) n c) n xs) (o:Nat),(w.setCells g o vs).ownsRow lo e 1 (.slice (some ⟨g,0,none⟩) n c) n (setL xs o vs):=by
 induction vs with
 |nil=>intro w xs h o;exact h
 |cons v r ih=>intro w xs h o;exact ih (own_set1 h o v) (o+1)
theorem mV_setL (t:List UInt8):∀(m:Nat→UInt8) (o:Nat),setL (mV m) o (t.map fun x=>Value.int .u8 (x.toNat:Int))=mV (layF m o t):=by
 induction t with
 |nil=>intro m o;rfl
 |cons v r ih=>
  intro m o;rw[List.map_cons,setL,layF,mV_set];exact ih _ _
theorem lay_cons (m:Nat→UInt8)(o:Nat)(v:UInt8)(r:List UInt8):∀k,T.layB m o (v::r) (k+1)=T.layB (T.upd m o v) (o+1) r k
 |0=>rfl
 |k+1=>by
  show T.upd (T.layB m o (v::r) (k+1)) (o+(k+1)) ((v::r).getD (k+1) 0)=T.upd (T.layB (T.upd m o v) (o+1) r k) (o+1+k) (r.getD k 0);rw[lay_cons m o v r k,show o+(k+1)=o+1+k by omega]
  rfl
theorem lay_eq (t:List UInt8):∀(m:Nat→UInt8) (o:Nat),layF m o t=T.layB m o t t.length:=by
 induction t with
 |nil=>intro m o;rfl
 |cons v r ih=>
  intro m o;show layF (T.upd m o v) (o+1) r=T.layB m o (v::r) (r.length+1);rw[lay_cons,ih]
section
variable {B:Nat} {W:World} {b:Nat} {c:Dc} {P:Pr} {s:Fm} {og op:Nat} {l:List Ob}
theorem DIo.lay (h:DIo B W b c P s og op l):∃g k,W.cell? ⟨b,23,none⟩=some (.slice (some ⟨g,0,none⟩) 65536 k)∧(∀i,i<65536→(W.cell? ⟨g,i,none⟩).isSome=true∧W.frozen? ⟨g,i,none⟩=false)∧(∃v,W.cell? ⟨g,0,none⟩=some (.int .u8 v))∧
 ∀t:List UInt8,DIo B (W.setCells g 0 (t.map fun x=>Value.int .u8 (x.toNat:Int))) b c P {s with m:=T.layB s.m 0 t t.length} og op l∧Below B W (W.setCells g 0 (t.map fun x=>Value.int .u8 (x.toNat:Int))):=by
 obtain⟨g,k,c23,hgl,hc,_⟩:=h.mem;refine⟨g,k,c23,fun i hi=>⟨by rw[(hc i hi).1];rfl,(hc i hi).2⟩,⟨_,(hc 0 (by omega)).1⟩,fun t=>?_⟩;obtain⟨⟨q,h1,ia,ic,e,h2⟩,le⟩:=h;have hb:=h1.ins (dbOb b (dxOf c P s q og op)) (by simp[dobs]);have e1:q.mv=.slice (some ⟨g,0,none⟩) 65536 k:=by
  have:=(hb.at_ 23 (by omega)).symm.trans c23;injection this
 have hO:W.ownsRow B 5 1 q.mv 65536 (mV s.m):=h1.ins (rowOb B 5 1 q.mv 65536 (mV s.m)) (by simp[dobs]);have hO2:(W.setCells g 0 (t.map fun x=>Value.int .u8 (x.toNat:Int))).ownsRow B 5 1 q.mv 65536 (mV (T.layB s.m 0 t t.length)):=by
  rw[e1]at hO ⊢;rw[←lay_eq,←mV_setL];exact own_setN _ hO 0
 have hk2:Kp (rowOb B 5 1 q.mv 65536 (mV s.m)).S W (W.setCells g 0 (t.map fun x=>Value.int .u8 (x.toNat:Int))):=by
  refine Kp.mono (kp_setsZ W g _ 0) (fun k r=>.inl ?_);subst r;show q.mv.ownBlock=some k;rw[e1]
  rfl
 have h3:=sep_change (l1:=[dbOb b (dxOf c P s q og op),rowOb B 144 18 q.sv s.st.length (s.st.flatMap Fr.vals)]) (o:=rowOb B 5 1 q.mv 65536 (mV s.m)) (o':=rowOb B 5 1 q.mv 65536 (mV (T.layB s.m 0 t t.length))) h1 hO2 hk2 (fun _ r=>.inl r) le;have bb:=sep_below (l1:=[dbOb b (dxOf c P s q og op),rowOb B 144 18 q.sv s.st.length (s.st.flatMap Fr.vals)]) (o:=rowOb B 5 1 q.mv 65536 (mV s.m)) h1 hk2 le;exact⟨⟨⟨q,h3,ia,ic,e,h2.below bb⟩,Nat.le_trans le hk2.size⟩,bb⟩
end
def dmV (p0 p1 i0:Option Addr)(c1 c2 g1 g2 i1 i2 g:Nat)(mem:ByteArray)(d:Int):List Value:=[.slice p0 c1 c2,.slice p1 g1 g2,.string mem,.int .i64 d,.int .i64 0,.int .i64 0,.int .u64 0,.int .u64 0,.int .u64 0,.int .u64 0,.int .u64 0,.int .u64 0,.int .u64 0,.int .u64 0,.int .u64 0,.int .u64 0,.int .u64 0,.int .u64 0,.int .u64 0,.int .u64 0,.int .u64 0,.int .u64 0,.slice none 0 0,.slice (some ⟨g,0,none⟩) 65536 65536,.slice i0 i1 i2,.slice none 0 0,.slice none 0 0,.int .i64 0,.int .u64 0,.int .i64 0,.int .i64 0,.int .i64 0]
theorem build_dm (p0 p1 i0:Option Addr)(c1 c2 g1 g2 i1 i2 g:Nat)(mem:ByteArray)(d:Int)(W:World):(Instr.build 96 #[(0,.agg (List.toArray [Value.slice p0 c1 c2,.slice p1 g1 g2,.string mem,.int .i64 d])),(5,.slice (some ⟨g,0,none⟩) 65536 65536),(6,.slice i0 i1 i2)]).run Tryz.prog W=.ok (.agg (dmV p0 p1 i0 c1 c2 g1 g2 i1 i2 g mem d).toArray) W:=by kernel_rfl
theorem yields_dm {ops:Array Oper}{S:World→Prop}{op:Oper}{a:Act}(hw:Region.wanted op (yielded ops a.tmps)=true)(x0 x1 x2:Operand)(ho:op.op=.build 96 #[(0,x0),(5,x1),(6,x2)])
 (p0 p1 i0:Option Addr)(c1 c2 g1 g2 i1 i2 g:Nat)(mem:ByteArray)(d:Int)(h0:a.eval x0=.agg (List.toArray [Value.slice p0 c1 c2,.slice p1 g1 g2,.string mem,.int .i64 d]))(h1:a.eval x1=.slice (some ⟨g,0,none⟩) 65536 65536)(h2:a.eval x2=.slice i0 i1 i2):
 YieldsIf Tryz.prog ops S op (.agg (dmV p0 p1 i0 c1 c2 g1 g2 i1 i2 g mem d).toArray) a:=
 .inl ⟨hw,fun w _=>by
  unfold execOp;simp only[ho,List.map_toArray,List.map_cons,List.map_nil,h0,h1,h2,build_dm,Sem.run_bind,Sem.run_pure,Result.andThen_ok]⟩
def zFm (L:List Int)(m:Nat→UInt8):Fm:=⟨0,0,fun _=>0,[],L,[],[],0,0,0,m⟩
theorem dm_bx {W:World}{a:Nat}{p0 p1 i0:Option Addr}{c2 g2 i2 g:Nat}{mem:ByteArray}{P:Pr}{L:List Int}(h:At W a (dmV p0 p1 i0 P.code.length c2 P.gates.length g2 L.length i2 g mem P.dep).toArray):DBx W a (dxOf ⟨p0,p1,c2,g2,.string mem⟩ P (zFm L (fun _=>0)) ⟨.slice none 0 0,.slice (some ⟨g,0,none⟩) 65536 65536,.slice i0 L.length i2,.slice none 0 0,.slice none 0 0⟩ 0 0):=by
 refine⟨h.1,fun j hj=>(h.2.1 j).trans ?_,h.2.2⟩;refine dx_cases (P:=fun j=>(dmV p0 p1 i0 P.code.length c2 P.gates.length g2 L.length i2 g mem P.dep).toArray[j]?=some (Dx.at _ j)) rfl rfl rfl rfl rfl rfl (fun i hi=>?_) rfl rfl rfl rfl rfl rfl rfl rfl rfl rfl j hj;rw[Dx.reg _ i hi];have hc:i=0∨i=1∨i=2∨i=3∨i=4∨i=5∨i=6∨i=7∨i=8∨i=9∨i=10∨i=11∨i=12∨i=13∨i=14∨i=15:=by omega
 rcases hc with rfl|rfl|rfl|rfl|rfl|rfl|rfl|rfl|rfl|rfl|rfl|rfl|rfl|rfl|rfl|rfl<;>rfl
def dRow:Array Value:=madeCells (Value.cells (.int .u8 0)) 65536
theorem dRow_eq:dRow.toList=mV (fun _=>0):=by
 apply List.ext_getElem?;intro i;by_cases hi:i<65536
 ·rw[mV_at _ i hi];simp[dRow,madeCells,hi,Value.cells,Nat.mod_one]
 ·rw[List.getElem?_eq_none (by simp[dRow,madeCells,Value.cells];omega),List.getElem?_eq_none (by rw[mV_len];omega)]
theorem dinfoByte:(Tryz.prog.info? 5).map (fun i=>(i.zero,i.size,i.bytes))=some (some (.int .u8 0),1,1):=by kernel_rfl
theorem dmake (w:World):(Instr.makeSlice 94 (.int .i64 65536) (.int .i64 65536)).run Tryz.prog w=.ok (.slice (some ⟨w.heap.size,0,none⟩) 65536 65536) (w.alloc (.cells dRow 5)):=by
 obtain⟨i0,hi,hz0,hz1,hz2⟩:=T.info_parts' dinfoByte;have:=run_makeSlice (P:=Tryz.prog) w 94 5 i0 (.int .u8 0) Tryz.underlying94 hi hz0 .i64 .i64 65536 65536 (by decide) (by decide) (by rw[hz1];decide) (by rw[hz2];decide) (by decide);rw[hz1]at this;exact this
def DRw (D:Array Value):Prop:=D.toList=mV (fun _=>0)∧∀w:World,(Instr.makeSlice 94 (.int .i64 65536) (.int .i64 65536)).run Tryz.prog w=.ok (.slice (some ⟨w.heap.size,0,none⟩) 65536 65536) (w.alloc (.cells D 5))
theorem dRw:∃D,DRw D:=⟨dRow,dRow_eq,dmake⟩
theorem dmake_own (dRow:Array Value)(hR:DRw dRow)(B:Nat)(w:World)(hB:B≤w.heap.size):(w.alloc (.cells dRow 5)).ownsRow B 5 1 (.slice (some ⟨w.heap.size,0,none⟩) 65536 65536) 65536 (mV fun _=>0):=by
 refine⟨by rw[mV_len],.inr ⟨w.heap.size,65536,dRow,rfl,hB,(MapKept.heap_alloc w _).1,Nat.le_refl _,by simp[maxLen],by have:=congrArg List.length hR.1;rw[mV_len]at this;simpa using this,?_⟩⟩;rw[hR.1,List.take_of_length_le (by rw[mV_len];omega)]
theorem dbegin (dRow:Array Value)(hR:DRw dRow){B:Nat}{V:World}{l:List Ob}(hB:B≤V.heap.size)(p0 p1 i0:Option Addr)(c2 g2 i2:Nat)(mem:ByteArray)(P:Pr)(L:List Int)(hl:Sep B V (giOb B (.slice i0 L.length i2) L::l))(hi:LgIn B V i0 i2 L)(ty:TypeId):
 DIo B ((V.alloc (.cells dRow 5)).alloc (.cells (dmV p0 p1 i0 P.code.length c2 P.gates.length g2 L.length i2 V.heap.size mem P.dep).toArray ty)) (V.heap.size+1) ⟨p0,p1,c2,g2,.string mem⟩ P (zFm L (fun _=>0)) 0 0 l∧Below V.heap.size V ((V.alloc (.cells dRow 5)).alloc (.cells (dmV p0 p1 i0 P.code.length c2 P.gates.length g2 L.length i2 V.heap.size mem P.dep).toArray ty)):=by
 have b1:Below V.heap.size V (V.alloc (.cells dRow 5)):=(Below.refl _ V).alloc (Nat.le_refl _) _;have b2:Below V.heap.size V ((V.alloc (.cells dRow 5)).alloc (.cells (dmV p0 p1 i0 P.code.length c2 P.gates.length g2 L.length i2 V.heap.size mem P.dep).toArray ty)):=b1.alloc b1.size _;have b3:=(Below.refl _ (V.alloc (.cells dRow 5))).alloc (Nat.le_refl _) (.cells (dmV p0 p1 i0 P.code.length c2 P.gates.length g2 L.length i2 V.heap.size mem P.dep).toArray ty);have s1:=Z.Sep.void (Z.Sep.void hl 67 3 hB) 51 1 hB;have s2:=s1.add (rowOb B 5 1 (.slice (some ⟨V.heap.size,0,none⟩) 65536 65536) 65536 (mV fun _=>0)) (dmake_own dRow hR B V hB) (fun k q=>by have:some V.heap.size=some k:=q;injection this;omega) b1 hB;have s3:=Z.Sep.void s2 144 18 (Nat.le_trans hB b1.size);have hA:At ((V.alloc (.cells dRow 5)).alloc (.cells (dmV p0 p1 i0 P.code.length c2 P.gates.length g2 L.length i2 V.heap.size mem P.dep).toArray ty)) (V.heap.size+1) (dmV p0 p1 i0 P.code.length c2 P.gates.length g2 L.length i2 V.heap.size mem P.dep).toArray:=At.at_ _ _ _ (by simp)
 have s4:=s3.add (dbOb (V.heap.size+1) (dxOf ⟨p0,p1,c2,g2,.string mem⟩ P (zFm L (fun _=>0)) ⟨.slice none 0 0,.slice (some ⟨V.heap.size,0,none⟩) 65536 65536,.slice i0 L.length i2,.slice none 0 0,.slice none 0 0⟩ 0 0)) (dm_bx hA) (fun k q=>by have:k=V.heap.size+1:=q;simp;omega) b3 (Nat.le_trans hB b1.size);exact⟨⟨⟨⟨.slice none 0 0,.slice (some ⟨V.heap.size,0,none⟩) 65536 65536,.slice i0 L.length i2,.slice none 0 0,.slice none 0 0⟩,s4,i0,i2,rfl,hi.below (b2.mono hB)⟩,Nat.le_trans hB b2.size⟩,b2⟩
def zFg:Fg:=⟨0,0,0,fun _=>0⟩
theorem ent_args (g:Fg)(n:Nat)(A:Nat→Int):entR g n (fun j=>entR zFg n A (j+1))=entR g n A:=by
 funext k
 unfold entR;by_cases h:1≤k∧k≤n
 ·rw[if_pos h,if_pos h];show(if 1≤k - 1+1∧k - 1+1≤n then A (k - 1+1 - 1)else zFg.r (k - 1+1))=A (k - 1);rw[if_pos (by omega),Nat.add_sub_cancel]
 ·rw[if_neg h,if_neg h]
end Z
end Go.Proofs.YtdidjhillmgccaaGreat
