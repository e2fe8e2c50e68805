import Derived.Test.YtdidjhillmgccaaGreatP24
import Derived.Test.YtdidjhillmgccaaGreatP23
import Derived.Test.YtdidjhillmgccaaGreatZTwM
import Derived.Test.YtdidjhillmgccaaGreatP22
namespace Go.Proofs.YtdidjhillmgccaaGreat
namespace Z
open Go.RowKit
open T (Sep Ob Kp Mf FlIn boxOb)
theorem wp_append_zz {o:Oper}{a:Act}{K:Act→World→Prop}{Q:Exit→Act→World→Prop}{w:World}(s x:Operand)(t e:TypeId)(z:Value)(size bytes:Nat)
 (ho:o.op=.call {callee:=.builtin .append,args:=#[s,x],argTypes:=#[t,t]})(ht:Tryz.prog.underlying t=some (.slice e))
 (hi:(Tryz.prog.info? e).map (fun i=>(i.zero,i.size,i.bytes))=some (some z,size,bytes))(hz:z.cells.size=size)(hsz:0<size)(hby:bytes≤2048)
 (base:Nat)(v:Value)(n:Nat)(xs cs:List Value)(hs:a.eval s=v)(hown:w.ownsRow base e size v n xs)(X:Nat)(hx:a.eval x=.slice (some ⟨X,0,none⟩) 1 1)(hX:At w X cs.toArray)(hc:cs.length=size)(h1:∀u∈cs,u.oneCell'=true)
 (hlen:n≤2000000)(hbase:base≤w.heap.size)
 (h:∀g cap w',w'.ownsRow base e size (.slice (some ⟨g,0,none⟩) (n+1) cap) (n+1) (xs++cs)→w.grownBy w' v.ownBlock→(v.ownBlock=some g∨g=w.heap.size)→K (a.put o.dst (.slice (some ⟨g,0,none⟩) (n+1) cap)) w'):o.wp Tryz.prog a w K Q:=by
 obtain⟨i0,hi0,hz0,hz1,hz2⟩:=T.info_parts' hi;have hb:(n+1)*bytes≤140737488355328:=Nat.le_trans (Nat.mul_le_mul_left _ hby) (by omega);have hn:∀j u,cs[j]?=some u→w.cell? ((⟨X,0,none⟩:Addr).add j)=some u:=by
  intro j u hj;rw[addr_addZ,Nat.zero_add,hX.2.1];simpa using hj
 refine wp_append_lies _ s x t ho base e i0 z size bytes ht hi0 hz0 hz1 hz2 hz hsz v n xs hs hown ⟨X,0,none⟩ 1 1 cs hx (by omega) hn h1 (by decide) (by unfold maxLen;omega) hb hbase _ rfl ?_;intro g cap w' k1 k2 k3 _;exact h g cap w' k1 k2 k3
theorem ein_fin {α:Type}{k:Nat}{vals:α→List Value}(hv:∀x,(vals x).length=k){w w1:World}{a:Option Addr}{L:List α}(h:T.EIn k vals w a L)(hb:Below w.heap.size w w1):FInZ k vals w1 a L:=fun i hi=>by
 obtain⟨b,off,e1,e2,e3⟩:=h i hi;refine⟨b,off,e1,fun j hj=>?_⟩;have hj2:j<(vals L[i]).length:=by rw[hv];exact hj
 rw[List.getElem?_eq_getElem hj2,T.cell_of_block (hb.block b e2)];exact e3 j _ (List.getElem?_eq_getElem hj2)
theorem ri_len (i:Ri):i.vals.length=5:=rfl
theorem ri_one (i:Ri):∀v∈i.vals,v.oneCell'=true:=fun v hv=>by
 simp only[Ri.vals,List.mem_cons,List.not_mem_nil,or_false]at hv;rcases hv with rfl|rfl|rfl|rfl|rfl<;>rfl
theorem rg_one (g:Rg):∀v∈g.vals,v.oneCell'=true:=fun v hv=>by
 simp only[Rg.vals,List.mem_cons]at hv;rcases hv with rfl|rfl|rfl|hv
 ·rfl
 ·rfl
 ·rfl
 ·exact regs_one g.r v hv
def riZ:Ri:=⟨0,0,0,0,0⟩
def rgZ:Rg:=⟨0,0,0,fun _=>0⟩
theorem w8Z (n:Nat)(h:n≤2000000):wrap64 ((n:Int)+8)=(n:Int)+8:=by unfold wrap64;omega
theorem results_row2 {fn:Func}{p t:Tmp}{ty:TypeId}{v u:Value}{a:Addr}(h:fn.results=#[.cell p ty,.tmp t])(tmps:Array Value)(w:World)(ht:tmps.getD p undef=.pointer (some a))(hu:tmps.getD t undef=u)(hl:(loadVar ty a).run Tryz.prog w=.ok v w):
 (results fn tmps).run Tryz.prog w=.ok (.tuple #[v,u]) w:=by
 have ht':tmps[p]?.getD undef=.pointer (some a):=by simpa using ht
 have hu':tmps[t]?.getD undef=u:=by simpa using hu
 simp[results,h,ht',hu',asAddr,hl]
theorem own_grZ {w w1:World}{lo e s n:Nat}{v:Value}{xs:List Value}(h:w.ownsRow lo e s v n xs)(q:Gr w w1):w1.ownsRow lo e s v n xs:=own_keep (S1:=fun _=>False) h (Kp.of_below q.below) (fun _ _ r=>r)
theorem own_setZ {w:World}{lo e s n g j:Nat}{v:Value}{xs:List Value}(h:w.ownsRow lo e s v n xs)(u:Value)(hd:v.ownBlock≠some g):(w.setCell ⟨g,j,none⟩ u).ownsRow lo e s v n xs:=own_keep (S1:=fun b=>b=g) h (Kp.set (S:=fun b=>b=g) w ⟨g,j,none⟩ u rfl) (fun _ r e=>hd (e▸r))
theorem at_below {W W':World}{B k:Nat}{cs:Array Value}(h:At W k cs)(q:Below B W W')(hk:k<B):At W' k cs:=
 ⟨Nat.lt_of_lt_of_le h.1 q.size,fun j=>(T.cell_of_block (q.block k hk) j).trans (h.2.1 j),fun j=>(T.frozen_of_block (q.block k hk) j).trans (h.2.2 j)⟩
theorem RpIn.below_ {w W:World}{ca ga:Option Addr}{R:Rp}(h:RpIn w ca ga R)(g:Below w.heap.size w W):RpIn W ca ga R:=by
 refine⟨fun k hk=>?_,fun k hk=>?_⟩
 ·obtain⟨b,off,ra,rc,e1,e2,e3,e4⟩:=h.code k hk;exact⟨b,off,ra,rc,e1,Nat.lt_of_lt_of_le e2 g.size,(T.cell_of_block (g.block b e2) _).trans e3,e4.below g⟩
 ·obtain⟨b,off,e1,e2,e3⟩:=h.gate k hk;exact⟨b,off,e1,Nat.lt_of_lt_of_le e2 g.size,fun i v q=>(T.cell_of_block (g.block b e2) _).trans (e3 i v q)⟩
theorem gate_ein {w:World}{ca ga:Option Addr}{R:Rp}(h:RpIn w ca ga R):T.EIn 19 Rg.vals w ga R.gates:=fun i hi=>by
 obtain⟨b,off,e1,e2,e3⟩:=h.gate i hi;exact⟨b,off,e1,e2,e3⟩
end Z
set_option maxRecDepth 100000
set_option maxHeartbeats 40000000
namespace Z
open Go.RowKit
open T (Sep Ob Kp Mf FlIn boxOb)
def xg:Fg:=⟨0,0,0,fun _=>0⟩
def xL:List Fi:=[⟨1,1,0,0,5⟩,⟨62,1,8,0,3⟩,⟨60,2,8,0,3⟩,⟨27,2,0,0,0⟩]
def xP:Pr:=⟨[xL],[xg],1⟩
def x0:Fm:=start xg 0 0 (fun _=>0) [] []
def x1:Fm:={x0 with r:=updR x0.r 1 5,p:=x0.p+1}
def x2:Fm:={x1 with tc:=x1.tc++[⟨true,IntKind.u64.wrap (x1.r 8+3),1⟩],m:=T.stB x1.m (IntKind.u64.wrap (x1.r 8+3)).toNat 1 (x1.r 1).toNat,p:=x1.p+1}
def x3:Fm:={x2 with tc:=x2.tc++[⟨false,IntKind.u64.wrap (x2.r 8+3),1⟩],r:=updR x2.r 2 (T.ldV x2.m (IntKind.u64.wrap (x2.r 8+3)).toNat 1:Nat),p:=x2.p+1}
def x4:Fm:={x3 with e:=1,v:=x3.r 2,f:=0}
def xf:Nat→Fm
 |0=>x0
 |1=>x1
 |2=>x2
 |3=>x3
 |_=>x4
theorem x01:Goes xP x0 x1:=goes_of ⟨1,1,0,0,5⟩ (by decide) (by decide) rfl (.inl ⟨by decide,by decide⟩) (fun B V a l h=>h.onBox (s':=x1) ⟨rfl,rfl,rfl,rfl,rfl⟩ (fun q hb=>li_op a _ ⟨1,1,0,0,5⟩ V hb (by decide) (show x0.p≤1000000 by decide)))
theorem x12:Goes xP x1 x2:=goes_of ⟨62,1,8,0,3⟩ (by decide) (by decide) rfl (.inr (.inr (.inr (.inl ⟨by decide,by decide⟩)))) (fun B V a l h=>storeByte_ok B V a xP x1 l ⟨62,1,8,0,3⟩ h (by decide) (by decide) (by decide) (by decide) (by decide) (by decide))
theorem x23:Goes xP x2 x3:=goes_of ⟨60,2,8,0,3⟩ (by decide) (by decide) rfl (.inr (.inr (.inr (.inl ⟨by decide,by decide⟩)))) (fun B V a l h=>loadByte_ok B V a xP x2 l ⟨60,2,8,0,3⟩ h (by decide) (by decide) (by decide) (by decide) (by decide))
theorem x34:Goes xP x3 x4:=goes_of ⟨27,2,0,0,0⟩ (by decide) (by decide) rfl (.inr (.inr (.inl ⟨by decide,by decide⟩))) (fun B V a l h=>h.onBox (s':=x4) ⟨rfl,rfl,rfl,rfl,rfl⟩ (fun q hb=>halt_op a _ ⟨27,2,0,0,0⟩ V hb (by decide)))
theorem x4v:x4.v=5:=by decide
theorem x4t:x4.tc=[⟨true,3,1⟩,⟨false,3,1⟩]:=by
 have e:IntKind.u64.wrap (x1.r 8+3)=3∧IntKind.u64.wrap (x2.r 8+3)=3:=by decide
 show([]++[(⟨true,IntKind.u64.wrap (x1.r 8+3),1⟩:Tc)])++[⟨false,IntKind.u64.wrap (x2.r 8+3),1⟩]=_;rw[e.1,e.2]
 rfl
theorem xOk:xP.Ok:=by
 refine⟨⟨by decide,by decide⟩,rfl,⟨by decide,by decide⟩,fun r hr=>?_,fun k h h2=>?_⟩
 ·obtain rfl:r=xL:=by simpa [xP]using hr
  refine⟨⟨by decide,by decide⟩,fun i hi=>?_⟩;simp only[xL,List.mem_cons,List.not_mem_nil,or_false]at hi;rcases hi with rfl|rfl|rfl|rfl
  ·exact⟨.inl ⟨by decide,by decide⟩,by decide,by decide,.inl (by decide),⟨by decide,by decide⟩,fun h=>by simp at h,fun h=>by simp at h⟩
  ·exact⟨.inr (.inr (.inr (.inl ⟨by decide,by decide⟩))),by decide,by decide,.inl (by decide),⟨by decide,by decide⟩,fun h=>by simp at h,fun h=>by simp at h⟩
  ·exact⟨.inr (.inr (.inr (.inl ⟨by decide,by decide⟩))),by decide,by decide,.inl (by decide),⟨by decide,by decide⟩,fun h=>by simp at h,fun h=>by simp at h⟩
  ·exact⟨.inr (.inr (.inl ⟨by decide,by decide⟩)),by decide,by decide,.inl (by decide),⟨by decide,by decide⟩,fun h=>by simp at h,fun h=>by simp at h⟩
 ·obtain rfl:k=0:=by have:k<1:=h;omega
  exact⟨show xg.e<xL.length by decide,show xg.a≤7 by decide,show xg.s≤7 by decide⟩
theorem run10 (B:Nat)(W:World)(a:Nat)(l:List Ob)(h:MIn B W a xP x0 l):Calls Tryz.prog 14 #[.pointer (some ⟨a,0,none⟩),.int .i64 10] W fun x w'=>x=.returned (.agg #[.int .i64 1,.int .u64 5,.int .i64 0,.int .i64 0,.int .i64 3])∧MIn B w' a xP x4 l∧Below B W w':=by
 have r:=run_end B W a xP l 10 4 xf h (by decide) (fun k hk=>by match k,hk with|0,_=>rfl|1,_=>rfl|2,_=>rfl|3,_=>rfl) (fun k hk=>by match k,hk with|0,_=>exact x01|1,_=>exact x12|2,_=>exact x23|3,_=>exact x34) (.inr (by decide)) (by decide) (by decide);simp only[show xf 4=x4 from rfl,x4v,show x4.e=1 from rfl,show x4.f=0 from rfl,show x4.g=0 from rfl,show x4.p=3 from rfl,Int.cast_ofNat_Int]at r;exact r
theorem one_any (b:Nat)(w:World):Calls Tryz.prog 11 #[.slice (some ⟨b,0,none⟩) 4 4] w fun x w'=>x=.returned (.agg (List.toArray [Value.slice (some ⟨w.heap.size+1,0,none⟩) 1 1,.slice (some ⟨w.heap.size+1+1,0,none⟩) 1 1,.string ⟨#[]⟩,.int .i64 1]))∧Gr w w'∧w.heap.size+1+1<w'.heap.size∧w'.cell? ⟨w.heap.size+1,0,none⟩=some (.slice (some ⟨b,0,none⟩) 4 4)∧w'.rangeAt (w.heap.size+1+1) 0 xg.vals:=by
 have g3:Gr w (((w.alloc (.cells (List.toArray [Value.slice (some ⟨w.heap.size+1,0,none⟩) 1 1,.slice (some ⟨w.heap.size+1+1,0,none⟩) 1 1,.string ⟨#[]⟩,.int .i64 1]) 25)).alloc (.cells #[.slice (some ⟨b,0,none⟩) 4 4] 54)).alloc (.cells (List.toArray [Value.int .i64 0,.int .i64 0,.int .i64 0,.int .u64 0,.int .u64 0,.int .u64 0,.int .u64 0,.int .u64 0,.int .u64 0,.int .u64 0,.int .u64 0,.int .u64 0,.int .u64 0,.int .u64 0,.int .u64 0,.int .u64 0,.int .u64 0,.int .u64 0,.int .u64 0]) 70)):=(((Gr.refl w).alloc _).alloc _).alloc _;have hA:At (((w.alloc (.cells (List.toArray [Value.slice (some ⟨w.heap.size+1,0,none⟩) 1 1,.slice (some ⟨w.heap.size+1+1,0,none⟩) 1 1,.string ⟨#[]⟩,.int .i64 1]) 25)).alloc (.cells #[.slice (some ⟨b,0,none⟩) 4 4] 54)).alloc (.cells (List.toArray [Value.int .i64 0,.int .i64 0,.int .i64 0,.int .u64 0,.int .u64 0,.int .u64 0,.int .u64 0,.int .u64 0,.int .u64 0,.int .u64 0,.int .u64 0,.int .u64 0,.int .u64 0,.int .u64 0,.int .u64 0,.int .u64 0,.int .u64 0,.int .u64 0,.int .u64 0]) 70)) w.heap.size (List.toArray [Value.slice (some ⟨w.heap.size+1,0,none⟩) 1 1,.slice (some ⟨w.heap.size+1+1,0,none⟩) 1 1,.string ⟨#[]⟩,.int .i64 1]):=((At.new w _ _).alloc _).alloc _
 have e1:(w.alloc (.cells (List.toArray [Value.slice (some ⟨w.heap.size+1,0,none⟩) 1 1,.slice (some ⟨w.heap.size+1+1,0,none⟩) 1 1,.string ⟨#[]⟩,.int .i64 1]) 25)).heap.size=w.heap.size+1:=by simp
 have e2:((w.alloc (.cells (List.toArray [Value.slice (some ⟨w.heap.size+1,0,none⟩) 1 1,.slice (some ⟨w.heap.size+1+1,0,none⟩) 1 1,.string ⟨#[]⟩,.int .i64 1]) 25)).alloc (.cells #[.slice (some ⟨b,0,none⟩) 4 4] 54)).heap.size=w.heap.size+1+1:=by simp
 have hB:=(At.new (w.alloc (.cells (List.toArray [Value.slice (some ⟨w.heap.size+1,0,none⟩) 1 1,.slice (some ⟨w.heap.size+1+1,0,none⟩) 1 1,.string ⟨#[]⟩,.int .i64 1]) 25)) #[.slice (some ⟨b,0,none⟩) 4 4] 54).alloc (.cells (List.toArray [Value.int .i64 0,.int .i64 0,.int .i64 0,.int .u64 0,.int .u64 0,.int .u64 0,.int .u64 0,.int .u64 0,.int .u64 0,.int .u64 0,.int .u64 0,.int .u64 0,.int .u64 0,.int .u64 0,.int .u64 0,.int .u64 0,.int .u64 0,.int .u64 0,.int .u64 0]) 70);have hC:=At.new ((w.alloc (.cells (List.toArray [Value.slice (some ⟨w.heap.size+1,0,none⟩) 1 1,.slice (some ⟨w.heap.size+1+1,0,none⟩) 1 1,.string ⟨#[]⟩,.int .i64 1]) 25)).alloc (.cells #[.slice (some ⟨b,0,none⟩) 4 4] 54)) (List.toArray [Value.int .i64 0,.int .i64 0,.int .i64 0,.int .u64 0,.int .u64 0,.int .u64 0,.int .u64 0,.int .u64 0,.int .u64 0,.int .u64 0,.int .u64 0,.int .u64 0,.int .u64 0,.int .u64 0,.int .u64 0,.int .u64 0,.int .u64 0,.int .u64 0,.int .u64 0]) 70
 rw[e1]at hB;rw[e2]at hC;have hB0:=hB.2.1 0;have hC0:=hC.range;have hC1:=hC.1;have hrun:=ζ (run_loadVar_mid (P:=Tryz.prog) (((w.alloc (.cells (List.toArray [Value.slice (some ⟨w.heap.size+1,0,none⟩) 1 1,.slice (some ⟨w.heap.size+1+1,0,none⟩) 1 1,.string ⟨#[]⟩,.int .i64 1]) 25)).alloc (.cells #[.slice (some ⟨b,0,none⟩) 4 4] 54)).alloc (.cells (List.toArray [Value.int .i64 0,.int .i64 0,.int .i64 0,.int .u64 0,.int .u64 0,.int .u64 0,.int .u64 0,.int .u64 0,.int .u64 0,.int .u64 0,.int .u64 0,.int .u64 0,.int .u64 0,.int .u64 0,.int .u64 0,.int .u64 0,.int .u64 0,.int .u64 0,.int .u64 0]) 70)) w.heap.size 0 25 [Value.slice (some ⟨w.heap.size+1,0,none⟩) 1 1,.slice (some ⟨w.heap.size+1+1,0,none⟩) 1 1,.string ⟨#[]⟩,.int .i64 1] _ hA.range Tryz.underlying25 rfl (by kernel_rfl));replace g3:=ζ g3;replace hB0:=ζ hB0;replace hC0:=ζ hC0;replace hC1:=ζ hC1;clear hA hB hC e1 e2;go_enter Tryz.func11,Tryz.ntmps11
 go_wp2_with fail;refine bodyPost_ret (v:=.agg (List.toArray [Value.slice (some ⟨w.heap.size+1,0,none⟩) 1 1,.slice (some ⟨w.heap.size+1+1,0,none⟩) 1 1,.string ⟨#[]⟩,.int .i64 1])) ?_ rfl ⟨rfl,g3.out,hC1.out,hB0.out,hC0.out⟩;exact results_rowZ Tryz.results11 _ _ rfl hrun.out
theorem own_at {w:World}{lo e k n:Nat}{v:Value}{xs:List Value}(h:w.ownsRow lo e k v n xs)(h0:0<n):∃g cap,v=.slice (some ⟨g,0,none⟩) n cap∧g<w.heap.size∧∀j u,xs[j]?=some u→w.cell? ⟨g,j,none⟩=some u:=by
 have hlt:=h.lt;rcases h.2 with⟨_,h9⟩|⟨g,cap,cur,rfl,hb,hg,hc1,hc2,hc3,hc4⟩
 ·omega
 ·refine⟨g,cap,rfl,(hlt g rfl).2,fun j u q=>?_⟩;have hj:j<n*k:=by have:=(List.getElem?_eq_some_iff.1 q).1;rwa [h.1]at this
  rw[←hc4,List.getElem?_take_of_lt hj]at q;have:w.cell? ⟨g,j,none⟩=cur[j]?:=by simp[World.cell?,hg]
  rw[this,←q];simp
theorem num_any (n:Int)(w:World):Calls Tryz.prog 13 #[.int .i64 n] w fun x w'=>x=.returned (.int .i64 n)∧w'=w:=by
 go_enter Tryz.func13,Tryz.ntmps13;go_wp2_with fail;go_ret;exact⟨rfl,rfl⟩
theorem xRw {W:World}{kr kc kg:Nat}(h1:At W kr (xL.flatMap Fi.vals).toArray)(h2:W.cell? ⟨kc,0,none⟩=some (.slice (some ⟨kr,0,none⟩) 4 4))(h3:kc<W.heap.size)(h4:W.rangeAt kg 0 xg.vals)(h5:kg<W.heap.size):RwIn W (some ⟨kc,0,none⟩) (some ⟨kg,0,none⟩) xP:=by
 refine⟨fun k hk=>?_,fun k hk=>?_⟩
 ·obtain rfl:k=0:=by have:k<1:=hk;omega
  refine⟨kc,0,some ⟨kr,0,none⟩,4,rfl,h3,h2,fun i hi=>⟨kr,0,rfl,h1.1,fun j v q=>?_⟩⟩;have hv:∀x:Fi,x.vals.length=5:=fun _=>rfl
  have hj:j<5:=by have:=(List.getElem?_eq_some_iff.1 q).1;rwa [hv]at this
  rw[h1.2.1,List.getElem?_toArray,Nat.zero_add,flat_at' hv xL i hi j hj];exact q
 ·obtain rfl:k=0:=by have:k<1:=hk;omega
  exact⟨kg,0,rfl,h5,h4⟩
theorem examples_any (w:World):Calls Tryz.prog 4 #[] w fun x w'=>x=.returned (.bool true)∧Below w.heap.size w w':=by
 have hA0:=At.new w #[.int .u8 1,.int .i64 1,.int .i64 0,.int .i64 0,.int .u64 5,.int .u8 62,.int .i64 1,.int .i64 8,.int .i64 0,.int .u64 3,.int .u8 60,.int .i64 2,.int .i64 8,.int .i64 0,.int .u64 3,.int .u8 27,.int .i64 2,.int .i64 0,.int .i64 0,.int .u64 0] 53;have gA:Gr w (w.alloc (.cells #[.int .u8 1,.int .i64 1,.int .i64 0,.int .i64 0,.int .u64 5,.int .u8 62,.int .i64 1,.int .i64 8,.int .i64 0,.int .u64 3,.int .u8 60,.int .i64 2,.int .i64 8,.int .i64 0,.int .u64 3,.int .u8 27,.int .i64 2,.int .i64 0,.int .i64 0,.int .u64 0] 53)):=(Gr.refl w).alloc _;replace hA0:=ζ hA0;go_enter Tryz.func4,Tryz.ntmps4;go_wp2_with fail;generalize hW1:w.alloc (.cells #[.int .u8 1,.int .i64 1,.int .i64 0,.int .i64 0,.int .u64 5,.int .u8 62,.int .i64 1,.int .i64 8,.int .i64 0,.int .u64 3,.int .u8 60,.int .i64 2,.int .i64 8,.int .i64 0,.int .u64 3,.int .u8 27,.int .i64 2,.int .i64 0,.int .i64 0,.int .u64 0] 53)=W1 at*
 clear hW1;refine(one_any w.heap.size W1).mono ?_;rintro r W2 ⟨rfl,g2,hs2,c2,r2⟩;have hA2:=ζ (hA0.out.gr g2);have hs1:W1.heap.size+1<W2.heap.size:=by omega
 have hR2:Hz (RwIn W2 (some ⟨W1.heap.size+1,0,none⟩) (some ⟨W1.heap.size+1+1,0,none⟩) xP):=ζ (xRw hA2.out c2 hs1 r2 hs2);have G2:=gA.trans g2;clear hA0 gA g2 c2 r2 hA2;generalize W1.heap.size+1+1=kg at*;generalize W1.heap.size+1=kc at*;clear W1 hs1 hs2;go_upto_region 2 with fail
 refine wp_world (fun X=>At X W2.heap.size #[.slice (some ⟨kc,0,none⟩) 1 1,.slice (some ⟨kg,0,none⟩) 1 1,.string ⟨#[]⟩,.int .i64 1]∧Gr W2 X) ⟨At.new W2 _ _,(Gr.refl _).alloc _⟩ ?_;rintro W3 ⟨hA3,g3⟩;replace hR2:=ζ (hR2.out.gr g3);replace G2:=G2.trans g3;have d0:W3.cell? ⟨W2.heap.size,0,none⟩=some (.slice (some ⟨kc,0,none⟩) 1 1):=hA3.2.1 0;have d1:W3.cell? ⟨W2.heap.size,1,none⟩=some (.slice (some ⟨kg,0,none⟩) 1 1):=hA3.2.1 1;have d2:W3.cell? ⟨W2.heap.size,2,none⟩=some (.string ⟨#[]⟩):=hA3.2.1 2;have d3:W3.cell? ⟨W2.heap.size,3,none⟩=some (.int .i64 1):=hA3.2.1 3;have hnw:Hz (Calls Tryz.prog 12 #[.agg #[.slice (some ⟨kc,0,none⟩) 1 1,.slice (some ⟨kg,0,none⟩) 1 1,.string ⟨#[]⟩,.int .i64 1],.int .i64 0,.slice none 0 0,.slice none 0 0] W3 fun x w'=>∃a,x=.returned (.tuple #[.pointer (some ⟨a,0,none⟩),.int .i64 0])∧MIn W3.heap.size w' a xP x0 []∧Below W3.heap.size W3 w'):=ζ (new_ok xP (some ⟨kc,0,none⟩) (some ⟨kg,0,none⟩) 1 1 [] 0 none 0 0 (fun _=>0) none 0 [] W3 hR2.out xOk (by decide) (by decide) rfl (.inl rfl) (by decide) (.inl ⟨rfl,rfl,rfl⟩))
 replace hA3:=ζ hA3;go_wp2_with fail;refine hnw.out.mono ?_;rintro r W4 ⟨a,rfl,hM,hB4⟩;clear d0 d1 d2 d3 hnw hR2 hA3;have hB:Hz (Below w.heap.size w W4):=ζ (G2.below.trans (hB4.mono G2.below.size));have hlo:=hM.le;have hn3:w.heap.size≤W3.heap.size:=G2.below.size;replace hM:=ζ hM;clear G2 hB4 g3;go_wp2_with fail;refine(num_any 0 W4).mono ?_;rintro r W5 ⟨rfl,e1⟩;subst e1;have hrn:=ζ (run10 _ W5 a _ hM.out);go_wp2_with fail;refine hrn.out.mono ?_;rintro r W6 ⟨rfl,h6,hB6⟩;replace h6:=ζ h6;clear hM hrn;replace hB:=ζ (hB.out.trans (hB6.mono hn3));clear hB6;go_upto_region 6 with fail
 refine wp_world (fun X=>At X W6.heap.size #[.int .i64 1,.int .u64 5,.int .i64 0,.int .i64 0,.int .i64 3]∧Gr W6 X) ⟨At.new W6 _ _,(Gr.refl _).alloc _⟩ ?_;rintro W7 ⟨hA7,g7⟩;replace h6:=ζ (h6.out.gro g7);replace hB:=ζ (hB.out.trans (g7.below.mono hB.out.size));generalize W6.heap.size=ko at*;have ht:=touches_any _ W7 a xP x4 _ h6.out (by rw[x4t];decide);rw[x4t]at ht;replace ht:=ζ ht;replace hA7:=ζ hA7;clear g7;go_wp2_with fail;refine ht.out.mono ?_;rintro r W8 ⟨v,rfl,hO,hB8⟩;have hA8:=T.at_below hA7.out hB8 hA7.out.1;obtain⟨g,cap,e9,hg1,hc9⟩:=own_at hO (by decide);subst e9;replace hB:=ζ (hB.out.trans (hB8.mono hB.out.size));have c0:W8.cell? ⟨ko,0,none⟩=some (.int .i64 1):=hA8.2.1 0;have c1:W8.cell? ⟨ko,1,none⟩=some (.int .u64 5):=hA8.2.1 1;have c2:W8.cell? ⟨ko,2,none⟩=some (.int .i64 0):=hA8.2.1 2;have c3:W8.cell? ⟨ko,3,none⟩=some (.int .i64 0):=hA8.2.1 3;have c4:W8.cell? ⟨ko,4,none⟩=some (.int .i64 3):=hA8.2.1 4
 have t0:W8.cell? ⟨g,0,none⟩=some (.bool true):=hc9 0 _ rfl;have t1:W8.cell? ⟨g,1,none⟩=some (.int .u64 3):=hc9 1 _ rfl;have t2:W8.cell? ⟨g,2,none⟩=some (.int .u64 1):=hc9 2 _ rfl;have t3:W8.cell? ⟨g,3,none⟩=some (.bool false):=hc9 3 _ rfl;have t4:W8.cell? ⟨g,4,none⟩=some (.int .u64 3):=hc9 4 _ rfl;have t5:W8.cell? ⟨g,5,none⟩=some (.int .u64 1):=hc9 5 _ rfl;clear hA7 hA8 hO hc9 ht h6 hB8;go_wp2_with fail;go_ret;exact⟨rfl,hB.out⟩
def InL (w:World)(ia:Option Addr)(ic:Nat)(L:List Int):Prop:=(ia=none∧L=[]∧ic=0)∨∃b off,ia=some ⟨b,off,none⟩∧b<w.heap.size∧∀i (h:i<L.length),w.cell? ⟨b,off+i,none⟩=some (.int .u64 L[i])
theorem InL.below {w W:World}{ia:Option Addr}{ic:Nat}{L:List Int}(h:InL w ia ic L)(g:Below w.heap.size w W):InL W ia ic L:=by
 rcases h with h|⟨b,off,e1,e2,e3⟩
 ·exact .inl h
 ·exact .inr ⟨b,off,e1,Nat.lt_of_lt_of_le e2 g.size,fun i hi=>(T.cell_of_block (g.block b e2) _).trans (e3 i hi)⟩
theorem WIn.below {w W:World}{a:Option Addr}{L:List Int}(h:WIn w a L)(g:Below w.heap.size w W):WIn W a L:=fun i hi=>by
 obtain⟨b,off,e1,e2,e3⟩:=h i hi;exact⟨b,off,e1,Nat.lt_of_lt_of_le e2 g.size,(T.cell_of_block (g.block b e2) _).trans e3⟩
theorem InL.win {w:World}{ia:Option Addr}{ic:Nat}{L:List Int}(h:InL w ia ic L):WIn w ia L:=fun i hi=>by
 rcases h with⟨_,rfl,_⟩|⟨b,off,e1,e2,e3⟩
 ·exact absurd hi (Nat.not_lt_zero i)
 ·exact⟨b,off,e1,e2,e3 i hi⟩
def srcA (L:List Int)(j:Nat):Int:=L.getD j 0
theorem ent_n (a:Int):∃n:Nat,n≤20∧((n:Int)=a∨(a<0∧n=0)∨(20<a∧n=20)):=by
 by_cases h:a<0
 ·exact⟨0,by omega,.inr (.inl ⟨h,rfl⟩)⟩
 ·by_cases h2:20<a
  ·exact⟨20,by omega,.inr (.inr ⟨h2,rfl⟩)⟩
  ·exact⟨a.toNat,by omega,.inl (by omega)⟩
theorem own_win {w:World}{lo n:Nat}{v:Value}{L:List Int}(h:w.ownsRow lo 51 1 v n (L.map u64I))(hn:n=L.length):∃a c,v=.slice a L.length c∧WIn w a L:=by
 obtain⟨a,c,e⟩:=own_slZ h;subst hn;refine⟨a,c,e,fun i hi=>?_⟩;obtain⟨g,cap,e2,hg,hc⟩:=own_at h (by omega);rw[e]at e2;injection e2 with e3;refine⟨g,0,e3,hg,?_⟩;rw[Nat.zero_add];refine hc i _ ?_;simp[u64I,hi]
theorem own_tin {w:World}{lo n:Nat}{v:Value}{L:List Tc}(h:w.ownsRow lo 67 3 v n (L.flatMap Tc.vals))(hn:n=L.length):∃a c,v=.slice a L.length c∧T.EIn 3 Tc.vals w a L:=by
 obtain⟨a,c,e⟩:=own_slZ h;subst hn;refine⟨a,c,e,fun i hi=>?_⟩;obtain⟨g,cap,e2,hg,hc⟩:=own_at h (by omega);rw[e]at e2;injection e2 with e3;refine⟨g,0,e3,hg,fun j u hj=>?_⟩;rw[Nat.zero_add];refine hc _ _ ?_;have hj3:j<3:=by
  have:=(List.getElem?_eq_some_iff.1 hj).1;exact this
 rw[flat_at' (k:=3) (fun _=>rfl) L i hi j hj3];exact hj
theorem sameW_self (A:List Int)(sa sb:Option Addr)(ca cb:Nat)(w:World)(hA:WIn w sa A)(hB:WIn w sb A)(hl:A.length≤1000000):
 Calls Tryz.prog 32 #[.slice sa A.length ca,.slice sb A.length cb] w fun x w'=>x=.returned (.bool true)∧Gr w w':=by
 refine(sameWords_any A A sa sb ca cb w hA hB hl).mono ?_;rintro x w' ⟨⟨b,rfl,h1⟩,h2⟩;rw[h1.2 rfl];exact⟨rfl,h2⟩
theorem sameT_self (A:List Tc)(sa sb:Option Addr)(ca cb:Nat)(w:World)(hA:T.EIn 3 Tc.vals w sa A)(hB:T.EIn 3 Tc.vals w sb A)(hl:A.length≤1000000):
 Calls Tryz.prog 34 #[.slice sa A.length ca,.slice sb A.length cb] w fun x w'=>x=.returned (.bool true)∧Gr w w':=by
 refine(sameTouches_any A A sa sb ca cb w hA hB hl).mono ?_;rintro x w' ⟨⟨b,rfl,h1⟩,h2⟩;rw[h1.2 rfl];exact⟨rfl,h2⟩
theorem step_oc (P:Pr)(ok:P.Ok)(rr:P.Rr)(s:Fm)(c:Nat)(hs:s.Okn P c)(hn:c+1≤1000000)(t:Fm)(ht:stepsM P s 1=t)(B:Nat)(W:World)(a:Nat)(l:List Ob)(h:MIn B W a P s l):
 Calls Tryz.prog 28 #[.pointer (some ⟨a,0,none⟩)] W fun x w'=>x=.returned (.agg #[.int .i64 t.e,.int .u64 t.v,.int .i64 t.f,.int .i64 t.g,.int .i64 t.p])∧MIn B w' a P t l∧Below B W w':=by
 rw[←ht];exact step_op P ok rr s c hs hn B W a l h
theorem okn_runM (P:Pr)(ok:P.Ok)(rr:P.Rr)(s:Fm)(n:Nat)(hs:s.Okn P n)(k:Nat):(runM P s k).Okn P (n+k):=by
 have h:=okn_stepsM P ok rr s n hs k;unfold runM
 split
 ·exact h.end 4 0 wd0
 ·exact h
theorem oc_eq5 (e v f g p:Int)(W:World):(binOp .eql 62 (.agg #[.int .i64 e,.int .u64 v,.int .i64 f,.int .i64 g,.int .i64 p]) (.agg #[.int .i64 e,.int .u64 v,.int .i64 f,.int .i64 g,.int .i64 p])).run Tryz.prog W=.ok (.bool true) W:=by simp[go_sem]
structure Bgn (w:World)(R:Rp)(ca ga:Option Addr)(mem:List UInt8)(A:List Int)(sa:Option Addr)(ia:Option Addr)(ic:Nat)(L:List Int):Prop where
 hP:RpIn w ca ga R
 wd:R.Wds
 hA:WIn w sa A
 Aw:∀x∈A,Wd x
 hI:InL w ia ic L
 Lw:∀x∈L,Wd x
 c:R.code.length≤1500000
 r:∀r∈R.code,r.length≤2000000
 g:R.gates.length≤2000000
 l:L.length≤2000000
theorem Bgn.below {w W:World}{R:Rp}{ca ga:Option Addr}{mem:List UInt8}{A:List Int}{sa:Option Addr}{ia:Option Addr}{ic:Nat}{L:List Int}(h:Bgn w R ca ga mem A sa ia ic L)(q:Below w.heap.size w W):Bgn W R ca ga mem A sa ia ic L:=
 ⟨h.hP.below_ q,h.wd,h.hA.below q,h.Aw,h.hI.below q,h.Lw,h.c,h.r,h.g,h.l⟩
def zRg:Rg:=⟨0,0,0,fun _=>0⟩
def gNo (R:Rp)(gate:Int):Nat:=gate.toNat%R.gates.length
def aNo (R:Rp)(gate:Int):Nat:=(R.gates.getD (gNo R gate) zRg).a.toNat
def st0 (R:Rp)(gate:Int)(A L:List Int)(mem:List UInt8):Fm:=start (R.gates.getD (gNo R gate) zRg).fg (gNo R gate) (aNo R gate) (srcA (entL A (aNo R gate))) L mem
section
variable {w:World} {R:Rp} {ca ga:Option Addr} {mem:List UInt8} {A:List Int} {sa:Option Addr} {ia:Option Addr} {ic:Nat} {L:List Int}
theorem src_wd (hA:∀x∈A,Wd x)(n:Nat)(hn:n≤20):∀j,Wd (srcA (entL A n) j):=fun j=>by
 unfold srcA;by_cases hj:j<n
 ·have e:(entL A n).getD j 0=A.getD j (j:Int):=by simp[entL,hj]
  rw[e];by_cases h2:j<A.length
  ·rw[show A.getD j (j:Int)=A[j]by simp[h2]];exact hA _ (List.getElem_mem h2)
  ·rw[show A.getD j (j:Int)=(j:Int)by simp[h2]];exact⟨by omega,by omega⟩
 ·rw[show(entL A n).getD j 0=0 by simp[entL,hj]];exact wd0
theorem Rp.Ok.at (ok:R.Ok mem.length)(gate:Int):gNo R gate<R.gates.length∧aNo R gate≤7∧∃h:gNo R gate<R.gates.length,R.gates.getD (gNo R gate) zRg=R.gates[gNo R gate]∧((aNo R gate:Nat):Int)=R.gates[gNo R gate].a:=by
 have h0:0<R.gates.length:=ok.n1.1;have h:gNo R gate<R.gates.length:=Nat.mod_lt _ h0;have e:R.gates.getD (gNo R gate) zRg=R.gates[gNo R gate]:=by simp[h]
 obtain⟨_,_,_,hq⟩:=ok.gt _ h;have h2:=hq.2.1;refine⟨h,?_,h,e,?_⟩
 ·unfold aNo;rw[e];omega
 ·unfold aNo;rw[e];omega
theorem Bgn.okn (h:Bgn w R ca ga mem A sa ia ic L)(ok:R.Ok mem.length)(gate:Int):(st0 R gate A L mem).Okn R.pr 0:=by
 obtain⟨h1,h2,h3,h4,h5⟩:=ok.at gate;unfold st0;rw[h4];exact start_okn R mem.length _ _ _ L mem h.wd ok h1 (src_wd h.Aw _ (by omega)) h.Lw h.l
end
end Z
end Go.Proofs.YtdidjhillmgccaaGreat
