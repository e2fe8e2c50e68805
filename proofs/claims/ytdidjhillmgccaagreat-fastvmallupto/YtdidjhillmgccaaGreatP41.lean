import Derived.Test.YtdidjhillmgccaaGreatP40
import Derived.Test.YtdidjhillmgccaaGreatP32
import Derived.Test.YtdidjhillmgccaaGreatP22
import Derived.Test.YtdidjhillmgccaaGreatP26
import Derived.Test.YtdidjhillmgccaaGreatP38
import Derived.Test.YtdidjhillmgccaaGreatP39
import Derived.Test.YtdidjhillmgccaaGreatP30
namespace Go.Proofs.YtdidjhillmgccaaGreat
namespace Z
open Go.RowKit
open T (Sep Ob Kp Mf FlIn boxOb)
open B (mks mks_len mks_at mks_one Mine own_of_cells own_mine wp_append_m row_cell own_marks)
theorem wp_bsW1_run (M:Int)(W:World):(Instr.buildSlice 26 1 #[(0,.int .u64 M)]).run Tryz.prog W=.ok (.slice (some ⟨W.heap.size,0,none⟩) 1 1) (W.alloc (.cells (mks [Value.int .u64 M] 1).toArray 51)):=by kernel_rfl
theorem wp_bsW1 {o:Oper}{a:Act}{K:Act→World→Prop}{Q:Exit→Act→World→Prop}{w:World}(x0:Operand)(ho:o.op=.buildSlice 26 1 #[(0,x0)])(M:Int)(h0:a.eval x0=.int .u64 M)
 (h:K (a.put o.dst (.slice (some ⟨w.heap.size,0,none⟩) 1 1)) (w.alloc (.cells (mks [Value.int .u64 M] 1).toArray 51))):o.wp Tryz.prog a w K Q:=by
 unfold Oper.wp execOp;simp only[ho,List.map_toArray,List.map_cons,List.map_nil,h0,wp_bsW1_run,Sem.run_bind,Sem.run_pure,Result.andThen_ok];exact h
theorem wp_bsW2_run (M:Int)(W:World):(Instr.buildSlice 26 2 #[(0,.int .u64 M),(1,.int .u64 M)]).run Tryz.prog W=.ok (.slice (some ⟨W.heap.size,0,none⟩) 2 2) (W.alloc (.cells (mks [Value.int .u64 M] 2).toArray 51)):=by kernel_rfl
theorem wp_bsW2 {o:Oper}{a:Act}{K:Act→World→Prop}{Q:Exit→Act→World→Prop}{w:World}(x0 x1:Operand)(ho:o.op=.buildSlice 26 2 #[(0,x0),(1,x1)])(M:Int)(h0:a.eval x0=.int .u64 M)(h1:a.eval x1=.int .u64 M)
 (h:K (a.put o.dst (.slice (some ⟨w.heap.size,0,none⟩) 2 2)) (w.alloc (.cells (mks [Value.int .u64 M] 2).toArray 51))):o.wp Tryz.prog a w K Q:=by
 unfold Oper.wp execOp;simp only[ho,List.map_toArray,List.map_cons,List.map_nil,h0,h1,wp_bsW2_run,Sem.run_bind,Sem.run_pure,Result.andThen_ok];exact h
theorem wp_bsW3_run (M:Int)(W:World):(Instr.buildSlice 26 3 #[(0,.int .u64 M),(1,.int .u64 M),(2,.int .u64 M)]).run Tryz.prog W=.ok (.slice (some ⟨W.heap.size,0,none⟩) 3 3) (W.alloc (.cells (mks [Value.int .u64 M] 3).toArray 51)):=by kernel_rfl
theorem wp_bsW3 {o:Oper}{a:Act}{K:Act→World→Prop}{Q:Exit→Act→World→Prop}{w:World}(x0 x1 x2:Operand)(ho:o.op=.buildSlice 26 3 #[(0,x0),(1,x1),(2,x2)])(M:Int)(h0:a.eval x0=.int .u64 M)(h1:a.eval x1=.int .u64 M)(h2:a.eval x2=.int .u64 M)
 (h:K (a.put o.dst (.slice (some ⟨w.heap.size,0,none⟩) 3 3)) (w.alloc (.cells (mks [Value.int .u64 M] 3).toArray 51))):o.wp Tryz.prog a w K Q:=by
 unfold Oper.wp execOp;simp only[ho,List.map_toArray,List.map_cons,List.map_nil,h0,h1,h2,wp_bsW3_run,Sem.run_bind,Sem.run_pure,Result.andThen_ok];exact h
theorem wp_bsT1_run (M:Int)(W:World):(Instr.buildSlice 64 1 #[(0,.agg #[.bool false,.int .u64 M,.int .u64 0])]).run Tryz.prog W=.ok (.slice (some ⟨W.heap.size,0,none⟩) 1 1) (W.alloc (.cells (mks [Value.bool false,.int .u64 M,.int .u64 0] 1).toArray 67)):=by kernel_rfl
theorem wp_bsT1 {o:Oper}{a:Act}{K:Act→World→Prop}{Q:Exit→Act→World→Prop}{w:World}(x0:Operand)(ho:o.op=.buildSlice 64 1 #[(0,x0)])(M:Int)(h0:a.eval x0=.agg #[.bool false,.int .u64 M,.int .u64 0])
 (h:K (a.put o.dst (.slice (some ⟨w.heap.size,0,none⟩) 1 1)) (w.alloc (.cells (mks [Value.bool false,.int .u64 M,.int .u64 0] 1).toArray 67))):o.wp Tryz.prog a w K Q:=by
 unfold Oper.wp execOp;simp only[ho,List.map_toArray,List.map_cons,List.map_nil,h0,wp_bsT1_run,Sem.run_bind,Sem.run_pure,Result.andThen_ok];exact h
theorem wp_bsT2_run (M:Int)(W:World):(Instr.buildSlice 64 2 #[(0,.agg #[.bool false,.int .u64 M,.int .u64 0]),(1,.agg #[.bool false,.int .u64 M,.int .u64 0])]).run Tryz.prog W=.ok (.slice (some ⟨W.heap.size,0,none⟩) 2 2) (W.alloc (.cells (mks [Value.bool false,.int .u64 M,.int .u64 0] 2).toArray 67)):=by kernel_rfl
theorem wp_bsT2 {o:Oper}{a:Act}{K:Act→World→Prop}{Q:Exit→Act→World→Prop}{w:World}(x0 x1:Operand)(ho:o.op=.buildSlice 64 2 #[(0,x0),(1,x1)])(M:Int)(h0:a.eval x0=.agg #[.bool false,.int .u64 M,.int .u64 0])(h1:a.eval x1=.agg #[.bool false,.int .u64 M,.int .u64 0])
 (h:K (a.put o.dst (.slice (some ⟨w.heap.size,0,none⟩) 2 2)) (w.alloc (.cells (mks [Value.bool false,.int .u64 M,.int .u64 0] 2).toArray 67))):o.wp Tryz.prog a w K Q:=by
 unfold Oper.wp execOp;simp only[ho,List.map_toArray,List.map_cons,List.map_nil,h0,h1,wp_bsT2_run,Sem.run_bind,Sem.run_pure,Result.andThen_ok];exact h
theorem wp_bsT3_run (M:Int)(W:World):(Instr.buildSlice 64 3 #[(0,.agg #[.bool false,.int .u64 M,.int .u64 0]),(1,.agg #[.bool false,.int .u64 M,.int .u64 0]),(2,.agg #[.bool false,.int .u64 M,.int .u64 0])]).run Tryz.prog W=.ok (.slice (some ⟨W.heap.size,0,none⟩) 3 3) (W.alloc (.cells (mks [Value.bool false,.int .u64 M,.int .u64 0] 3).toArray 67)):=by kernel_rfl
theorem wp_bsT3 {o:Oper}{a:Act}{K:Act→World→Prop}{Q:Exit→Act→World→Prop}{w:World}(x0 x1 x2:Operand)(ho:o.op=.buildSlice 64 3 #[(0,x0),(1,x1),(2,x2)])(M:Int)(h0:a.eval x0=.agg #[.bool false,.int .u64 M,.int .u64 0])(h1:a.eval x1=.agg #[.bool false,.int .u64 M,.int .u64 0])(h2:a.eval x2=.agg #[.bool false,.int .u64 M,.int .u64 0])
 (h:K (a.put o.dst (.slice (some ⟨w.heap.size,0,none⟩) 3 3)) (w.alloc (.cells (mks [Value.bool false,.int .u64 M,.int .u64 0] 3).toArray 67))):o.wp Tryz.prog a w K Q:=by
 unfold Oper.wp execOp;simp only[ho,List.map_toArray,List.map_cons,List.map_nil,h0,h1,h2,wp_bsT3_run,Sem.run_bind,Sem.run_pure,Result.andThen_ok];exact h
theorem wp_bs5W_run (a0 a1 a2 a3 a4:Option Addr)(n0 c0 n1 c1 n2 c2 n3 c3 n4 c4:Nat)(W:World):(Instr.buildSlice 36 5 #[(0,.slice a0 n0 c0),(1,.slice a1 n1 c1),(2,.slice a2 n2 c2),(3,.slice a3 n3 c3),(4,.slice a4 n4 c4)]).run Tryz.prog W=.ok (.slice (some ⟨W.heap.size,0,none⟩) 5 5) (W.alloc (.cells (List.toArray [Value.slice a0 n0 c0,.slice a1 n1 c1,.slice a2 n2 c2,.slice a3 n3 c3,.slice a4 n4 c4]) 26)):=by kernel_rfl
theorem wp_bs5W {o:Oper}{a:Act}{K:Act→World→Prop}{Q:Exit→Act→World→Prop}{w:World}(x0 x1 x2 x3 x4:Operand)(ho:o.op=.buildSlice 36 5 #[(0,x0),(1,x1),(2,x2),(3,x3),(4,x4)])(a0 a1 a2 a3 a4:Option Addr)(n0 c0 n1 c1 n2 c2 n3 c3 n4 c4:Nat)(h0:a.eval x0=.slice a0 n0 c0)(h1:a.eval x1=.slice a1 n1 c1)(h2:a.eval x2=.slice a2 n2 c2)(h3:a.eval x3=.slice a3 n3 c3)(h4:a.eval x4=.slice a4 n4 c4)
 (h:K (a.put o.dst (.slice (some ⟨w.heap.size,0,none⟩) 5 5)) (w.alloc (.cells (List.toArray [Value.slice a0 n0 c0,.slice a1 n1 c1,.slice a2 n2 c2,.slice a3 n3 c3,.slice a4 n4 c4]) 26))):o.wp Tryz.prog a w K Q:=by
 unfold Oper.wp execOp;simp only[ho,List.map_toArray,List.map_cons,List.map_nil,h0,h1,h2,h3,h4,wp_bs5W_run,Sem.run_bind,Sem.run_pure,Result.andThen_ok];exact h
theorem wp_bs5T_run (a0 a1 a2 a3 a4:Option Addr)(n0 c0 n1 c1 n2 c2 n3 c3 n4 c4:Nat)(W:World):(Instr.buildSlice 37 5 #[(0,.slice a0 n0 c0),(1,.slice a1 n1 c1),(2,.slice a2 n2 c2),(3,.slice a3 n3 c3),(4,.slice a4 n4 c4)]).run Tryz.prog W=.ok (.slice (some ⟨W.heap.size,0,none⟩) 5 5) (W.alloc (.cells (List.toArray [Value.slice a0 n0 c0,.slice a1 n1 c1,.slice a2 n2 c2,.slice a3 n3 c3,.slice a4 n4 c4]) 64)):=by kernel_rfl
theorem wp_bs5T {o:Oper}{a:Act}{K:Act→World→Prop}{Q:Exit→Act→World→Prop}{w:World}(x0 x1 x2 x3 x4:Operand)(ho:o.op=.buildSlice 37 5 #[(0,x0),(1,x1),(2,x2),(3,x3),(4,x4)])(a0 a1 a2 a3 a4:Option Addr)(n0 c0 n1 c1 n2 c2 n3 c3 n4 c4:Nat)(h0:a.eval x0=.slice a0 n0 c0)(h1:a.eval x1=.slice a1 n1 c1)(h2:a.eval x2=.slice a2 n2 c2)(h3:a.eval x3=.slice a3 n3 c3)(h4:a.eval x4=.slice a4 n4 c4)
 (h:K (a.put o.dst (.slice (some ⟨w.heap.size,0,none⟩) 5 5)) (w.alloc (.cells (List.toArray [Value.slice a0 n0 c0,.slice a1 n1 c1,.slice a2 n2 c2,.slice a3 n3 c3,.slice a4 n4 c4]) 64))):o.wp Tryz.prog a w K Q:=by
 unfold Oper.wp execOp;simp only[ho,List.map_toArray,List.map_cons,List.map_nil,h0,h1,h2,h3,h4,wp_bs5T_run,Sem.run_bind,Sem.run_pure,Result.andThen_ok];exact h
theorem row5_run (t e:TypeId)(B:Nat)(ht:Tryz.prog.underlying t=some (.slice e))(hi:(Tryz.prog.info? e).map (fun i=>(i.zero,i.size,i.bytes))=some (some (.slice none 0 0),1,24))(w:World)(v:Value)(n:Nat)(rows five:List Value)(hown:w.ownsRow B e 1 v n rows)(X:Nat)(hX:At w X five.toArray)(h5:five.length=5)(h1:∀u∈five,u.oneCell'=true)(hn:n≤2000000)(hB:B≤w.heap.size)(ty:TypeId):
 ∃v' w',(Builtin.append_ #[t,t] ty #[v,.slice (some ⟨X,0,none⟩) 5 5]).run Tryz.prog w=.ok v' w'∧w'.ownsRow B e 1 v' (n+5) (rows++five)∧Kp (fun k=>v.ownBlock=some k) w w'∧(∀k,v'.ownBlock=some k→v.ownBlock=some k∨w.heap.size≤k):=by
 obtain⟨i0,hi0,hz0,hz1,hz2⟩:=T.info_parts' hi;obtain⟨v',w',k1,k2,k3,_,k5⟩:=run_append_own_at (P:=Tryz.prog) w B t ty e i0 (.slice none 0 0) 1 24 ht hi0 hz0 hz1 hz2 rfl (by decide) v n rows hown ⟨X,0,none⟩ 5 5 five (by omega) (fun j u q=>by rw[addr_addZ,Nat.zero_add,hX.2.1];simpa using q) h1 (by unfold maxLen;omega) (by omega) hB;refine⟨v',w',k1,k2,kp_grown k3,fun k q=>?_⟩;rcases k5 with k5|k5
 ·exact .inl (by rw[←k5];exact q)
 ·rw[k5]at q
  cases q
  exact .inr (Nat.le_refl _)
theorem gp_mem {B e:Nat}{mv:List Value}{W:World}{l:List Ob}{vs:List (Value×Nat)}(h:Sep B W (gpOb B e mv vs::l)){v:Value}{n:Nat}(hv:(v,n)∈vs):W.ownsRow B e mv.length v n (mks mv n):=h.ins (gpOb B e mv vs) (by simp) (v,n) hv
theorem own_form {W:World}{B e k n c:Nat}{a:Option Addr}(h:∃xs,W.ownsRow B e k (.slice a n c) n xs)(hn:0<n):∃g,a=some ⟨g,0,none⟩:=by
 obtain⟨xs,h⟩:=h;rcases h.2 with⟨_,h9⟩|⟨g,cap,cur,e1,_⟩
 ·omega
 ·injection e1 with e1 _ _
  exact⟨g,e1⟩
theorem own_thereB {W:World}{B e k n c g:Nat}{xs:List Value}(h:W.ownsRow B e k (.slice (some ⟨g,0,none⟩) n c) n xs){q:Nat}(hq:q<n):W.there g (q*k) k:=by
 rcases h.2 with⟨e1,_⟩|⟨g',cap,cur,e1,hbg,hg,hnc,hcm,hcs,ht⟩
 ·cases e1
 ·cases e1
  have hle2:q*k+k≤c*k:=by
   have:(q+1)*k≤c*k:=Nat.mul_le_mul_right _ (by omega)
   rwa [Nat.add_mul,Nat.one_mul]at this
  exact fun j hj=>⟨by simp[World.cell?,hg];omega,by simp[World.frozen?,hg]⟩
theorem five_at (rw:List Value)(a b c d f:Value×Nat)(i:Nat)(h1:rw.length≤i)(h2:i<rw.length+5):∃p∈[a,b,c,d,f],(rw++[f.1,d.1,c.1,b.1,a.1])[i]?=some p.1:=by
 rcases(by omega:i=rw.length∨i=rw.length+1∨i=rw.length+2∨i=rw.length+3∨i=rw.length+4)with rfl|rfl|rfl|rfl|rfl
 ·exact⟨f,by simp,by simp⟩
 ·exact⟨d,by simp,by simp⟩
 ·exact⟨c,by simp,by simp⟩
 ·exact⟨b,by simp,by simp⟩
 ·exact⟨a,by simp,by simp⟩
theorem row_cellB {W:World}{B e n c:Nat}{a:Option Addr}{xs:List Value}(h:W.ownsRow B e 1 (.slice a n c) n xs){i:Nat}{v:Value}(hv:xs[i]?=some v):∃g,a=some ⟨g,0,none⟩∧g<W.heap.size∧W.cell? ⟨g,i,none⟩=some v:=by
 have hi:i<n:=by have:=(List.getElem?_eq_some_iff.1 hv).1;have:=h.1;omega
 obtain⟨g,rfl⟩:=own_form ⟨xs,h⟩ (by omega);have hc:=row_cell h i v hv;exact⟨g,rfl,World.block_lt_of_cell? W _ hc,hc⟩
theorem gp_fifth {B e:Nat}{mv:List Value}{W:World}{l:List Ob}(a b c d f:Value×Nat)(o1 o2 o3 o4 o5:Ob)(h:Sep B W (gpOb B e mv [a,b,c,d,f]::o1::o2::o3::o4::o5::l))(hle:B≤W.heap.size):Sep B W (o4::gpOb B e mv [f,d,c,b,a]::o1::o2::o3::o5::l):=by
 have h1:=gp_sub (vs':=[f,d,c,b,a]) h hle (by simp);refine sep_perm h1 ?_;refine List.Perm.trans (List.Perm.cons _ ?_) (List.Perm.swap _ _ _);exact List.perm_middle (l₁:=[o1,o2,o3])
theorem gp_fifthT {B e:Nat}{mv:List Value}{W:World}{l:List Ob}(a b c d f:Value×Nat)(o1 o2 o3 o4 o5:Ob)(h:Sep B W (gpOb B e mv [a,b,c,d,f]::o1::o2::o3::o4::o5::l))(hle:B≤W.heap.size):Sep B W (o5::gpOb B e mv [f,d,c,b,a]::o1::o2::o3::o4::l):=by
 have h1:=gp_sub (vs':=[f,d,c,b,a]) h hle (by simp);refine sep_perm h1 ?_;refine List.Perm.trans (List.Perm.cons _ ?_) (List.Perm.swap _ _ _);exact List.perm_middle (l₁:=[o1,o2,o3,o4])
end Z
set_option maxRecDepth 100000
set_option maxHeartbeats 40000000
namespace Z
open Go.RowKit
open T (Sep Ob Kp Mf FlIn boxOb)
theorem DIo.snap {B:Nat}{W:World}{b:Nat}{c:Dc}{P:Pr}{s:Fm}{og op:Nat}{l:List Ob}(h:DIo B W b c P s og op l):∃sa sc,∀V,Gr W V→V.cell? ⟨b,4,none⟩=some (.int .i64 s.g)∧V.cell? ⟨b,5,none⟩=some (.int .i64 s.p)∧V.cell? ⟨b,22,none⟩=some (.slice sa s.st.length sc)∧V.rangeAt b 6 (regs s.r):=by
 obtain⟨⟨q,h1,_⟩,le⟩:=h;have hb:=h1.ins (dbOb b (dxOf c P s q og op)) (by simp[dobs]);have hO:=h1.ins (rowOb B 144 18 q.sv s.st.length (s.st.flatMap Fr.vals)) (by simp[dobs]);obtain⟨sa,sc,e⟩:∃sa sc,q.sv=.slice sa s.st.length sc:=by
  rcases hO.2 with⟨e1,e2⟩|⟨g,cap,cur,e1,_⟩
  ·exact⟨none,0,by rw[e1,e2]⟩
  ·exact⟨_,_,e1⟩
 refine⟨sa,sc,fun V g=>?_⟩;have hk:=fun j=>T.cell_of_block (g.below.block b hb.1) j
 refine⟨(hk _).trans (hb.at_ 4 (by omega)),(hk _).trans (hb.at_ 5 (by omega)),?_,fun j v qv=>?_⟩
 ·rw[←e];exact(hk _).trans (hb.at_ 22 (by omega))
 ·have hj:j<16:=by have:=(List.getElem?_eq_some_iff.1 qv).1;rwa [regs_len]at this
  rw[regs_at s.r j hj]at qv;refine(hk _).trans ((hb.at_ (6+j) (by omega)).trans ?_);rw[Dx.reg _ j hj];exact qv
theorem dsnap_any (B:Nat)(W:World)(b:Nat)(c:Dc)(P:Pr)(s:Fm)(og op:Nat)(l:List Ob)(h:DIo B W b c P s og op l):
 Calls Tryz.prog 37 #[.pointer (some ⟨b,0,none⟩)] W fun x w'=>x=.returned (.agg (snV s.g s.p s.st.length s.r).toArray)∧Gr W w':=by
 obtain⟨sa,sc,KS⟩:=h.snap;replace KS:=ζ KS;clear h;go_enter Tryz.func37,Tryz.ntmps37;go_upto_region 1 with fail;refine wp_world (fun V=>At V W.heap.size (List.toArray [Value.int .i64 0,.int .i64 0,.int .i64 0,.int .u64 0,.int .u64 0,.int .u64 0,.int .u64 0,.int .u64 0,.int .u64 0,.int .u64 0,.int .u64 0,.int .u64 0,.int .u64 0,.int .u64 0,.int .u64 0,.int .u64 0,.int .u64 0,.int .u64 0,.int .u64 0])∧Gr W V) ⟨At.new W _ _,(Gr.refl _).alloc _⟩ ?_;rintro V ⟨hA,G⟩;have hkW:W.heap.size≤W.heap.size:=Nat.le_refl _;generalize hk:W.heap.size=kr at hA hkW ⊢;have hAd:At V.drew kr (List.toArray [Value.int .i64 0,.int .i64 0,.int .i64 0,.int .u64 0,.int .u64 0,.int .u64 0,.int .u64 0,.int .u64 0,.int .u64 0,.int .u64 0,.int .u64 0,.int .u64 0,.int .u64 0,.int .u64 0,.int .u64 0,.int .u64 0,.int .u64 0,.int .u64 0,.int .u64 0]):=hA.gr (Gr.refl V).drew;have Gd:=G.drew;have hth:=ζ (At.there (cs:=[Value.int .i64 0,.int .i64 0,.int .i64 0,.int .u64 0,.int .u64 0,.int .u64 0,.int .u64 0,.int .u64 0,.int .u64 0,.int .u64 0,.int .u64 0,.int .u64 0,.int .u64 0,.int .u64 0,.int .u64 0,.int .u64 0,.int .u64 0,.int .u64 0,.int .u64 0]) hAd 0 19 (by decide))
 have hA2:=ζ (At.setAll (cs:=[Value.int .i64 0,.int .i64 0,.int .i64 0,.int .u64 0,.int .u64 0,.int .u64 0,.int .u64 0,.int .u64 0,.int .u64 0,.int .u64 0,.int .u64 0,.int .u64 0,.int .u64 0,.int .u64 0,.int .u64 0,.int .u64 0,.int .u64 0,.int .u64 0,.int .u64 0]) hAd (snV s.g s.p s.st.length s.r) (by rw[snV_len];rfl));have G2:=ζ (Gr.setCells Gd kr (by omega) (snV s.g s.p s.st.length s.r) 0);rw[←snV_len s.g s.p s.st.length s.r]at hth;clear hA hAd G;refine wp_region_held_drew (S:=(fun W=>W.cell? ⟨b,4,none⟩=some (.int .i64 s.g)∧W.cell? ⟨b,5,none⟩=some (.int .i64 s.p)∧W.cell? ⟨b,22,none⟩=some (.slice sa s.st.length sc)∧W.rangeAt b 6 (regs s.r))) (by kernel_rfl) (KS.out _ Gd) (fun hHeld=>?_);refine xz 0 rfl (h:=xz 1 rfl (h:=xz 2 rfl (h:=xz 3 rfl (h:=xz 4 rfl (h:=xz 5 rfl (h:=xz 6 rfl (h:=xz 7 rfl (h:=xz 8 rfl (h:=xz 9 rfl (h:=xz 10 rfl (h:=xz 11 rfl (h:=xz 12 rfl (h:=xz 13 rfl (h:=xz 14 rfl (h:=xz 15 rfl (h:=?_))))))))))))))))
 try simp only[xap]
 refine xtk 16 rfl (yieldsIf_load_mid (by rfl) _ _ rfl _ _ rfl _ _ (fun _ h=>h.2.2.2) Tryz.underlying68 rfl (by rw[regs_len];kernel_rfl)) ?_;try simp only[xap]
 refine xtk 17 rfl (yields_sn (by rfl) _ _ _ _ rfl _ _ _ s.r (by rfl) (by rfl) (by rfl) (by rfl)) ?_;try simp only[xap]
 refine xrd 18 rfl (fun K hK=>?_);rw[if_pos (by rfl)];refine wp_store_mid _ _ _ rfl _ _ (List.toArray (snV s.g s.p s.st.length s.r)) rfl rfl (hth.out) (by rw[List.size_toArray,snV_len];kernel_rfl) (snV_one _ _ _ _) ?_;refine hK.out _ _ (KS.out _ G2.out) (fun hHeld=>?_);clear hK K;try simp only[Act.put]
 refine xdn ?_ _;clear hHeld;generalize World.setCells _ _ _ _=Z at*;have hrun:=ζ (run_loadVar_mid (P:=Tryz.prog) Z kr 0 103 (snV s.g s.p s.st.length s.r) _ (fun j v q=>by rw[Nat.zero_add];exact(hA2.out.2.1 j).trans (by simpa using q)) Tryz.underlying103 rfl (by rw[snV_len];kernel_rfl));go_wp2_with fail;refine bodyPost_ret (v:=.agg (snV s.g s.p s.st.length s.r).toArray) ?_ rfl ⟨rfl,G2.out⟩;exact results_rowZ Tryz.results37 _ _ rfl hrun.out
theorem dstring_of (w:World)(g k:Nat)(m:Nat→UInt8)(h:∀i,i<65536→w.cell? ⟨g,i,none⟩=some (.int .u8 (m i).toNat)):(convert 94 9 (.slice (some ⟨g,0,none⟩) 65536 k)).run Tryz.prog w=.ok (.string ⟨(T.rowB m 0 65536).toArray⟩) w:=by
 have:=run_convert_bytes_back (P:=Tryz.prog) w 94 9 5 ⟨g,0,none⟩ k (T.rowB m 0 65536) Tryz.underlying94 Tryz.underlying5 Tryz.underlying9 (fun j hj=>by
  rw[T.rowB_len]at hj;rw[T.addr_add,h j hj];simp[T.rowB])
 rw[T.rowB_len]at this;exact this
theorem dmemoryS_any (B:Nat)(W:World)(b:Nat)(c:Dc)(P:Pr)(s:Fm)(og op:Nat)(l:List Ob)(h:DIo B W b c P s og op l):
 Calls Tryz.prog 39 #[.pointer (some ⟨b,0,none⟩)] W fun x w'=>x=.returned (.string ⟨(T.rowB s.m 0 65536).toArray⟩)∧Below W.heap.size W w':=by
 obtain⟨g,k,c23,_,hc,_⟩:=h.mem;have hs:=dstring_of W g k s.m (fun i hi=>(hc i hi).1);replace hc:=ζ hc;replace h:=ζ h;generalize (T.rowB s.m 0 65536).toArray=RR at*;go_enter Tryz.func39,Tryz.ntmps39;go_wp2_with fail;go_ret;exact⟨rfl,Below.refl _ _⟩
theorem DIo.outs {B:Nat}{W:World}{b:Nat}{c:Dc}{P:Pr}{s:Fm}{og op:Nat}{l:List Ob}(h:DIo B W b c P s og op l):b<W.heap.size∧(∃ta tk,W.cell? ⟨b,25,none⟩=some (.slice ta s.out.length tk)∧WIn W ta s.out)∧∃ua uk,W.cell? ⟨b,26,none⟩=some (.slice ua s.tc.length uk)∧T.EIn 3 Tc.vals W ua s.tc:=by
 obtain⟨⟨q,h1,_⟩,_⟩:=h;have hb:=h1.ins (dbOb b (dxOf c P s q og op)) (by simp[dobs]);have hO:W.ownsRow B 51 1 q.ov_ s.out.length (s.out.map u64I):=h1.ins (ouOb B q.ov_ s.out) (by simp[dobs]);have hT:W.ownsRow B 67 3 q.tv s.tc.length (s.tc.flatMap Tc.vals):=h1.ins (tcOb B q.tv s.tc) (by simp[dobs]);obtain⟨ta,tk,e1,e2⟩:=own_win hO rfl;obtain⟨ua,uk,f1,f2⟩:=own_tin hT rfl;exact⟨hb.lt,⟨ta,tk,by rw[←e1];exact hb.at_ 25 (by omega),e2⟩,ua,uk,by rw[←f1];exact hb.at_ 26 (by omega),f2⟩
theorem run_endF (B:Nat)(W:World)(a:Nat)(P:Pr)(l:List Ob)(N:Int)(n m:Nat)(hNn:min N 100000=(n:Int))(f:Nat→Fm)(h:MIn B W a P (f 0) l)(hm:m≤n)(h0:∀k,k<m→(f k).e=0)(hG:∀k,k<m→Goes P (f k) (f (k+1)))(hE:m=n∨(f m).e≠0)(hn:n≤100000)(he:(f m).e≠0):
 Calls Tryz.prog 14 #[.pointer (some ⟨a,0,none⟩),.int .i64 N] W fun x w'=>x=.returned (.agg #[.int .i64 (f m).e,.int .u64 (f m).v,.int .i64 (f m).f,.int .i64 (f m).g,.int .i64 (f m).p])∧MIn B w' a P (f m) l∧Below B W w':=by
 have e2:((f m).e==0)=false:=by simpa using he
 replace he:=ζ he;have h2:=ζ (h.new #[.int .i64 0,.int .u64 0,.int .i64 0,.int .i64 0,.int .i64 0] 62);clear h;go_enter Tryz.func14,Tryz.ntmps14;go_upto_region 1 with fail
 refine wp_world (fun V=>MIn B V a P (f 0) (boxOb W.heap.size #[.int .i64 0,.int .u64 0,.int .i64 0,.int .i64 0,.int .i64 0]::l)∧Below B W V) h2.out ?_;rintro V ⟨h,hB⟩;replace h:=ζ h;replace hB:=ζ hB;clear h2;generalize hkr:W.heap.size=kr at*;clear hkr;have hst:=ζ (steps_any B V a P _ n m f h.out hm h0 hG hE (by omega));replace h0:=ζ h0;replace hG:=ζ hG;replace hE:=ζ hE;go_wp2_with fail;try rw[hNn]
 refine hst.out.mono ?_;rintro r V8 ⟨rfl,h8,hB8⟩;replace hB:=ζ (hB.out.trans hB8);replace h8:=ζ h8;clear h hst hB8;have c26:=h8.out.e26;have hsd:=ζ (stands_any B V8 a P (f m) _ h8.out);go_upto_region 6 with fail
 have hle8:=h8.out.le;refine wp_region_lit ?_;refine xp fun K hK=>?_
 go_simp;with_reducible refine hK _ _ ?_
 clear hK K;try simp only[xap]
 refine xp fun K hK=>?_
 go_simp
 (refine hsd.out.mono ?_;rintro r V9 ⟨rfl,g9⟩)
 with_reducible refine hK _ _ ?_
 clear hK K;try simp only[xap]
 replace h8:=ζ (h8.out.gro g9);replace hB:Hz (Below B W V9):=ζ (hB.out.trans (g9.below.mono hle8));have hA9:At V9 kr #[.int .i64 0,.int .u64 0,.int .i64 0,.int .i64 0,.int .i64 0]:=h8.out.there (boxOb kr #[.int .i64 0,.int .u64 0,.int .i64 0,.int .i64 0,.int .i64 0]) (.head _);have hth:=ζ (At.there (cs:=[Value.int .i64 0,.int .u64 0,.int .i64 0,.int .i64 0,.int .i64 0]) hA9 0 5 (by decide));have hA10:=ζ (At.setAll (cs:=[Value.int .i64 0,.int .u64 0,.int .i64 0,.int .i64 0,.int .i64 0]) hA9 [Value.int .i64 (f m).e,.int .u64 (f m).v,.int .i64 (f m).f,.int .i64 (f m).g,.int .i64 (f m).p] rfl);have hk10:Kp (fun k=>k=kr) V9 (V9.setCells kr 0 [Value.int .i64 (f m).e,.int .u64 (f m).v,.int .i64 (f m).f,.int .i64 (f m).g,.int .i64 (f m).p]):=kp_setsZ V9 kr [Value.int .i64 (f m).e,.int .u64 (f m).v,.int .i64 (f m).f,.int .i64 (f m).g,.int .i64 (f m).p] 0;have h10:=h8.out.side (o':=boxOb kr (List.toArray [Value.int .i64 (f m).e,.int .u64 (f m).v,.int .i64 (f m).f,.int .i64 (f m).g,.int .i64 (f m).p])) hA10.out hk10 (fun _ r=>.inl r)
 replace hB:=ζ (hB.out.trans h10.2);replace h10:=ζ h10.1;clear h8 hA9 hk10 hsd g9;refine xp fun K hK=>?_
 refine wp_store_mid _ _ _ rfl _ _ (List.toArray [Value.int .i64 (f m).e,.int .u64 (f m).v,.int .i64 (f m).f,.int .i64 (f m).g,.int .i64 (f m).p]) rfl rfl hth.out (by kernel_rfl) (by simp[Value.oneCell']) (hK _ _ ?_);clear hK K;try simp only[Act.put]
 generalize World.setCells _ _ _ _=V11 at*;have hrun:=ζ (run_loadVar_mid (P:=Tryz.prog) V11 kr 0 62 [Value.int .i64 (f m).e,.int .u64 (f m).v,.int .i64 (f m).f,.int .i64 (f m).g,.int .i64 (f m).p] _ (fun j v q=>by rw[Nat.zero_add];exact(hA10.out.2.1 j).trans (by simpa using q)) Tryz.underlying62 rfl (by kernel_rfl));go_wp2_with fail;refine bodyPost_ret (v:=.agg #[.int .i64 (f m).e,.int .u64 (f m).v,.int .i64 (f m).f,.int .i64 (f m).g,.int .i64 (f m).p]) ?_ rfl ⟨rfl,h10.out.drop,hB.out⟩;exact results_rowZ Tryz.results14 _ _ rfl hrun.out
theorem run_spentF (B:Nat)(W:World)(a:Nat)(P:Pr)(l:List Ob)(N:Int)(n m:Nat)(hNn:min N 100000=(n:Int))(f:Nat→Fm)(h:MIn B W a P (f 0) l)(hm:m≤n)(h0:∀k,k<m→(f k).e=0)(hG:∀k,k<m→Goes P (f k) (f (k+1)))(hE:m=n∨(f m).e≠0)(hn:n≤100000)(he:(f m).e=0):
 Calls Tryz.prog 14 #[.pointer (some ⟨a,0,none⟩),.int .i64 N] W fun x w'=>x=.returned (.agg #[.int .i64 (sp (f m)).e,.int .u64 (sp (f m)).v,.int .i64 (sp (f m)).f,.int .i64 (sp (f m)).g,.int .i64 (sp (f m)).p])∧MIn B w' a P (sp (f m)) l∧Below B W w':=by
 have h2:=ζ (h.new #[.int .i64 0,.int .u64 0,.int .i64 0,.int .i64 0,.int .i64 0] 62);clear h;go_enter Tryz.func14,Tryz.ntmps14;go_upto_region 1 with fail
 refine wp_world (fun V=>MIn B V a P (f 0) (boxOb W.heap.size #[.int .i64 0,.int .u64 0,.int .i64 0,.int .i64 0,.int .i64 0]::l)∧Below B W V) h2.out ?_;rintro V ⟨h,hB⟩;replace h:=ζ h;replace hB:=ζ hB;clear h2;generalize hkr:W.heap.size=kr at*;clear hkr;have hst:=ζ (steps_any B V a P _ n m f h.out hm h0 hG hE (by omega));replace h0:=ζ h0;replace hG:=ζ hG;replace hE:=ζ hE;go_wp2_with fail;try rw[hNn]
 refine hst.out.mono ?_;rintro r V7 ⟨rfl,h7,hB8⟩;replace hB:=ζ (hB.out.trans hB8);replace h7:=ζ h7;clear h hst hB8;have c26:=h7.out.e26;rw[he]at c26;have hfi:=ζ (h7.out.onBox (s':=sp (f m)) ⟨rfl,rfl,rfl,rfl,rfl⟩ (fun q hb=>finish_any a _ 4 0 _ hb));go_wp2_with fail;refine hfi.out.mono ?_;rintro r V8 ⟨rfl,h8,hB8⟩;replace hB:=ζ (hB.out.trans hB8);replace h8:=ζ h8;clear h7 hfi hB8 c26 he;have hsd:=ζ (stands_any B V8 a P (sp (f m)) _ h8.out);go_upto_region 6 with fail
 have hle8:=h8.out.le;refine wp_region_lit ?_;refine xp fun K hK=>?_
 go_simp;with_reducible refine hK _ _ ?_
 clear hK K;try simp only[xap]
 refine xp fun K hK=>?_
 go_simp
 (refine hsd.out.mono ?_;rintro r V9 ⟨rfl,g9⟩)
 with_reducible refine hK _ _ ?_
 clear hK K;try simp only[xap]
 replace h8:=ζ (h8.out.gro g9);replace hB:Hz (Below B W V9):=ζ (hB.out.trans (g9.below.mono hle8));have hA9:At V9 kr #[.int .i64 0,.int .u64 0,.int .i64 0,.int .i64 0,.int .i64 0]:=h8.out.there (boxOb kr #[.int .i64 0,.int .u64 0,.int .i64 0,.int .i64 0,.int .i64 0]) (.head _);have hth:=ζ (At.there (cs:=[Value.int .i64 0,.int .u64 0,.int .i64 0,.int .i64 0,.int .i64 0]) hA9 0 5 (by decide));have hA10:=ζ (At.setAll (cs:=[Value.int .i64 0,.int .u64 0,.int .i64 0,.int .i64 0,.int .i64 0]) hA9 [Value.int .i64 (sp (f m)).e,.int .u64 (sp (f m)).v,.int .i64 (sp (f m)).f,.int .i64 (sp (f m)).g,.int .i64 (sp (f m)).p] rfl);have hk10:Kp (fun k=>k=kr) V9 (V9.setCells kr 0 [Value.int .i64 (sp (f m)).e,.int .u64 (sp (f m)).v,.int .i64 (sp (f m)).f,.int .i64 (sp (f m)).g,.int .i64 (sp (f m)).p]):=kp_setsZ V9 kr [Value.int .i64 (sp (f m)).e,.int .u64 (sp (f m)).v,.int .i64 (sp (f m)).f,.int .i64 (sp (f m)).g,.int .i64 (sp (f m)).p] 0
 have h10:=h8.out.side (o':=boxOb kr (List.toArray [Value.int .i64 (sp (f m)).e,.int .u64 (sp (f m)).v,.int .i64 (sp (f m)).f,.int .i64 (sp (f m)).g,.int .i64 (sp (f m)).p])) hA10.out hk10 (fun _ r=>.inl r);replace hB:=ζ (hB.out.trans h10.2);replace h10:=ζ h10.1;clear h8 hA9 hk10 hsd g9;refine xp fun K hK=>?_
 refine wp_store_mid _ _ _ rfl _ _ (List.toArray [Value.int .i64 (sp (f m)).e,.int .u64 (sp (f m)).v,.int .i64 (sp (f m)).f,.int .i64 (sp (f m)).g,.int .i64 (sp (f m)).p]) rfl rfl hth.out (by kernel_rfl) (by simp[Value.oneCell']) (hK _ _ ?_);clear hK K;try simp only[Act.put]
 generalize World.setCells _ _ _ _=V11 at*;have hrun:=ζ (run_loadVar_mid (P:=Tryz.prog) V11 kr 0 62 [Value.int .i64 (sp (f m)).e,.int .u64 (sp (f m)).v,.int .i64 (sp (f m)).f,.int .i64 (sp (f m)).g,.int .i64 (sp (f m)).p] _ (fun j v q=>by rw[Nat.zero_add];exact(hA10.out.2.1 j).trans (by simpa using q)) Tryz.underlying62 rfl (by kernel_rfl));go_wp2_with fail;refine bodyPost_ret (v:=.agg #[.int .i64 (sp (f m)).e,.int .u64 (sp (f m)).v,.int .i64 (sp (f m)).f,.int .i64 (sp (f m)).g,.int .i64 (sp (f m)).p]) ?_ rfl ⟨rfl,h10.out.drop,hB.out⟩;exact results_rowZ Tryz.results14 _ _ rfl hrun.out
theorem xrun_any (P:Pr)(ok:P.Ok)(rr:P.Rr)(s:Fm)(n:Nat)(hs:s.Okn P n)(hn:n+100000≤1000000)(N:Int)(t:Fm)(ht:runF P s N=t)(B:Nat)(W:World)(a:Nat)(l:List Ob)(h:MIn B W a P s l):
 Calls Tryz.prog 14 #[.pointer (some ⟨a,0,none⟩),.int .i64 N] W fun x w'=>x=.returned t.outc∧MIn B w' a P t l∧Below B W w':=by
 by_cases hN:N<0
 ·have e:runM P s 0=t:=by
   rw[←ht];unfold runF;rw[show (min N 100000).toNat=0 by omega]
  exact run_negM P s N hN t e B W a l h
 ·have hk:(min N 100000).toNat≤100000:=by omega
  have hNn:min N 100000=(((min N 100000).toNat:Nat):Int):=by omega
  obtain⟨m,h1,h2,h3,h4⟩:=stops P s (min N 100000).toNat;have hG:=steps_goes P ok rr s n (min N 100000).toNat m hs (by omega) h1 h2;rw[←ht];unfold runF runM;rw[←h4];by_cases he:(stepsM P s m).e=0
  ·rw[if_pos he];exact run_spentF B W a P l N (min N 100000).toNat m hNn (stepsM P s) h h1 h2 hG h3 hk he
  ·rw[if_neg he];exact run_endF B W a P l N (min N 100000).toNat m hNn (stepsM P s) h h1 h2 hG h3 hk he
theorem ent_no (R:Rp)(ca ga:Option Addr)(cc gc:Nat)(mem:List UInt8)(gate:Int)(A:List Int)(sa:Option Addr)(sc:Nat)(w:World)(hP:RpIn w ca ga R)(hA:WIn w sa A)(hAl:A.length≤2000000)(hno:¬(R.Ok mem.length∧0≤gate)):
 Calls Tryz.prog 5 #[.agg #[.slice ca R.code.length cc,.slice ga R.gates.length gc,.string (T.str mem),.int .i64 R.dep],.int .i64 gate,.slice sa A.length sc] w fun x w'=>∃g A' va vc,x=.returned (.tuple #[.int .i64 g,.slice va (List.length A') vc])∧WIn w' va A'∧A'.length≤2000000∧¬(R.Ok (T.str mem).size∧0≤g∧g<(R.gates.length:Int))∧Below w.heap.size w w':=by
 have hsz:∀g:Int,(0≤g→0≤gate)→¬(R.Ok (T.str mem).size∧0≤g∧g<(R.gates.length:Int)):=fun g hg q=>hno ⟨by have:=q.1;rw[T.str_size]at this;exact this,hg q.2.1⟩
 by_cases h:R.gates.length=0∨gate<0
 ·refine(entry_none R ca ga cc gc (T.str mem) gate (.slice sa A.length sc) w h).mono ?_;rintro x w' ⟨rfl,g⟩;exact⟨gate,A,sa,sc,rfl,hA.below g.below,hAl,hsz gate (fun q=>q),g.below⟩
 ·have h0:0<R.gates.length:=by omega
  have hg:0≤gate:=by omega
  obtain⟨n,hn,hn2⟩:=ent_n (R.gates[gate.toNat%R.gates.length]'(Nat.mod_lt _ h0)).a;have q:=entry_any R ca ga cc gc (T.str mem) gate.toNat (gate.toNat%R.gates.length) A sa sc w hP hA h0 rfl (Nat.mod_lt _ h0) n hn hn2;rw[Int.toNat_of_nonneg hg]at q;refine q.mono ?_;rintro x w' ⟨v,rfl,ho,hb⟩;obtain⟨va,vc,rfl,hw⟩:=own_win ho (entL_len A n).symm;exact⟨_,entL A n,va,vc,rfl,hw,by rw[entL_len];omega,hsz _ (fun _=>hg),hb⟩
theorem ent_ok (R:Rp)(ca ga:Option Addr)(cc gc:Nat)(mem:List UInt8)(gate:Int)(A:List Int)(sa:Option Addr)(sc:Nat)(w:World)(hP:RpIn w ca ga R)(hA:WIn w sa A)(ok:R.Ok mem.length)(h0:0≤gate):
 Calls Tryz.prog 5 #[.agg #[.slice ca R.code.length cc,.slice ga R.gates.length gc,.string (T.str mem),.int .i64 R.dep],.int .i64 gate,.slice sa A.length sc] w fun x w'=>∃va vc,x=.returned (.tuple #[.int .i64 (gNo R gate:Nat),.slice va (List.length (entL A (aNo R gate))) vc])∧WIn w' va (entL A (aNo R gate))∧Below w.heap.size w w':=by
 obtain⟨h1,h2,h3,h4,h5⟩:=ok.at gate;have q:=entry_any R ca ga cc gc (T.str mem) gate.toNat (gNo R gate) A sa sc w hP hA ok.n1.1 rfl h1 (aNo R gate) (by omega) (.inl h5);rw[Int.toNat_of_nonneg h0]at q;refine q.mono ?_;rintro x w' ⟨v,rfl,ho,hb⟩;obtain⟨va,vc,rfl,hw⟩:=own_win ho (entL_len A _).symm;exact⟨va,vc,rfl,hw,hb⟩
theorem made_st0 (R:Rp)(ca ga:Option Addr)(cc gc:Nat)(mem:List UInt8)(gate:Int)(A:List Int)(va:Option Addr)(vc:Nat)(ia:Option Addr)(ic:Nat)(L:List Int)(w:World)(hP:RpIn w ca ga R)(is:R.Is)(hA:WIn w va (entL A (aNo R gate)))(hI:InL w ia ic L)(hc:R.code.length≤1500000)(hr:∀r∈R.code,r.length≤2000000)(hg:R.gates.length≤2000000)(hl:L.length≤2000000)(hcap:∀a,ia=some a→L.length≤ic)(ok:R.Ok mem.length):
 Calls Tryz.prog 6 #[.agg #[.slice ca R.code.length cc,.slice ga R.gates.length gc,.string (T.str mem),.int .i64 R.dep],.int .i64 (gNo R gate:Nat),.slice va (List.length (entL A (aNo R gate))) vc,.slice ia L.length ic] w fun x w'=>∃a b,x=.returned (.tuple #[.bool true,.pointer (some ⟨a,0,none⟩),.pointer (some ⟨b,0,none⟩)])∧MD w.heap.size w' R.pr a (st0 R gate A L mem) b ⟨ca,ga,cc,gc,.string (T.str mem)⟩ (st0 R gate A L mem) []∧DPg w.heap.size w' ⟨ca,ga,cc,gc,.string (T.str mem)⟩ R.pr∧Below w.heap.size w w':=by
 obtain⟨h1,h2,h3,h4,h5⟩:=ok.at gate;have q:=made_ok R ca ga cc gc mem (gNo R gate) (entL A (aNo R gate)) va vc ia ic L w hP is hA (by rw[entL_len];omega) hI hc hr hg hl hcap ok h1 (by rw[entL_len];exact h5);unfold st0;rw[h4];rw[entL_len]at q ⊢;exact q
theorem dstep_oc (P:Pr)(ok:P.Ok)(s:Fm)(n:Nat)(hs:s.Okn P n)(hn:n≤1000000)(hv:s.Vf)(u:Fm)(hu:stepsM P s 1=u)(B:Nat)(W:World)(b:Nat)(c:Dc)(l:List Ob)(h:DIo B W b c P s s.g s.p l)(hpg:DPg B W c P):
 Calls Tryz.prog 29 #[.pointer (some ⟨b,0,none⟩)] W fun x w'=>x=.returned (.agg #[.int .i64 u.e,.int .u64 u.v,.int .i64 u.f,.int .i64 u.g,.int .i64 u.p])∧DIo B w' b c P u u.g u.p l∧Below B W w':=by
 rw[←hu];exact dstep_any P ok s n hs hn hv B b c W l h hpg
theorem drun_oc (P:Pr)(ok:P.Ok)(rr:P.Rr)(s:Fm)(n:Nat)(hs:s.Okn P n)(hn:n+100000≤1000000)(hv:s.Vf)(N:Int)(t:Fm)(ht:runF P s N=t)(B:Nat)(W:World)(b:Nat)(c:Dc)(l:List Ob)(h:DIo B W b c P s s.g s.p l)(hpg:DPg B W c P):
 Calls Tryz.prog 30 #[.pointer (some ⟨b,0,none⟩),.int .i64 N] W fun x w'=>x=.returned (.agg #[.int .i64 t.e,.int .u64 t.v,.int .i64 t.f,.int .i64 t.g,.int .i64 t.p])∧DIo B w' b c P t t.g t.p l∧Below B W w':=drun_any P ok rr s n hs hn hv N t ht B W b c l h hpg
theorem xrun_oc (P:Pr)(ok:P.Ok)(rr:P.Rr)(s:Fm)(n:Nat)(hs:s.Okn P n)(hn:n+100000≤1000000)(N:Int)(t:Fm)(ht:runF P s N=t)(B:Nat)(W:World)(a:Nat)(l:List Ob)(h:MIn B W a P s l):
 Calls Tryz.prog 14 #[.pointer (some ⟨a,0,none⟩),.int .i64 N] W fun x w'=>x=.returned (.agg #[.int .i64 t.e,.int .u64 t.v,.int .i64 t.f,.int .i64 t.g,.int .i64 t.p])∧MIn B w' a P t l∧Below B W w':=xrun_any P ok rr s n hs hn N t ht B W a l h
theorem ps_meas (N k:Nat)(h:k<N):N - (intOf (Value.int .i64 ((k:Int)+1))).toNat<N - (intOf (Value.int .i64 (k:Int))).toNat:=by
 simp[intOf];omega
theorem st0_vf (R:Rp)(gate:Int)(A L:List Int)(mem:List UInt8):(st0 R gate A L mem).Vf:=fun _=>⟨rfl,rfl⟩
open B (mks mks_len mks_at mks_one Mine own_of_cells own_mine wp_append_m row_cell own_marks)
theorem bwords_any (B kb:Nat)(wv tv:Value)(rw rt:List Value)(va:Option Addr)(n vc:Nat)(xs:List Value)(l:List Ob)(W:World)(h:Sep B W (bkO B kb wv tv rw rt++rowOb B 51 1 (.slice va n vc) n xs::l))(le:B≤W.heap.size)(hn:n≤2000000)(hK:rw.length≤1000000)(h5:rw.length%5=0):
 Calls Tryz.prog 33 #[.pointer (some ⟨kb,0,none⟩),.slice va n vc] W fun x w'=>x=.returned (.tuple #[])∧∃wv' rw',List.length rw'=rw.length+5∧Sep B w' (bkO B kb wv' tv rw' rt++l)∧Below B W w':=by
 obtain⟨nw,hnw⟩:∃k,rw.length=k:=⟨_,rfl⟩;obtain⟨M,hM⟩:∃M:Int,1000000+(nw:Int)=M:=⟨_,rfl⟩;have hmW:Hz (mW rw.length=[Value.int .u64 M]):=ζ (by unfold mW;rw[hnw,hM]);have ho:=h.ins (rowOb B 26 1 wv rw.length rw) (by simp[bkO]);obtain⟨wa,wc,rfl⟩:=own_slZ ho;have hA:=h.ins (boxOb kb #[.slice wa rw.length wc,tv]) (by simp[bkO]);have c0:W.cell? ⟨kb,0,none⟩=some (.slice wa nw wc):=by rw[←hnw];exact hA.2.1 0
 have w1:wrap64 (1000000+(nw:Int))=M:=by unfold wrap64;omega
 have w2:IntKind.i64.wrap (1000000+(nw:Int))=M:=by rw[IntKind.wrap_i64];omega
 have w3:IntKind.u64.wrap M=M:=by simp[IntKind.wrap,IntKind.bits,IntKind.signed];omega
 have hkl:kb<W.heap.size:=hA.1;have h1:Sep B W (rowOb B 51 1 (.slice va n vc) n xs::(bkO B kb (.slice wa rw.length wc) tv rw rt++l)):=sep_perm h List.perm_middle;have hS:=ζ (row_wt (mv:=[Value.int .u64 M]) h1 le);replace le:=ζ le;have G:Hz (Below B W W):=ζ (Below.refl _ _);obtain⟨bkL,hbk⟩:∃L,bkO B kb (.slice wa rw.length wc) tv rw rt++l=L:=⟨_,rfl⟩;rw[hbk]at hS;replace hbk:=ζ hbk;clear h h1 ho hA;go_enter Tryz.func33,Tryz.ntmps33;go_upto_region 2 with fail
 clear c0 w1 w2 w3 hkl;go_loopw [5] (fun x wr=>∃i:Nat,x=.int .i64 i∧i≤n∧Hz (Sep B wr (wtOb B 51 [Value.int .u64 M] (.slice va n vc) n i::bkL))∧Hz (Below B W wr)∧Hz (B≤wr.heap.size)) (fun x _=>n - (intOf x).toNat)
 case atStart=>exact⟨0,by first|rfl|go_num,Nat.zero_le _,hS,G,le⟩
 case round=>
  clear hS G le;obtain⟨i,rfl,hi,hS,G,le⟩:=hrel;by_cases hin:i<n
  ·have hi1:(i:Int)<(n:Int):=by omega
   obtain⟨g,rfl⟩:=own_form (hS.out.ins (wtOb B 51 [Value.int .u64 M] (.slice va n vc) n i) (by simp)).1 (by omega);obtain⟨hS2,b2,hth⟩:=wt_next hS.out le.out hin;obtain⟨th1,th2⟩:=hth 0 (Nat.succ_pos _);rw[show i*List.length [Value.int .u64 M]+0=i by simp]at th1 th2;obtain⟨u,hu⟩:=Option.isSome_iff_exists.1 th1;have hgl:g<wr.heap.size:=World.block_lt_of_cell? wr _ hu;have eS:wr.setCells g (i*List.length [Value.int .u64 M]) [Value.int .u64 M]=wr.setCell ⟨g,i,none⟩ (.int .u64 M):=by simp[World.setCells]
   rw[eS]at hS2 b2;replace G:=ζ (G.out.trans b2);replace hS:=ζ hS2;replace le:=ζ (Nat.le_trans le.out b2.size);clear hS2 b2 hth th1 eS;go_wp2_with fail;refine⟨⟨i+1,?_,hin,hS,G,le⟩,?_⟩
   ·first|rfl|rw[nextB hin hn]|go_num
   ·first|exact next_mZ hin|exact nextBn hin hn
  ·have hi1:¬(i:Int)<(n:Int):=by omega
   obtain rfl:n=i:=by omega
   replace hS:=ζ (wt_gp (mv:=[Value.int .u64 M]) (Nat.succ_pos _) hS.out le.out);go_upto_region 5 with fail
   refine wp_region_lit ?_;iterate 2 (refine xp fun K hK=>?_;go_simp;with_reducible refine hK _ _ ?_;clear hK K;(try simp only[xap]))
   refine xp fun K hK=>?_
   refine wp_bsW1 _ rfl M rfl ?_;refine hK _ _ ?_;clear hK K;try simp only[xap]
   refine xp fun K hK=>?_
   have hXa:At (wr.alloc (.cells (mks [Value.int .u64 M] 1).toArray 51)) wr.heap.size (mks [Value.int .u64 M] 1).toArray:=At.new wr _ _;have hba:Below wr.heap.size wr (wr.alloc (.cells (mks [Value.int .u64 M] 1).toArray 51)):=(Below.refl _ wr).alloc (Nat.le_refl _) _;have hSa:=hS.out.gr hba;have lea:B≤(wr.alloc (.cells (mks [Value.int .u64 M] 1).toArray 51)).heap.size:=Nat.le_trans le.out hba.size;refine wp_append_m [Value.int .u64 M] _ _ 26 51 (.int .u64 0) 8 rfl Tryz.underlying26 (by kernel_rfl) rfl (Nat.succ_pos _) (by simp[Value.oneCell']) B (.slice va n vc) (n) rfl (gp_mem hSa (by simp)) wr.heap.size 1 1 rfl hXa (by decide) (by unfold maxLen;omega) (by omega) lea (fun g1 c1 V1 k1 k2 k3 k4 k5 k6=>?_);obtain⟨hSb,bb⟩:=gp_app (v:=(.slice va n vc)) (n:=n) hSa lea (Nat.succ_pos _) (by simp) k1 k2 k3 k5 k6;have leb:Hz (B≤V1.heap.size):=ζ (Nat.le_trans lea bb.size);replace G:=ζ (G.out.trans ((hba.mono le.out).trans bb))
   replace hS:=ζ hSb;replace le:=leb;clear hXa hba hSa lea k1 k2 k3 k4 k5 k6 hSb bb leb;refine hK _ _ ?_;clear hK K;try simp only[xap]
   refine xp fun K hK=>?_
   go_simp;with_reducible refine hK _ _ ?_
   clear hK K;try simp only[xap]
   go_upto_region 6 with fail;refine wp_region_lit ?_;iterate 3 (refine xp fun K hK=>?_;go_simp;with_reducible refine hK _ _ ?_;clear hK K;(try simp only[xap]))
   refine xp fun K hK=>?_
   refine wp_bsW2 _ _ rfl M rfl rfl ?_;refine hK _ _ ?_;clear hK K;try simp only[xap]
   refine xp fun K hK=>?_
   have hXa:At (V1.alloc (.cells (mks [Value.int .u64 M] 2).toArray 51)) V1.heap.size (mks [Value.int .u64 M] 2).toArray:=At.new V1 _ _;have hba:Below V1.heap.size V1 (V1.alloc (.cells (mks [Value.int .u64 M] 2).toArray 51)):=(Below.refl _ V1).alloc (Nat.le_refl _) _;have hSa:=hS.out.gr hba;have lea:B≤(V1.alloc (.cells (mks [Value.int .u64 M] 2).toArray 51)).heap.size:=Nat.le_trans le.out hba.size;refine wp_append_m [Value.int .u64 M] _ _ 26 51 (.int .u64 0) 8 rfl Tryz.underlying26 (by kernel_rfl) rfl (Nat.succ_pos _) (by simp[Value.oneCell']) B (.slice va n vc) (n) rfl (gp_mem hSa (by simp)) V1.heap.size 2 2 rfl hXa (by decide) (by unfold maxLen;omega) (by omega) lea (fun g2 c2 V2 k1 k2 k3 k4 k5 k6=>?_);obtain⟨hSb,bb⟩:=gp_app (v:=(.slice va n vc)) (n:=n) hSa lea (Nat.succ_pos _) (by simp) k1 k2 k3 k5 k6;have leb:Hz (B≤V2.heap.size):=ζ (Nat.le_trans lea bb.size);replace G:=ζ (G.out.trans ((hba.mono le.out).trans bb))
   replace hS:=ζ hSb;replace le:=leb;clear hXa hba hSa lea k1 k2 k3 k4 k5 k6 hSb bb leb;refine hK _ _ ?_;clear hK K;try simp only[xap]
   refine xp fun K hK=>?_
   go_simp;with_reducible refine hK _ _ ?_
   clear hK K;try simp only[xap]
   go_upto_region 7 with fail;refine wp_region_lit ?_;iterate 4 (refine xp fun K hK=>?_;go_simp;with_reducible refine hK _ _ ?_;clear hK K;(try simp only[xap]))
   refine xp fun K hK=>?_
   refine wp_bsW3 _ _ _ rfl M rfl rfl rfl ?_;refine hK _ _ ?_;clear hK K;try simp only[xap]
   refine xp fun K hK=>?_
   have hXa:At (V2.alloc (.cells (mks [Value.int .u64 M] 3).toArray 51)) V2.heap.size (mks [Value.int .u64 M] 3).toArray:=At.new V2 _ _;have hba:Below V2.heap.size V2 (V2.alloc (.cells (mks [Value.int .u64 M] 3).toArray 51)):=(Below.refl _ V2).alloc (Nat.le_refl _) _;have hSa:=hS.out.gr hba;have lea:B≤(V2.alloc (.cells (mks [Value.int .u64 M] 3).toArray 51)).heap.size:=Nat.le_trans le.out hba.size;refine wp_append_m [Value.int .u64 M] _ _ 26 51 (.int .u64 0) 8 rfl Tryz.underlying26 (by kernel_rfl) rfl (Nat.succ_pos _) (by simp[Value.oneCell']) B (.slice va n vc) (n) rfl (gp_mem hSa (by simp)) V2.heap.size 3 3 rfl hXa (by decide) (by unfold maxLen;omega) (by omega) lea (fun g3 c3 V3 k1 k2 k3 k4 k5 k6=>?_);obtain⟨hSb,bb⟩:=gp_app (v:=(.slice va n vc)) (n:=n) hSa lea (Nat.succ_pos _) (by simp) k1 k2 k3 k5 k6;have leb:Hz (B≤V3.heap.size):=ζ (Nat.le_trans lea bb.size);replace G:=ζ (G.out.trans ((hba.mono le.out).trans bb))
   replace hS:=ζ hSb;replace le:=leb;clear hXa hba hSa lea k1 k2 k3 k4 k5 k6 hSb bb leb;refine hK _ _ ?_;clear hK K;try simp only[xap]
   refine xp fun K hK=>?_
   go_simp;with_reducible refine hK _ _ ?_
   clear hK K;try simp only[xap]
   go_upto_region 10 with fail;replace hS:=ζ (gp_sub (vs':=[(Value.slice (some ⟨g3,0,none⟩) (n+3+0) c3,n+3+0),(Value.slice (some ⟨g3,0,none⟩) (n+3) c3,n+3),(Value.slice (some ⟨g2,0,none⟩) (n+2) c2,n+2),(Value.slice (some ⟨g1,0,none⟩) (n+1) c1,n+1),(Value.slice va n vc,n)]) hS.out le.out (by simp));go_loopw [9,10] (fun v x wr=>∃(j g4 c4:Nat),v=.slice (some ⟨g4,0,none⟩) (n+3+j) c4∧x=.int .i64 j∧j≤60∧Hz (Sep B wr (gpOb B 51 [Value.int .u64 M] [(Value.slice (some ⟨g4,0,none⟩) (n+3+j) c4,n+3+j),(Value.slice (some ⟨g3,0,none⟩) (n+3) c3,n+3),(Value.slice (some ⟨g2,0,none⟩) (n+2) c2,n+2),(Value.slice (some ⟨g1,0,none⟩) (n+1) c1,n+1),(Value.slice va n vc,n)]::bkL))∧Hz (Below B W wr)∧Hz (B≤wr.heap.size)) (fun _ x _=>60 - (intOf x).toNat)
   case atStart=>exact⟨0,g3,c3,rfl,rfl,Nat.zero_le _,hS,G,le⟩
   case round=>
    clear hS G le;obtain⟨j,g4,c4,rfl,rfl,hj,hS,G,le⟩:=hrel;by_cases hj6:j<60
    ·have hj1:(j:Int)<60:=by omega
     go_upto_region 12 with fail;refine wp_region_lit ?_;iterate 2 (refine xp fun K hK=>?_;go_simp;with_reducible refine hK _ _ ?_;clear hK K;(try simp only[xap]))
     refine xp fun K hK=>?_
     refine wp_bsW1 _ rfl M rfl ?_;refine hK _ _ ?_;clear hK K;try simp only[xap]
     refine xp fun K hK=>?_
     have hXa:At (wr.alloc (.cells (mks [Value.int .u64 M] 1).toArray 51)) wr.heap.size (mks [Value.int .u64 M] 1).toArray:=At.new wr _ _;have hba:Below wr.heap.size wr (wr.alloc (.cells (mks [Value.int .u64 M] 1).toArray 51)):=(Below.refl _ wr).alloc (Nat.le_refl _) _;have hSa:=hS.out.gr hba;have lea:B≤(wr.alloc (.cells (mks [Value.int .u64 M] 1).toArray 51)).heap.size:=Nat.le_trans le.out hba.size;refine wp_append_m [Value.int .u64 M] _ _ 26 51 (.int .u64 0) 8 rfl Tryz.underlying26 (by kernel_rfl) rfl (Nat.succ_pos _) (by simp[Value.oneCell']) B (.slice (some ⟨g4,0,none⟩) (n+3+j) c4) (n+3+j) rfl (gp_mem hSa (by simp)) wr.heap.size 1 1 rfl hXa (by decide) (by unfold maxLen;omega) (by omega) lea (fun g5 c5 V5 k1 k2 k3 k4 k5 k6=>?_);obtain⟨hSb,bb⟩:=gp_app (v:=(.slice (some ⟨g4,0,none⟩) (n+3+j) c4)) (n:=n+3+j) hSa lea (Nat.succ_pos _) (by simp) k1 k2 k3 k5 k6;have leb:Hz (B≤V5.heap.size):=ζ (Nat.le_trans lea bb.size)
     replace G:=ζ (G.out.trans ((hba.mono le.out).trans bb));replace hS:=ζ hSb;replace le:=leb;clear hXa hba hSa lea k1 k2 k3 k4 k5 k6 hSb bb leb;refine hK _ _ ?_;clear hK K;try simp only[xap]
     refine xp fun K hK=>?_
     go_simp;with_reducible refine hK _ _ ?_
     clear hK K;try simp only[xap]
     replace hS:=ζ (gp_sub (vs':=[(Value.slice (some ⟨g5,0,none⟩) (n+3+(j+1)) c5,n+3+(j+1)),(Value.slice (some ⟨g3,0,none⟩) (n+3) c3,n+3),(Value.slice (some ⟨g2,0,none⟩) (n+2) c2,n+2),(Value.slice (some ⟨g1,0,none⟩) (n+1) c1,n+1),(Value.slice va n vc,n)]) hS.out le.out (by simp[Nat.add_assoc]));go_wp2_with fail;refine⟨⟨j+1,g5,c5,?_,?_,hj6,hS,G,le⟩,?_⟩
     ·first|rfl|rw[Nat.add_assoc]
     ·first|rfl|go_num
     ·exact ps_meas _ j hj6
    ·have hj1:¬(j:Int)<60:=by omega
     obtain rfl:j=60:=by omega
     obtain⟨n5,hn5⟩:∃k,nw+5=k:=⟨_,rfl⟩;rw[←hbk.out]at hS;simp only[bkO,List.cons_append,List.nil_append,hnw]at hS;have hA:=hS.out.ins (boxOb kb #[.slice wa nw wc,tv]) (by simp);have c0:wr.cell? ⟨kb,0,none⟩=some (.slice wa nw wc):=hA.2.1 0;clear hA;go_upto_region 13 with fail;refine wp_region_lit ?_;iterate 10 (refine xp fun K hK=>?_;go_simp;with_reducible refine hK _ _ ?_;clear hK K;(try simp only[xap]))
     refine xp fun K hK=>?_
     refine wp_bs5W _ _ _ _ _ rfl va (some ⟨g1,0,none⟩) (some ⟨g2,0,none⟩) (some ⟨g3,0,none⟩) (some ⟨g4,0,none⟩) n vc (n+1) c1 (n+2) c2 (n+3) c3 (n+3+60) c4 rfl rfl rfl rfl rfl ?_;refine hK _ _ ?_;clear hK K;try simp only[xap]
     refine xp fun K hK=>?_
     have hXa:At (wr.alloc (.cells (List.toArray [Value.slice va n vc,.slice (some ⟨g1,0,none⟩) (n+1) c1,.slice (some ⟨g2,0,none⟩) (n+2) c2,.slice (some ⟨g3,0,none⟩) (n+3) c3,.slice (some ⟨g4,0,none⟩) (n+3+60) c4]) 26)) wr.heap.size (List.toArray [Value.slice va n vc,.slice (some ⟨g1,0,none⟩) (n+1) c1,.slice (some ⟨g2,0,none⟩) (n+2) c2,.slice (some ⟨g3,0,none⟩) (n+3) c3,.slice (some ⟨g4,0,none⟩) (n+3+60) c4]):=At.new wr _ _;have hba:Below wr.heap.size wr (wr.alloc (.cells (List.toArray [Value.slice va n vc,.slice (some ⟨g1,0,none⟩) (n+1) c1,.slice (some ⟨g2,0,none⟩) (n+2) c2,.slice (some ⟨g3,0,none⟩) (n+3) c3,.slice (some ⟨g4,0,none⟩) (n+3+60) c4]) 26)):=(Below.refl _ wr).alloc (Nat.le_refl _) _;have hSa:=hS.out.gr hba;have lea:B≤(wr.alloc (.cells (List.toArray [Value.slice va n vc,.slice (some ⟨g1,0,none⟩) (n+1) c1,.slice (some ⟨g2,0,none⟩) (n+2) c2,.slice (some ⟨g3,0,none⟩) (n+3) c3,.slice (some ⟨g4,0,none⟩) (n+3+60) c4]) 26)).heap.size:=Nat.le_trans le.out hba.size
     have hoa:(wr.alloc (.cells (List.toArray [Value.slice va n vc,.slice (some ⟨g1,0,none⟩) (n+1) c1,.slice (some ⟨g2,0,none⟩) (n+2) c2,.slice (some ⟨g3,0,none⟩) (n+3) c3,.slice (some ⟨g4,0,none⟩) (n+3+60) c4]) 26)).ownsRow B 26 1 (.slice wa nw wc) nw rw:=hSa.ins (rowOb B 26 1 (.slice wa nw wc) nw rw) (by simp);refine wp_cp _ _ 36 rfl (.slice wa nw wc) rfl (.slice (some ⟨wr.heap.size,0,none⟩) 5 5) rfl (fun v' w'=>w'.ownsRow B 26 1 v' (nw+5) (rw++[Value.slice va n vc,.slice (some ⟨g1,0,none⟩) (n+1) c1,.slice (some ⟨g2,0,none⟩) (n+2) c2,.slice (some ⟨g3,0,none⟩) (n+3) c3,.slice (some ⟨g4,0,none⟩) (n+3+60) c4])∧Kp (fun k=>(Value.slice wa nw wc).ownBlock=some k) (wr.alloc (.cells (List.toArray [Value.slice va n vc,.slice (some ⟨g1,0,none⟩) (n+1) c1,.slice (some ⟨g2,0,none⟩) (n+2) c2,.slice (some ⟨g3,0,none⟩) (n+3) c3,.slice (some ⟨g4,0,none⟩) (n+3+60) c4]) 26)) w'∧(∀k,v'.ownBlock=some k→(Value.slice wa nw wc).ownBlock=some k∨(wr.alloc (.cells (List.toArray [Value.slice va n vc,.slice (some ⟨g1,0,none⟩) (n+1) c1,.slice (some ⟨g2,0,none⟩) (n+2) c2,.slice (some ⟨g3,0,none⟩) (n+3) c3,.slice (some ⟨g4,0,none⟩) (n+3+60) c4]) 26)).heap.size≤k)) (fun ty=>row5_run 36 26 B Tryz.underlying36 (by kernel_rfl) _ _ nw rw [Value.slice va n vc,.slice (some ⟨g1,0,none⟩) (n+1) c1,.slice (some ⟨g2,0,none⟩) (n+2) c2,.slice (some ⟨g3,0,none⟩) (n+3) c3,.slice (some ⟨g4,0,none⟩) (n+3+60) c4] hoa wr.heap.size hXa rfl (by simp[Value.oneCell']) (by omega) lea ty) (fun v2 W2 hR=>?_)
     obtain⟨k1,k2,k3⟩:=hR;rw[hn5]at k1;obtain⟨wa2,wc2,rfl⟩:=own_slZ k1;have hSb:=sep_change (l1:=[gpOb B 51 [Value.int .u64 M] [(Value.slice (some ⟨g4,0,none⟩) (n+3+60) c4,n+3+60),(Value.slice (some ⟨g3,0,none⟩) (n+3) c3,n+3),(Value.slice (some ⟨g2,0,none⟩) (n+2) c2,n+2),(Value.slice (some ⟨g1,0,none⟩) (n+1) c1,n+1),(Value.slice va n vc,n)],boxOb kb #[.slice wa nw wc,tv]]) (o:=rowOb B 26 1 (.slice wa nw wc) nw rw) (o':=rowOb B 26 1 (.slice wa2 n5 wc2) n5 (rw++[Value.slice va n vc,.slice (some ⟨g1,0,none⟩) (n+1) c1,.slice (some ⟨g2,0,none⟩) (n+2) c2,.slice (some ⟨g3,0,none⟩) (n+3) c3,.slice (some ⟨g4,0,none⟩) (n+3+60) c4])) (l2:=rowOb B 64 1 tv rt.length rt::lsOb B 51 1 mW rw::lsOb B 67 3 mT rt::l) hSa k1 k2 k3 lea;have bb:=sep_below (l1:=[gpOb B 51 [Value.int .u64 M] [(Value.slice (some ⟨g4,0,none⟩) (n+3+60) c4,n+3+60),(Value.slice (some ⟨g3,0,none⟩) (n+3) c3,n+3),(Value.slice (some ⟨g2,0,none⟩) (n+2) c2,n+2),(Value.slice (some ⟨g1,0,none⟩) (n+1) c1,n+1),(Value.slice va n vc,n)],boxOb kb #[.slice wa nw wc,tv]]) (o:=rowOb B 26 1 (.slice wa nw wc) nw rw) (l2:=rowOb B 64 1 tv rt.length rt::lsOb B 51 1 mW rw::lsOb B 67 3 mT rt::l) hSa k2 lea
     have leb:B≤W2.heap.size:=Nat.le_trans lea bb.size;have hAb:At W2 kb #[.slice wa nw wc,tv]:=hSb.ins (boxOb kb #[.slice wa nw wc,tv]) (by simp);have c0b:W2.cell? ⟨kb,0,none⟩=some (.slice wa nw wc):=hAb.2.1 0;have f0b:=hAb.2.2 0;have klb:=hAb.1;have hkk:Kp (fun k=>k=kb) W2 (W2.setCell ⟨kb,0,none⟩ (.slice wa2 n5 wc2)):=Kp.set (S:=fun k=>k=kb) W2 ⟨kb,0,none⟩ _ rfl;have hSc:=ζ (sep_change (l1:=[gpOb B 51 [Value.int .u64 M] [(Value.slice (some ⟨g4,0,none⟩) (n+3+60) c4,n+3+60),(Value.slice (some ⟨g3,0,none⟩) (n+3) c3,n+3),(Value.slice (some ⟨g2,0,none⟩) (n+2) c2,n+2),(Value.slice (some ⟨g1,0,none⟩) (n+1) c1,n+1),(Value.slice va n vc,n)]]) (o:=boxOb kb #[.slice wa nw wc,tv]) (o':=boxOb kb #[.slice wa2 n5 wc2,tv]) (l2:=rowOb B 26 1 (.slice wa2 n5 wc2) n5 (rw++[Value.slice va n vc,.slice (some ⟨g1,0,none⟩) (n+1) c1,.slice (some ⟨g2,0,none⟩) (n+2) c2,.slice (some ⟨g3,0,none⟩) (n+3) c3,.slice (some ⟨g4,0,none⟩) (n+3+60) c4])::rowOb B 64 1 tv rt.length rt::lsOb B 51 1 mW rw::lsOb B 67 3 mT rt::l) hSb (hAb.set 0 (.slice wa2 n5 wc2) (by simp)) hkk (fun _ r=>.inl r) leb)
     have bc:=sep_below (l1:=[gpOb B 51 [Value.int .u64 M] [(Value.slice (some ⟨g4,0,none⟩) (n+3+60) c4,n+3+60),(Value.slice (some ⟨g3,0,none⟩) (n+3) c3,n+3),(Value.slice (some ⟨g2,0,none⟩) (n+2) c2,n+2),(Value.slice (some ⟨g1,0,none⟩) (n+1) c1,n+1),(Value.slice va n vc,n)]]) (o:=boxOb kb #[.slice wa nw wc,tv]) (l2:=rowOb B 26 1 (.slice wa2 n5 wc2) n5 (rw++[Value.slice va n vc,.slice (some ⟨g1,0,none⟩) (n+1) c1,.slice (some ⟨g2,0,none⟩) (n+2) c2,.slice (some ⟨g3,0,none⟩) (n+3) c3,.slice (some ⟨g4,0,none⟩) (n+3+60) c4])::rowOb B 64 1 tv rt.length rt::lsOb B 51 1 mW rw::lsOb B 67 3 mT rt::l) hSb hkk leb;replace G:=ζ (G.out.trans ((hba.mono le.out).trans (bb.trans bc)));replace le:=ζ (Nat.le_trans leb bc.size);clear hXa hba hSa lea hoa k1 k2 k3 hSb bb leb hAb hkk bc hS c0;refine hK _ _ ?_;clear hK K;try simp only[xap]
     iterate 2 (refine xp fun K hK=>?_;go_simp;with_reducible refine hK _ _ ?_;clear hK K;(try simp only[xap]))
     refine xp fun K hK=>?_
     go_simp;with_reducible refine hK _ _ ?_
     clear hK K;try simp only[Act.put]
     clear c0b f0b klb;generalize World.setCell _ _ _=V9 at*;have hA:=hSc.out.ins (boxOb kb #[.slice wa2 n5 wc2,tv]) (by simp);have c0:V9.cell? ⟨kb,0,none⟩=some (.slice wa2 n5 wc2):=hA.2.1 0;have hkl:=hA.1;clear hA;have hro:Hz (V9.ownsRow B 26 1 (.slice wa2 n5 wc2) n5 (rw++[Value.slice va n vc,.slice (some ⟨g1,0,none⟩) (n+1) c1,.slice (some ⟨g2,0,none⟩) (n+2) c2,.slice (some ⟨g3,0,none⟩) (n+3) c3,.slice (some ⟨g4,0,none⟩) (n+3+60) c4])):=ζ (hSc.out.ins (rowOb B 26 1 (.slice wa2 n5 wc2) n5 (rw++[Value.slice va n vc,.slice (some ⟨g1,0,none⟩) (n+1) c1,.slice (some ⟨g2,0,none⟩) (n+2) c2,.slice (some ⟨g3,0,none⟩) (n+3) c3,.slice (some ⟨g4,0,none⟩) (n+3+60) c4])) (by simp));have hgp:Hz (∀p∈[(Value.slice (some ⟨g4,0,none⟩) (n+3+60) c4,n+3+60),(Value.slice (some ⟨g3,0,none⟩) (n+3) c3,n+3),(Value.slice (some ⟨g2,0,none⟩) (n+2) c2,n+2),(Value.slice (some ⟨g1,0,none⟩) (n+1) c1,n+1),(Value.slice va n vc,n)],V9.ownsRow B 51 1 p.1 p.2 (mks [Value.int .u64 M] p.2)):=ζ (hSc.out.ins (gpOb B 51 [Value.int .u64 M] [(Value.slice (some ⟨g4,0,none⟩) (n+3+60) c4,n+3+60),(Value.slice (some ⟨g3,0,none⟩) (n+3) c3,n+3),(Value.slice (some ⟨g2,0,none⟩) (n+2) c2,n+2),(Value.slice (some ⟨g1,0,none⟩) (n+1) c1,n+1),(Value.slice va n vc,n)]) (by simp))
     have w5:wrap64 ((n5:Int) - 5)=(nw:Int):=by unfold wrap64;omega
     have w6:IntKind.i64.wrap ((n5:Int) - 5)=(nw:Int):=by rw[IntKind.wrap_i64];omega
     go_upto_region 15 with fail;clear w5 w6;go_loopw [11] (fun x wq=>∃i:Nat,x=.int .i64 i∧nw≤i∧i≤n5∧wq=V9) (fun x _=>n5 - (intOf x).toNat)
     case atStart=>exact⟨nw,rfl,Nat.le_refl _,by omega,rfl⟩
     case round=>
      obtain⟨i,rfl,hi0,hi5,rfl⟩:=hrel;by_cases hin:i<n5
      ·have hi1:(i:Int)<(n5:Int):=by omega
       obtain⟨p,hp,hpi⟩:=five_at rw (Value.slice (some ⟨g4,0,none⟩) (n+3+60) c4,n+3+60) (Value.slice (some ⟨g3,0,none⟩) (n+3) c3,n+3) (Value.slice (some ⟨g2,0,none⟩) (n+2) c2,n+2) (Value.slice (some ⟨g1,0,none⟩) (n+1) c1,n+1) (Value.slice va n vc,n) i (by omega) (by omega);obtain⟨gR,rfl,hgR,hrow⟩:=row_cellB hro.out hpi;have hpo:=hgp.out p hp;obtain⟨pv,pn⟩:=p;dsimp only at hpo hrow;have hpn:pn≤n+63:=by
        simp only[List.mem_cons,Prod.mk.injEq,List.not_mem_nil,or_false]at hp;omega
       obtain⟨ta,tk,rfl⟩:=own_slZ hpo;replace hpo:=ζ hpo;clear hp hpi;go_upto_region 18 with fail;go_loopw [12] (fun x wq=>∃q:Nat,x=.int .i64 q∧q≤pn∧wq=wr) (fun x _=>pn - (intOf x).toNat)
       case atStart=>exact⟨0,rfl,Nat.zero_le _,rfl⟩
       case round=>
        obtain⟨q,rfl,hq,rfl⟩:=hrel;by_cases hqn:q<pn
        ·have hq1:(q:Int)<(pn:Int):=by omega
         obtain⟨g,rfl⟩:=own_form ⟨_,hpo.out⟩ (by omega);have hcm:=own_marks (mv:=[Value.int .u64 M]) hpo.out q hqn 0 (Nat.succ_pos _);obtain⟨_,hfr⟩:=own_thereB hpo.out hqn 0 (by decide);rw[show q*List.length [Value.int .u64 M]+0=q by simp]at hcm;rw[show q*1+0=q by omega]at hfr;replace hcm:wr.cell? ⟨g,q,none⟩=some (.int .u64 M):=hcm;have hself:=set_self wr g q (.int .u64 M) hcm;have hgl:g<wr.heap.size:=World.block_lt_of_cell? wr _ hcm;go_wp2_with fail;refine⟨⟨q+1,?_,hqn,?_⟩,?_⟩
         ·first|rfl|rw[nextB hqn (by omega)]|go_num
         ·first|exact hself|trivial|rfl
         ·first|exact next_mZ hqn|exact nextBn hqn (by omega)
        ·have hq1:¬(q:Int)<(pn:Int):=by omega
         go_wp2_with fail;refine⟨⟨i+1,?_,by omega,hin,?_⟩,?_⟩
         ·first|rfl|rw[nextB hin (by omega)]|go_num
         ·first|trivial|rfl
         ·first|exact next_mZ hin|exact nextBn hin (by omega)
      ·have hi1:¬(i:Int)<(n5:Int):=by omega
       clear hro hgp;go_wp2_with fail
       first|go_end0|((try simp only[Exit.inBlock,Exit.then]);refine xre ?_)
       refine⟨rfl,.slice wa2 n5 wc2,rw++[Value.slice va n vc,.slice (some ⟨g1,0,none⟩) (n+1) c1,.slice (some ⟨g2,0,none⟩) (n+2) c2,.slice (some ⟨g3,0,none⟩) (n+3) c3,.slice (some ⟨g4,0,none⟩) (n+3+60) c4],by(rw[List.length_append];show rw.length+5=_;omega),?_,G.out⟩;have hm:=gp_fifth _ _ _ _ _ _ _ _ _ _ hSc.out le.out;rw[←hmW.out]at hm;have hm2:=ls_merge (k:=1) (mk:=mW) (fun _=>rfl) (Value.slice va n vc,n) (Value.slice (some ⟨g1,0,none⟩) (n+1) c1,n+1) (Value.slice (some ⟨g2,0,none⟩) (n+2) c2,n+2) (Value.slice (some ⟨g3,0,none⟩) (n+3) c3,n+3) (Value.slice (some ⟨g4,0,none⟩) (n+3+60) c4,n+3+60) h5 hm (by
        intro p hp;simp only[List.mem_cons,List.not_mem_nil,or_false]at hp;rcases hp with rfl|rfl|rfl|rfl|rfl<;>(dsimp only;omega))
       have hl5:(rw++[Value.slice va n vc,.slice (some ⟨g1,0,none⟩) (n+1) c1,.slice (some ⟨g2,0,none⟩) (n+2) c2,.slice (some ⟨g3,0,none⟩) (n+3) c3,.slice (some ⟨g4,0,none⟩) (n+3+60) c4]).length=n5:=by rw[←hn5,←hnw,List.length_append];rfl
       refine sep_perm hm2 ?_;simp only[bkO,hl5,List.cons_append,List.nil_append];exact(List.perm_middle (l₁:=[boxOb kb #[.slice wa2 n5 wc2,tv],rowOb B 26 1 (.slice wa2 n5 wc2) n5 (rw++[Value.slice va n vc,.slice (some ⟨g1,0,none⟩) (n+1) c1,.slice (some ⟨g2,0,none⟩) (n+2) c2,.slice (some ⟨g3,0,none⟩) (n+3) c3,.slice (some ⟨g4,0,none⟩) (n+3+60) c4]),rowOb B 64 1 tv rt.length rt])).symm
theorem btouches_any (B kb:Nat)(wv tv:Value)(rw rt:List Value)(va:Option Addr)(n vc:Nat)(xs:List Value)(l:List Ob)(W:World)(h:Sep B W (bkO B kb wv tv rw rt++rowOb B 67 3 (.slice va n vc) n xs::l))(le:B≤W.heap.size)(hn:n≤2000000)(hK:rt.length≤1000000)(h5:rt.length%5=0):
 Calls Tryz.prog 35 #[.pointer (some ⟨kb,0,none⟩),.slice va n vc] W fun x w'=>x=.returned (.tuple #[])∧∃tv' rt',List.length rt'=rt.length+5∧Sep B w' (bkO B kb wv tv' rw rt'++l)∧Below B W w':=by
 obtain⟨nw,hnw⟩:∃k,rt.length=k:=⟨_,rfl⟩;obtain⟨M,hM⟩:∃M:Int,1000000+(nw:Int)=M:=⟨_,rfl⟩;have hmW:Hz (mT rt.length=[Value.bool false,.int .u64 M,.int .u64 0]):=ζ (by unfold mT;rw[hnw,hM]);have ho:=h.ins (rowOb B 64 1 tv rt.length rt) (by simp[bkO]);obtain⟨wa,wc,rfl⟩:=own_slZ ho;have hA:=h.ins (boxOb kb #[wv,.slice wa rt.length wc]) (by simp[bkO]);have c0:W.cell? ⟨kb,1,none⟩=some (.slice wa nw wc):=by rw[←hnw];exact hA.2.1 1
 have w1:wrap64 (1000000+(nw:Int))=M:=by unfold wrap64;omega
 have w2:IntKind.i64.wrap (1000000+(nw:Int))=M:=by rw[IntKind.wrap_i64];omega
 have w3:IntKind.u64.wrap M=M:=by simp[IntKind.wrap,IntKind.bits,IntKind.signed];omega
 have hkl:kb<W.heap.size:=hA.1;have h1:Sep B W (rowOb B 67 3 (.slice va n vc) n xs::(bkO B kb wv (.slice wa rt.length wc) rw rt++l)):=sep_perm h List.perm_middle;have hS:=ζ (row_wt (mv:=[Value.bool false,.int .u64 M,.int .u64 0]) h1 le);replace le:=ζ le;have G:Hz (Below B W W):=ζ (Below.refl _ _);replace hA:=ζ hA;clear h h1 ho;go_enter Tryz.func35,Tryz.ntmps35;go_upto_region 1 with fail
 refine wp_world (fun X=>∃k,k=W.heap.size∧At X k #[.bool false,.int .u64 M,.int .u64 0]∧Gr W X) ?_ ?_
 ·first|exact⟨_,rfl,At.new W _ _,(Gr.refl _).alloc _⟩|exact⟨_,rfl,At.setAll (At.new W _ _) _ rfl,Gr.setCells ((Gr.refl W).alloc _) _ (Nat.le_refl _) _ 0⟩
 rintro V0 ⟨kn,hkk,hAn,gn⟩;rw[←hkk];have hS0:=hS.out.add (boxOb kn #[.bool false,.int .u64 M,.int .u64 0]) hAn (fun k (q:k=kn)=>by rw[q,hkk];exact Nat.le_refl _) gn.below le.out;replace hS:Hz (Sep B V0 (wtOb B 67 [Value.bool false,.int .u64 M,.int .u64 0] (.slice va n vc) n 0::(bkO B kb wv (.slice wa rt.length wc) rw rt++boxOb kn #[.bool false,.int .u64 M,.int .u64 0]::l))):=ζ (sep_perm hS0 ((List.Perm.swap _ _ _).trans (List.Perm.cons _ List.perm_middle.symm)));replace G:Hz (Below B W V0):=ζ (gn.below.mono le.out);replace le:Hz (B≤V0.heap.size):=ζ (Nat.le_trans le.out gn.below.size);obtain⟨bkL,hbk⟩:∃L,bkO B kb wv (.slice wa rt.length wc) rw rt++boxOb kn #[.bool false,.int .u64 M,.int .u64 0]::l=L:=⟨_,rfl⟩;have hkn:Hz (boxOb kn #[.bool false,.int .u64 M,.int .u64 0]∈bkL):=ζ (by rw[←hbk];simp);rw[hbk]at hS;replace hbk:=ζ hbk;clear c0 w1 w2 w3 hkl hS0 hAn gn hkk hA;go_upto_region 2 with fail
 go_loopw [5] (fun x wr=>∃i:Nat,x=.int .i64 i∧i≤n∧Hz (Sep B wr (wtOb B 67 [Value.bool false,.int .u64 M,.int .u64 0] (.slice va n vc) n i::bkL))∧Hz (Below B W wr)∧Hz (B≤wr.heap.size)) (fun x _=>n - (intOf x).toNat)
 case atStart=>exact⟨0,by first|rfl|go_num,Nat.zero_le _,hS,G,le⟩
 case round=>
  clear hS G le;obtain⟨i,rfl,hi,hS,G,le⟩:=hrel;by_cases hin:i<n
  ·have hi1:(i:Int)<(n:Int):=by omega
   obtain⟨g,rfl⟩:=own_form (hS.out.ins (wtOb B 67 [Value.bool false,.int .u64 M,.int .u64 0] (.slice va n vc) n i) (by simp)).1 (by omega);obtain⟨hS2,b2,hth⟩:=wt_next hS.out le.out hin;obtain⟨th1,th2⟩:=hth 0 (Nat.succ_pos _);have hthh:Hz (wr.there g (i*3) 3):=ζ hth;have A9:At wr kn #[.bool false,.int .u64 M,.int .u64 0]:=hS.out.ins (boxOb kn #[.bool false,.int .u64 M,.int .u64 0]) (List.mem_cons_of_mem _ hkn.out);have m0:wr.cell? ⟨kn,0,none⟩=some (.bool false):=A9.2.1 0;have m1:wr.cell? ⟨kn,1,none⟩=some (.int .u64 M):=A9.2.1 1;have m2:wr.cell? ⟨kn,2,none⟩=some (.int .u64 0):=A9.2.1 2;have hS3:Hz (Sep B (wr.setCells g (i*3) [Value.bool false,.int .u64 M,.int .u64 0]) (wtOb B 67 [Value.bool false,.int .u64 M,.int .u64 0] (.slice (some ⟨g,0,none⟩) n vc) n (i+1)::bkL)):=ζ hS2;have b3:Hz (Below B wr (wr.setCells g (i*3) [Value.bool false,.int .u64 M,.int .u64 0])):=ζ b2;clear hS2 b2 hth th1 th2 hS
   go_upto_region 4 with fail;refine wp_region_lit ?_;iterate 4 (refine xp fun K hK=>?_;go_simp;with_reducible refine hK _ _ ?_;clear hK K;(try simp only[xap]))
   refine xp fun K hK=>?_
   refine wp_store_mid _ _ _ rfl _ _ (List.toArray [Value.bool false,.int .u64 M,.int .u64 0]) rfl rfl hthh.out (by kernel_rfl) (by simp[Value.oneCell']) (hK _ _ ?_);clear hK K;try simp only[Act.put]
   clear A9 m0 m1 m2 hthh;replace G:=ζ (G.out.trans b3.out);have hS:=hS3;replace le:=ζ (Nat.le_trans le.out b3.out.size);generalize World.setCells _ _ _ _=Vn at*;clear b3 hS3;go_wp2_with fail;refine⟨⟨i+1,?_,hin,hS,G,le⟩,?_⟩
   ·first|rfl|rw[nextB hin hn]|go_num
   ·first|exact next_mZ hin|exact nextBn hin hn
  ·have hi1:¬(i:Int)<(n:Int):=by omega
   obtain rfl:n=i:=by omega
   replace hS:=ζ (wt_gp (mv:=[Value.bool false,.int .u64 M,.int .u64 0]) (Nat.succ_pos _) hS.out le.out);have A9:At wr kn #[.bool false,.int .u64 M,.int .u64 0]:=hS.out.ins (boxOb kn #[.bool false,.int .u64 M,.int .u64 0]) (List.mem_cons_of_mem _ hkn.out);have m0:wr.cell? ⟨kn,0,none⟩=some (.bool false):=A9.2.1 0;have m1:wr.cell? ⟨kn,1,none⟩=some (.int .u64 M):=A9.2.1 1;have m2:wr.cell? ⟨kn,2,none⟩=some (.int .u64 0):=A9.2.1 2;go_upto_region 5 with fail
   refine wp_region_lit ?_;iterate 2 (refine xp fun K hK=>?_;go_simp;with_reducible refine hK _ _ ?_;clear hK K;(try simp only[xap]))
   refine xp fun K hK=>?_
   refine wp_bsT1 _ rfl M rfl ?_;refine hK _ _ ?_;clear hK K;try simp only[xap]
   refine xp fun K hK=>?_
   have hXa:At (wr.alloc (.cells (mks [Value.bool false,.int .u64 M,.int .u64 0] 1).toArray 67)) wr.heap.size (mks [Value.bool false,.int .u64 M,.int .u64 0] 1).toArray:=At.new wr _ _;have hba:Below wr.heap.size wr (wr.alloc (.cells (mks [Value.bool false,.int .u64 M,.int .u64 0] 1).toArray 67)):=(Below.refl _ wr).alloc (Nat.le_refl _) _;have hSa:=hS.out.gr hba;have lea:B≤(wr.alloc (.cells (mks [Value.bool false,.int .u64 M,.int .u64 0] 1).toArray 67)).heap.size:=Nat.le_trans le.out hba.size;refine wp_append_m [Value.bool false,.int .u64 M,.int .u64 0] _ _ 64 67 (.agg #[.bool false,.int .u64 0,.int .u64 0]) 24 rfl Tryz.underlying64 (by kernel_rfl) rfl (Nat.succ_pos _) (by simp[Value.oneCell']) B (.slice va n vc) (n) rfl (gp_mem hSa (by simp)) wr.heap.size 1 1 rfl hXa (by decide) (by unfold maxLen;omega) (by omega) lea (fun g1 c1 V1 k1 k2 k3 k4 k5 k6=>?_);obtain⟨hSb,bb⟩:=gp_app (v:=(.slice va n vc)) (n:=n) hSa lea (Nat.succ_pos _) (by simp) k1 k2 k3 k5 k6
   have leb:Hz (B≤V1.heap.size):=ζ (Nat.le_trans lea bb.size);replace G:=ζ (G.out.trans ((hba.mono le.out).trans bb));replace hS:=ζ hSb;replace le:=leb;clear hXa hba hSa lea k1 k2 k3 k4 k5 k6 hSb bb leb;refine hK _ _ ?_;clear hK K;try simp only[xap]
   refine xp fun K hK=>?_
   go_simp;with_reducible refine hK _ _ ?_
   clear hK K;try simp only[xap]
   clear A9 m0 m1 m2;have A9:At V1 kn #[.bool false,.int .u64 M,.int .u64 0]:=hS.out.ins (boxOb kn #[.bool false,.int .u64 M,.int .u64 0]) (List.mem_cons_of_mem _ hkn.out);have m0:V1.cell? ⟨kn,0,none⟩=some (.bool false):=A9.2.1 0;have m1:V1.cell? ⟨kn,1,none⟩=some (.int .u64 M):=A9.2.1 1;have m2:V1.cell? ⟨kn,2,none⟩=some (.int .u64 0):=A9.2.1 2;go_upto_region 6 with fail
   refine wp_region_lit ?_;iterate 3 (refine xp fun K hK=>?_;go_simp;with_reducible refine hK _ _ ?_;clear hK K;(try simp only[xap]))
   refine xp fun K hK=>?_
   refine wp_bsT2 _ _ rfl M rfl rfl ?_;refine hK _ _ ?_;clear hK K;try simp only[xap]
   refine xp fun K hK=>?_
   have hXa:At (V1.alloc (.cells (mks [Value.bool false,.int .u64 M,.int .u64 0] 2).toArray 67)) V1.heap.size (mks [Value.bool false,.int .u64 M,.int .u64 0] 2).toArray:=At.new V1 _ _;have hba:Below V1.heap.size V1 (V1.alloc (.cells (mks [Value.bool false,.int .u64 M,.int .u64 0] 2).toArray 67)):=(Below.refl _ V1).alloc (Nat.le_refl _) _;have hSa:=hS.out.gr hba;have lea:B≤(V1.alloc (.cells (mks [Value.bool false,.int .u64 M,.int .u64 0] 2).toArray 67)).heap.size:=Nat.le_trans le.out hba.size;refine wp_append_m [Value.bool false,.int .u64 M,.int .u64 0] _ _ 64 67 (.agg #[.bool false,.int .u64 0,.int .u64 0]) 24 rfl Tryz.underlying64 (by kernel_rfl) rfl (Nat.succ_pos _) (by simp[Value.oneCell']) B (.slice va n vc) (n) rfl (gp_mem hSa (by simp)) V1.heap.size 2 2 rfl hXa (by decide) (by unfold maxLen;omega) (by omega) lea (fun g2 c2 V2 k1 k2 k3 k4 k5 k6=>?_);obtain⟨hSb,bb⟩:=gp_app (v:=(.slice va n vc)) (n:=n) hSa lea (Nat.succ_pos _) (by simp) k1 k2 k3 k5 k6
   have leb:Hz (B≤V2.heap.size):=ζ (Nat.le_trans lea bb.size);replace G:=ζ (G.out.trans ((hba.mono le.out).trans bb));replace hS:=ζ hSb;replace le:=leb;clear hXa hba hSa lea k1 k2 k3 k4 k5 k6 hSb bb leb;refine hK _ _ ?_;clear hK K;try simp only[xap]
   refine xp fun K hK=>?_
   go_simp;with_reducible refine hK _ _ ?_
   clear hK K;try simp only[xap]
   clear A9 m0 m1 m2;have A9:At V2 kn #[.bool false,.int .u64 M,.int .u64 0]:=hS.out.ins (boxOb kn #[.bool false,.int .u64 M,.int .u64 0]) (List.mem_cons_of_mem _ hkn.out);have m0:V2.cell? ⟨kn,0,none⟩=some (.bool false):=A9.2.1 0;have m1:V2.cell? ⟨kn,1,none⟩=some (.int .u64 M):=A9.2.1 1;have m2:V2.cell? ⟨kn,2,none⟩=some (.int .u64 0):=A9.2.1 2;go_upto_region 7 with fail
   refine wp_region_lit ?_;iterate 4 (refine xp fun K hK=>?_;go_simp;with_reducible refine hK _ _ ?_;clear hK K;(try simp only[xap]))
   refine xp fun K hK=>?_
   refine wp_bsT3 _ _ _ rfl M rfl rfl rfl ?_;refine hK _ _ ?_;clear hK K;try simp only[xap]
   refine xp fun K hK=>?_
   have hXa:At (V2.alloc (.cells (mks [Value.bool false,.int .u64 M,.int .u64 0] 3).toArray 67)) V2.heap.size (mks [Value.bool false,.int .u64 M,.int .u64 0] 3).toArray:=At.new V2 _ _;have hba:Below V2.heap.size V2 (V2.alloc (.cells (mks [Value.bool false,.int .u64 M,.int .u64 0] 3).toArray 67)):=(Below.refl _ V2).alloc (Nat.le_refl _) _;have hSa:=hS.out.gr hba;have lea:B≤(V2.alloc (.cells (mks [Value.bool false,.int .u64 M,.int .u64 0] 3).toArray 67)).heap.size:=Nat.le_trans le.out hba.size;refine wp_append_m [Value.bool false,.int .u64 M,.int .u64 0] _ _ 64 67 (.agg #[.bool false,.int .u64 0,.int .u64 0]) 24 rfl Tryz.underlying64 (by kernel_rfl) rfl (Nat.succ_pos _) (by simp[Value.oneCell']) B (.slice va n vc) (n) rfl (gp_mem hSa (by simp)) V2.heap.size 3 3 rfl hXa (by decide) (by unfold maxLen;omega) (by omega) lea (fun g3 c3 V3 k1 k2 k3 k4 k5 k6=>?_);obtain⟨hSb,bb⟩:=gp_app (v:=(.slice va n vc)) (n:=n) hSa lea (Nat.succ_pos _) (by simp) k1 k2 k3 k5 k6
   have leb:Hz (B≤V3.heap.size):=ζ (Nat.le_trans lea bb.size);replace G:=ζ (G.out.trans ((hba.mono le.out).trans bb));replace hS:=ζ hSb;replace le:=leb;clear hXa hba hSa lea k1 k2 k3 k4 k5 k6 hSb bb leb;refine hK _ _ ?_;clear hK K;try simp only[xap]
   refine xp fun K hK=>?_
   go_simp;with_reducible refine hK _ _ ?_
   clear hK K;try simp only[xap]
   clear A9 m0 m1 m2;go_upto_region 10 with fail
   replace hS:=ζ (gp_sub (vs':=[(Value.slice (some ⟨g3,0,none⟩) (n+3+0) c3,n+3+0),(Value.slice (some ⟨g3,0,none⟩) (n+3) c3,n+3),(Value.slice (some ⟨g2,0,none⟩) (n+2) c2,n+2),(Value.slice (some ⟨g1,0,none⟩) (n+1) c1,n+1),(Value.slice va n vc,n)]) hS.out le.out (by simp));go_loopw [9,10] (fun v x wr=>∃(j g4 c4:Nat),v=.slice (some ⟨g4,0,none⟩) (n+3+j) c4∧x=.int .i64 j∧j≤60∧Hz (Sep B wr (gpOb B 67 [Value.bool false,.int .u64 M,.int .u64 0] [(Value.slice (some ⟨g4,0,none⟩) (n+3+j) c4,n+3+j),(Value.slice (some ⟨g3,0,none⟩) (n+3) c3,n+3),(Value.slice (some ⟨g2,0,none⟩) (n+2) c2,n+2),(Value.slice (some ⟨g1,0,none⟩) (n+1) c1,n+1),(Value.slice va n vc,n)]::bkL))∧Hz (Below B W wr)∧Hz (B≤wr.heap.size)) (fun _ x _=>60 - (intOf x).toNat)
   case atStart=>exact⟨0,g3,c3,rfl,rfl,Nat.zero_le _,hS,G,le⟩
   case round=>
    clear hS G le;obtain⟨j,g4,c4,rfl,rfl,hj,hS,G,le⟩:=hrel;by_cases hj6:j<60
    ·have hj1:(j:Int)<60:=by omega
     have A9:At wr kn #[.bool false,.int .u64 M,.int .u64 0]:=hS.out.ins (boxOb kn #[.bool false,.int .u64 M,.int .u64 0]) (List.mem_cons_of_mem _ hkn.out);have m0:wr.cell? ⟨kn,0,none⟩=some (.bool false):=A9.2.1 0;have m1:wr.cell? ⟨kn,1,none⟩=some (.int .u64 M):=A9.2.1 1;have m2:wr.cell? ⟨kn,2,none⟩=some (.int .u64 0):=A9.2.1 2;go_upto_region 12 with fail
     refine wp_region_lit ?_;iterate 2 (refine xp fun K hK=>?_;go_simp;with_reducible refine hK _ _ ?_;clear hK K;(try simp only[xap]))
     refine xp fun K hK=>?_
     refine wp_bsT1 _ rfl M rfl ?_;refine hK _ _ ?_;clear hK K;try simp only[xap]
     refine xp fun K hK=>?_
     have hXa:At (wr.alloc (.cells (mks [Value.bool false,.int .u64 M,.int .u64 0] 1).toArray 67)) wr.heap.size (mks [Value.bool false,.int .u64 M,.int .u64 0] 1).toArray:=At.new wr _ _;have hba:Below wr.heap.size wr (wr.alloc (.cells (mks [Value.bool false,.int .u64 M,.int .u64 0] 1).toArray 67)):=(Below.refl _ wr).alloc (Nat.le_refl _) _;have hSa:=hS.out.gr hba;have lea:B≤(wr.alloc (.cells (mks [Value.bool false,.int .u64 M,.int .u64 0] 1).toArray 67)).heap.size:=Nat.le_trans le.out hba.size;refine wp_append_m [Value.bool false,.int .u64 M,.int .u64 0] _ _ 64 67 (.agg #[.bool false,.int .u64 0,.int .u64 0]) 24 rfl Tryz.underlying64 (by kernel_rfl) rfl (Nat.succ_pos _) (by simp[Value.oneCell']) B (.slice (some ⟨g4,0,none⟩) (n+3+j) c4) (n+3+j) rfl (gp_mem hSa (by simp)) wr.heap.size 1 1 rfl hXa (by decide) (by unfold maxLen;omega) (by omega) lea (fun g5 c5 V5 k1 k2 k3 k4 k5 k6=>?_);obtain⟨hSb,bb⟩:=gp_app (v:=(.slice (some ⟨g4,0,none⟩) (n+3+j) c4)) (n:=n+3+j) hSa lea (Nat.succ_pos _) (by simp) k1 k2 k3 k5 k6
     have leb:Hz (B≤V5.heap.size):=ζ (Nat.le_trans lea bb.size);replace G:=ζ (G.out.trans ((hba.mono le.out).trans bb));replace hS:=ζ hSb;replace le:=leb;clear hXa hba hSa lea k1 k2 k3 k4 k5 k6 hSb bb leb;refine hK _ _ ?_;clear hK K;try simp only[xap]
     refine xp fun K hK=>?_
     go_simp;with_reducible refine hK _ _ ?_
     clear hK K;try simp only[xap]
     clear A9 m0 m1 m2;replace hS:=ζ (gp_sub (vs':=[(Value.slice (some ⟨g5,0,none⟩) (n+3+(j+1)) c5,n+3+(j+1)),(Value.slice (some ⟨g3,0,none⟩) (n+3) c3,n+3),(Value.slice (some ⟨g2,0,none⟩) (n+2) c2,n+2),(Value.slice (some ⟨g1,0,none⟩) (n+1) c1,n+1),(Value.slice va n vc,n)]) hS.out le.out (by simp[Nat.add_assoc]));go_wp2_with fail;refine⟨⟨j+1,g5,c5,?_,?_,hj6,hS,G,le⟩,?_⟩
     ·first|rfl|rw[Nat.add_assoc]
     ·first|rfl|go_num
     ·exact ps_meas _ j hj6
    ·have hj1:¬(j:Int)<60:=by omega
     obtain rfl:j=60:=by omega
     obtain⟨n5,hn5⟩:∃k,nw+5=k:=⟨_,rfl⟩;rw[←hbk.out]at hS;simp only[bkO,List.cons_append,List.nil_append,hnw]at hS;have hA:=hS.out.ins (boxOb kb #[wv,.slice wa nw wc]) (by simp);have c0:wr.cell? ⟨kb,1,none⟩=some (.slice wa nw wc):=hA.2.1 1;clear hA;go_upto_region 13 with fail;refine wp_region_lit ?_;iterate 10 (refine xp fun K hK=>?_;go_simp;with_reducible refine hK _ _ ?_;clear hK K;(try simp only[xap]))
     refine xp fun K hK=>?_
     refine wp_bs5T _ _ _ _ _ rfl va (some ⟨g1,0,none⟩) (some ⟨g2,0,none⟩) (some ⟨g3,0,none⟩) (some ⟨g4,0,none⟩) n vc (n+1) c1 (n+2) c2 (n+3) c3 (n+3+60) c4 rfl rfl rfl rfl rfl ?_;refine hK _ _ ?_;clear hK K;try simp only[xap]
     refine xp fun K hK=>?_
     have hXa:At (wr.alloc (.cells (List.toArray [Value.slice va n vc,.slice (some ⟨g1,0,none⟩) (n+1) c1,.slice (some ⟨g2,0,none⟩) (n+2) c2,.slice (some ⟨g3,0,none⟩) (n+3) c3,.slice (some ⟨g4,0,none⟩) (n+3+60) c4]) 64)) wr.heap.size (List.toArray [Value.slice va n vc,.slice (some ⟨g1,0,none⟩) (n+1) c1,.slice (some ⟨g2,0,none⟩) (n+2) c2,.slice (some ⟨g3,0,none⟩) (n+3) c3,.slice (some ⟨g4,0,none⟩) (n+3+60) c4]):=At.new wr _ _;have hba:Below wr.heap.size wr (wr.alloc (.cells (List.toArray [Value.slice va n vc,.slice (some ⟨g1,0,none⟩) (n+1) c1,.slice (some ⟨g2,0,none⟩) (n+2) c2,.slice (some ⟨g3,0,none⟩) (n+3) c3,.slice (some ⟨g4,0,none⟩) (n+3+60) c4]) 64)):=(Below.refl _ wr).alloc (Nat.le_refl _) _;have hSa:=hS.out.gr hba;have lea:B≤(wr.alloc (.cells (List.toArray [Value.slice va n vc,.slice (some ⟨g1,0,none⟩) (n+1) c1,.slice (some ⟨g2,0,none⟩) (n+2) c2,.slice (some ⟨g3,0,none⟩) (n+3) c3,.slice (some ⟨g4,0,none⟩) (n+3+60) c4]) 64)).heap.size:=Nat.le_trans le.out hba.size
     have hoa:(wr.alloc (.cells (List.toArray [Value.slice va n vc,.slice (some ⟨g1,0,none⟩) (n+1) c1,.slice (some ⟨g2,0,none⟩) (n+2) c2,.slice (some ⟨g3,0,none⟩) (n+3) c3,.slice (some ⟨g4,0,none⟩) (n+3+60) c4]) 64)).ownsRow B 64 1 (.slice wa nw wc) nw rt:=hSa.ins (rowOb B 64 1 (.slice wa nw wc) nw rt) (by simp);refine wp_cp _ _ 37 rfl (.slice wa nw wc) rfl (.slice (some ⟨wr.heap.size,0,none⟩) 5 5) rfl (fun v' w'=>w'.ownsRow B 64 1 v' (nw+5) (rt++[Value.slice va n vc,.slice (some ⟨g1,0,none⟩) (n+1) c1,.slice (some ⟨g2,0,none⟩) (n+2) c2,.slice (some ⟨g3,0,none⟩) (n+3) c3,.slice (some ⟨g4,0,none⟩) (n+3+60) c4])∧Kp (fun k=>(Value.slice wa nw wc).ownBlock=some k) (wr.alloc (.cells (List.toArray [Value.slice va n vc,.slice (some ⟨g1,0,none⟩) (n+1) c1,.slice (some ⟨g2,0,none⟩) (n+2) c2,.slice (some ⟨g3,0,none⟩) (n+3) c3,.slice (some ⟨g4,0,none⟩) (n+3+60) c4]) 64)) w'∧(∀k,v'.ownBlock=some k→(Value.slice wa nw wc).ownBlock=some k∨(wr.alloc (.cells (List.toArray [Value.slice va n vc,.slice (some ⟨g1,0,none⟩) (n+1) c1,.slice (some ⟨g2,0,none⟩) (n+2) c2,.slice (some ⟨g3,0,none⟩) (n+3) c3,.slice (some ⟨g4,0,none⟩) (n+3+60) c4]) 64)).heap.size≤k)) (fun ty=>row5_run 37 64 B Tryz.underlying37 (by kernel_rfl) _ _ nw rt [Value.slice va n vc,.slice (some ⟨g1,0,none⟩) (n+1) c1,.slice (some ⟨g2,0,none⟩) (n+2) c2,.slice (some ⟨g3,0,none⟩) (n+3) c3,.slice (some ⟨g4,0,none⟩) (n+3+60) c4] hoa wr.heap.size hXa rfl (by simp[Value.oneCell']) (by omega) lea ty) (fun v2 W2 hR=>?_)
     obtain⟨k1,k2,k3⟩:=hR;rw[hn5]at k1;obtain⟨wa2,wc2,rfl⟩:=own_slZ k1;have hSb:=sep_change (l1:=[gpOb B 67 [Value.bool false,.int .u64 M,.int .u64 0] [(Value.slice (some ⟨g4,0,none⟩) (n+3+60) c4,n+3+60),(Value.slice (some ⟨g3,0,none⟩) (n+3) c3,n+3),(Value.slice (some ⟨g2,0,none⟩) (n+2) c2,n+2),(Value.slice (some ⟨g1,0,none⟩) (n+1) c1,n+1),(Value.slice va n vc,n)],boxOb kb #[wv,.slice wa nw wc],rowOb B 26 1 wv rw.length rw]) (o:=rowOb B 64 1 (.slice wa nw wc) nw rt) (o':=rowOb B 64 1 (.slice wa2 n5 wc2) n5 (rt++[Value.slice va n vc,.slice (some ⟨g1,0,none⟩) (n+1) c1,.slice (some ⟨g2,0,none⟩) (n+2) c2,.slice (some ⟨g3,0,none⟩) (n+3) c3,.slice (some ⟨g4,0,none⟩) (n+3+60) c4])) (l2:=lsOb B 51 1 mW rw::lsOb B 67 3 mT rt::boxOb kn #[.bool false,.int .u64 M,.int .u64 0]::l) hSa k1 k2 k3 lea;have bb:=sep_below (l1:=[gpOb B 67 [Value.bool false,.int .u64 M,.int .u64 0] [(Value.slice (some ⟨g4,0,none⟩) (n+3+60) c4,n+3+60),(Value.slice (some ⟨g3,0,none⟩) (n+3) c3,n+3),(Value.slice (some ⟨g2,0,none⟩) (n+2) c2,n+2),(Value.slice (some ⟨g1,0,none⟩) (n+1) c1,n+1),(Value.slice va n vc,n)],boxOb kb #[wv,.slice wa nw wc],rowOb B 26 1 wv rw.length rw]) (o:=rowOb B 64 1 (.slice wa nw wc) nw rt) (l2:=lsOb B 51 1 mW rw::lsOb B 67 3 mT rt::boxOb kn #[.bool false,.int .u64 M,.int .u64 0]::l) hSa k2 lea
     have leb:B≤W2.heap.size:=Nat.le_trans lea bb.size;have hAb:At W2 kb #[wv,.slice wa nw wc]:=hSb.ins (boxOb kb #[wv,.slice wa nw wc]) (by simp);have c0b:W2.cell? ⟨kb,1,none⟩=some (.slice wa nw wc):=hAb.2.1 1;have f0b:=hAb.2.2 1;have klb:=hAb.1;have hkk:Kp (fun k=>k=kb) W2 (W2.setCell ⟨kb,1,none⟩ (.slice wa2 n5 wc2)):=Kp.set (S:=fun k=>k=kb) W2 ⟨kb,1,none⟩ _ rfl;have hSc:=ζ (sep_change (l1:=[gpOb B 67 [Value.bool false,.int .u64 M,.int .u64 0] [(Value.slice (some ⟨g4,0,none⟩) (n+3+60) c4,n+3+60),(Value.slice (some ⟨g3,0,none⟩) (n+3) c3,n+3),(Value.slice (some ⟨g2,0,none⟩) (n+2) c2,n+2),(Value.slice (some ⟨g1,0,none⟩) (n+1) c1,n+1),(Value.slice va n vc,n)]]) (o:=boxOb kb #[wv,.slice wa nw wc]) (o':=boxOb kb #[wv,.slice wa2 n5 wc2]) (l2:=rowOb B 26 1 wv rw.length rw::rowOb B 64 1 (.slice wa2 n5 wc2) n5 (rt++[Value.slice va n vc,.slice (some ⟨g1,0,none⟩) (n+1) c1,.slice (some ⟨g2,0,none⟩) (n+2) c2,.slice (some ⟨g3,0,none⟩) (n+3) c3,.slice (some ⟨g4,0,none⟩) (n+3+60) c4])::lsOb B 51 1 mW rw::lsOb B 67 3 mT rt::boxOb kn #[.bool false,.int .u64 M,.int .u64 0]::l) hSb (hAb.set 1 (.slice wa2 n5 wc2) (by simp)) hkk (fun _ r=>.inl r) leb)
     have bc:=sep_below (l1:=[gpOb B 67 [Value.bool false,.int .u64 M,.int .u64 0] [(Value.slice (some ⟨g4,0,none⟩) (n+3+60) c4,n+3+60),(Value.slice (some ⟨g3,0,none⟩) (n+3) c3,n+3),(Value.slice (some ⟨g2,0,none⟩) (n+2) c2,n+2),(Value.slice (some ⟨g1,0,none⟩) (n+1) c1,n+1),(Value.slice va n vc,n)]]) (o:=boxOb kb #[wv,.slice wa nw wc]) (l2:=rowOb B 26 1 wv rw.length rw::rowOb B 64 1 (.slice wa2 n5 wc2) n5 (rt++[Value.slice va n vc,.slice (some ⟨g1,0,none⟩) (n+1) c1,.slice (some ⟨g2,0,none⟩) (n+2) c2,.slice (some ⟨g3,0,none⟩) (n+3) c3,.slice (some ⟨g4,0,none⟩) (n+3+60) c4])::lsOb B 51 1 mW rw::lsOb B 67 3 mT rt::boxOb kn #[.bool false,.int .u64 M,.int .u64 0]::l) hSb hkk leb;replace G:=ζ (G.out.trans ((hba.mono le.out).trans (bb.trans bc)));replace le:=ζ (Nat.le_trans leb bc.size);clear hXa hba hSa lea hoa k1 k2 k3 hSb bb leb hAb hkk bc hS c0;refine hK _ _ ?_;clear hK K;try simp only[xap]
     iterate 2 (refine xp fun K hK=>?_;go_simp;with_reducible refine hK _ _ ?_;clear hK K;(try simp only[xap]))
     refine xp fun K hK=>?_
     go_simp;with_reducible refine hK _ _ ?_
     clear hK K;try simp only[Act.put]
     clear c0b f0b klb;generalize World.setCell _ _ _=V9 at*;have hA:=hSc.out.ins (boxOb kb #[wv,.slice wa2 n5 wc2]) (by simp);have c0:V9.cell? ⟨kb,1,none⟩=some (.slice wa2 n5 wc2):=hA.2.1 1;have hkl:=hA.1;clear hA;have hro:Hz (V9.ownsRow B 64 1 (.slice wa2 n5 wc2) n5 (rt++[Value.slice va n vc,.slice (some ⟨g1,0,none⟩) (n+1) c1,.slice (some ⟨g2,0,none⟩) (n+2) c2,.slice (some ⟨g3,0,none⟩) (n+3) c3,.slice (some ⟨g4,0,none⟩) (n+3+60) c4])):=ζ (hSc.out.ins (rowOb B 64 1 (.slice wa2 n5 wc2) n5 (rt++[Value.slice va n vc,.slice (some ⟨g1,0,none⟩) (n+1) c1,.slice (some ⟨g2,0,none⟩) (n+2) c2,.slice (some ⟨g3,0,none⟩) (n+3) c3,.slice (some ⟨g4,0,none⟩) (n+3+60) c4])) (by simp));have hgp:Hz (∀p∈[(Value.slice (some ⟨g4,0,none⟩) (n+3+60) c4,n+3+60),(Value.slice (some ⟨g3,0,none⟩) (n+3) c3,n+3),(Value.slice (some ⟨g2,0,none⟩) (n+2) c2,n+2),(Value.slice (some ⟨g1,0,none⟩) (n+1) c1,n+1),(Value.slice va n vc,n)],V9.ownsRow B 67 3 p.1 p.2 (mks [Value.bool false,.int .u64 M,.int .u64 0] p.2)):=ζ (hSc.out.ins (gpOb B 67 [Value.bool false,.int .u64 M,.int .u64 0] [(Value.slice (some ⟨g4,0,none⟩) (n+3+60) c4,n+3+60),(Value.slice (some ⟨g3,0,none⟩) (n+3) c3,n+3),(Value.slice (some ⟨g2,0,none⟩) (n+2) c2,n+2),(Value.slice (some ⟨g1,0,none⟩) (n+1) c1,n+1),(Value.slice va n vc,n)]) (by simp))
     have hAk:Hz (At V9 kn #[.bool false,.int .u64 M,.int .u64 0]):=ζ (hSc.out.ins (boxOb kn #[.bool false,.int .u64 M,.int .u64 0]) (by simp));have w5:wrap64 ((n5:Int) - 5)=(nw:Int):=by unfold wrap64;omega
     have w6:IntKind.i64.wrap ((n5:Int) - 5)=(nw:Int):=by rw[IntKind.wrap_i64];omega
     go_upto_region 15 with fail;clear w5 w6;go_loopw [11] (fun x wq=>∃i:Nat,x=.int .i64 i∧nw≤i∧i≤n5∧Hz (Below V9.heap.size V9 wq)) (fun x _=>n5 - (intOf x).toNat)
     case atStart=>exact⟨nw,rfl,Nat.le_refl _,by omega,ζ (Below.refl _ _)⟩
     case round=>
      obtain⟨i,rfl,hi0,hi5,hbl⟩:=hrel;have c0w:wr.cell? ⟨kb,1,none⟩=some (.slice wa2 n5 wc2):=(T.cell_of_block (hbl.out.block kb hkl) _).trans c0;by_cases hin:i<n5
      ·have hi1:(i:Int)<(n5:Int):=by omega
       obtain⟨p,hp,hpi⟩:=five_at rt (Value.slice (some ⟨g4,0,none⟩) (n+3+60) c4,n+3+60) (Value.slice (some ⟨g3,0,none⟩) (n+3) c3,n+3) (Value.slice (some ⟨g2,0,none⟩) (n+2) c2,n+2) (Value.slice (some ⟨g1,0,none⟩) (n+1) c1,n+1) (Value.slice va n vc,n) i (by omega) (by omega);obtain⟨gR,ewa,hgR,hrow⟩:=row_cellB hro.out hpi;have hpo:=hgp.out p hp;obtain⟨pv,pn⟩:=p;dsimp only at hpo hrow;have hpn:pn≤n+63:=by
        simp only[List.mem_cons,Prod.mk.injEq,List.not_mem_nil,or_false]at hp;omega
       obtain⟨ta,tk,rfl⟩:=own_slZ hpo;replace hpo:=ζ hpo;rw[ewa]at c0w;replace hrow:=ζ hrow;have hrw:wr.cell? ⟨gR,i,none⟩=some (.slice ta pn tk):=(T.cell_of_block (hbl.out.block gR hgR) _).trans hrow.out;clear hp hpi;go_upto_region 18 with fail;clear hrw c0w;go_loopw [12] (fun x wq=>∃q:Nat,x=.int .i64 q∧q≤pn∧Hz (Below V9.heap.size V9 wq)) (fun x _=>pn - (intOf x).toNat)
       case atStart=>exact⟨0,rfl,Nat.zero_le _,hbl⟩
       case round=>
        clear hbl;obtain⟨q,rfl,hq,hbl⟩:=hrel;have c0w:wr.cell? ⟨kb,1,none⟩=some (.slice (some ⟨gR,0,none⟩) n5 wc2):=(T.cell_of_block (hbl.out.block kb hkl) _).trans (by rw[←ewa];exact c0);have hrw:wr.cell? ⟨gR,i,none⟩=some (.slice ta pn tk):=(T.cell_of_block (hbl.out.block gR hgR) _).trans hrow.out;by_cases hqn:q<pn
        ·have hq1:(q:Int)<(pn:Int):=by omega
         obtain⟨g,rfl⟩:=own_form ⟨_,hpo.out⟩ (by omega);have bd:Below V9.heap.size V9 wr.drew:=hbl.out.trans ((Gr.refl wr).drew.below.mono hbl.out.size);have hpw:wr.drew.ownsRow B 67 3 (.slice (some ⟨g,0,none⟩) pn tk) pn (mks [Value.bool false,.int .u64 M,.int .u64 0] pn):=own_keep hpo.out (Kp.of_below (S:=fun _=>False) bd) (fun _ _ r=>r);have hcm:=own_marks (mv:=[Value.bool false,.int .u64 M,.int .u64 0]) hpw q hqn;have hself:wr.drew.setCells g (q*3) [Value.bool false,.int .u64 M,.int .u64 0]=wr.drew:=sets_self wr.drew g [Value.bool false,.int .u64 M,.int .u64 0] (q*3) (fun j u e=>by
          have hj:j<List.length [Value.bool false,.int .u64 M,.int .u64 0]:=(List.getElem?_eq_some_iff.1 e).1;exact(hcm j hj).trans e)
         have hth:Hz (wr.drew.there g (q*3) 3):=ζ (own_thereB hpw hqn);have hAn:At wr.drew kn #[.bool false,.int .u64 M,.int .u64 0]:=at_below hAk.out bd hAk.out.1;have s1:wr.drew.cell? ⟨kb,1,none⟩=some (.slice (some ⟨gR,0,none⟩) n5 wc2):=c0w;have s2:wr.drew.cell? ⟨gR,i,none⟩=some (.slice (some ⟨g,0,none⟩) pn tk):=hrw;have s3:wr.drew.rangeAt kn 0 [Value.bool false,.int .u64 M,.int .u64 0]:=At.range (cs:=[Value.bool false,.int .u64 M,.int .u64 0]) hAn;have hgd:Hz (wr.drew.setCells g (q*3) [Value.bool false,.int .u64 M,.int .u64 0]=wr.drew):=ζ hself;clear hpw hcm hself hAn;go_upto_region 20 with fail
         refine wp_region_held_drew (S:=(fun X=>X.cell? ⟨kb,1,none⟩=some (.slice (some ⟨gR,0,none⟩) n5 wc2)∧X.cell? ⟨gR,i,none⟩=some (.slice (some ⟨g,0,none⟩) pn tk)∧X.rangeAt kn 0 [Value.bool false,.int .u64 M,.int .u64 0])) (by kernel_rfl) (⟨s1,s2,s3⟩) (fun hHeld=>?_);refine xz 0 rfl (h:=xz 1 rfl (h:=xz 2 rfl (h:=xz 3 rfl (h:=xz 4 rfl (h:=xz 5 rfl (h:=xz 6 rfl (h:=xz 7 rfl (h:=?_))))))));try simp only[xap]
         refine xtk 8 rfl (yieldsIf_load_mid (by rfl) _ _ rfl _ _ rfl _ _ (fun _ h=>h.2.2) Tryz.underlying67 rfl (by kernel_rfl)) ?_;try simp only[xap]
         refine xz 9 rfl (h:=?_);try simp only[xap]
         refine xrd 10 rfl (fun K hK=>?_);rw[if_pos (by rfl)];refine wp_store_mid _ _ _ rfl _ _ (List.toArray _) rfl rfl (hth.out) (by kernel_rfl) (by simp[Value.oneCell']) ?_;refine hK.out _ _ (by rw[hgd.out];exact⟨s1,s2,s3⟩) (fun hHeld=>?_);clear hK K;try simp only[Act.put]
         refine xdn ?_ _;clear hHeld s1 s2 s3 hth;rw[hgd.out];have hbl2:=ζ bd;clear hgd bd hbl;generalize wr.drew=Vd at*;go_wp2_with fail;refine⟨⟨q+1,?_,hqn,?_⟩,?_⟩
         ·first|rfl|rw[nextB hqn (by omega)]|go_num
         ·exact hbl2
         ·first|exact next_mZ hqn|exact nextBn hqn (by omega)
        ·have hq1:¬(q:Int)<(pn:Int):=by omega
         go_wp2_with fail;refine⟨⟨i+1,?_,by omega,hin,hbl⟩,?_⟩
         ·first|rfl|rw[nextB hin (by omega)]|go_num
         ·first|exact next_mZ hin|exact nextBn hin (by omega)
      ·have hi1:¬(i:Int)<(n5:Int):=by omega
       clear hro hgp;go_wp2_with fail
       first|go_end0|((try simp only[Exit.inBlock,Exit.then]);refine xre ?_)
       refine⟨rfl,.slice wa2 n5 wc2,rt++[Value.slice va n vc,.slice (some ⟨g1,0,none⟩) (n+1) c1,.slice (some ⟨g2,0,none⟩) (n+2) c2,.slice (some ⟨g3,0,none⟩) (n+3) c3,.slice (some ⟨g4,0,none⟩) (n+3+60) c4],by(rw[List.length_append];show rt.length+5=_;omega),?_,G.out.trans (hbl.out.mono le.out)⟩;have hm:=gp_fifthT _ _ _ _ _ _ _ _ _ _ (hSc.out.gr hbl.out) (Nat.le_trans le.out hbl.out.size);rw[←hmW.out]at hm;have hm2:=ls_merge (k:=3) (mk:=mT) (fun _=>rfl) (Value.slice va n vc,n) (Value.slice (some ⟨g1,0,none⟩) (n+1) c1,n+1) (Value.slice (some ⟨g2,0,none⟩) (n+2) c2,n+2) (Value.slice (some ⟨g3,0,none⟩) (n+3) c3,n+3) (Value.slice (some ⟨g4,0,none⟩) (n+3+60) c4,n+3+60) h5 hm (by
        intro p hp;simp only[List.mem_cons,List.not_mem_nil,or_false]at hp;rcases hp with rfl|rfl|rfl|rfl|rfl<;>(dsimp only;omega))
       have hl5:(rt++[Value.slice va n vc,.slice (some ⟨g1,0,none⟩) (n+1) c1,.slice (some ⟨g2,0,none⟩) (n+2) c2,.slice (some ⟨g3,0,none⟩) (n+3) c3,.slice (some ⟨g4,0,none⟩) (n+3+60) c4]).length=n5:=by rw[←hn5,←hnw,List.length_append];rfl
       have hm3:=sep_perm hm2 (List.perm_middle (l₁:=[lsOb B 67 3 mT (rt++[Value.slice va n vc,.slice (some ⟨g1,0,none⟩) (n+1) c1,.slice (some ⟨g2,0,none⟩) (n+2) c2,.slice (some ⟨g3,0,none⟩) (n+3) c3,.slice (some ⟨g4,0,none⟩) (n+3+60) c4]),boxOb kb #[wv,.slice wa2 n5 wc2],rowOb B 26 1 wv rw.length rw,rowOb B 64 1 (.slice wa2 n5 wc2) n5 (rt++[Value.slice va n vc,.slice (some ⟨g1,0,none⟩) (n+1) c1,.slice (some ⟨g2,0,none⟩) (n+2) c2,.slice (some ⟨g3,0,none⟩) (n+3) c3,.slice (some ⟨g4,0,none⟩) (n+3+60) c4]),lsOb B 51 1 mW rw]));refine sep_perm (sep_tail hm3) ?_;simp only[bkO,hl5,List.cons_append,List.nil_append];exact(List.perm_middle (l₁:=[boxOb kb #[wv,.slice wa2 n5 wc2],rowOb B 26 1 wv rw.length rw,rowOb B 64 1 (.slice wa2 n5 wc2) n5 (rt++[Value.slice va n vc,.slice (some ⟨g1,0,none⟩) (n+1) c1,.slice (some ⟨g2,0,none⟩) (n+2) c2,.slice (some ⟨g3,0,none⟩) (n+3) c3,.slice (some ⟨g4,0,none⟩) (n+3+60) c4]),lsOb B 51 1 mW rw])).symm
end Z
end Go.Proofs.YtdidjhillmgccaaGreat
