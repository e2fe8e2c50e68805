import Derived.Test.YtdidjhillmgccaaGreatP42
import Derived.Test.YtdidjhillmgccaaGreatP41
namespace Go.Proofs.YtdidjhillmgccaaGreat
namespace Z
open Go.RowKit
open T (Sep Ob Kp Mf FlIn boxOb)
structure AlP (B:Nat)(W:World)(n kb:Nat)(p:Pq)(m:List Pq)(pa:Option Addr)(pc:Nat)(wv tv:Value)(rw rt:List Value):Prop where
 ps:PS B W (p::m) (rowOb B 41 2 (.slice pa m.length pc) m.length (m.flatMap Pq.vals)::bkO B kb wv tv rw rt)
 pq:∀q∈p::m,PQ B W n q
 le:m.length≤4
 bw:rw.length≤n*10∧rw.length%5=0
 bt:rt.length≤n*10∧rt.length%5=0
section
variable {B:Nat} {W W':World} {n kb:Nat} {p:Pq} {m:List Pq} {pa:Option Addr} {pc:Nat} {wv tv:Value} {rw rt:List Value}
theorem AlP.gr (h:AlP B W n kb p m pa pc wv tv rw rt)(hb:Below W.heap.size W W'):AlP B W' n kb p m pa pc wv tv rw rt:=⟨h.ps.gr hb,fun q hq=>(h.pq q hq).below (hb.mono h.ps.le) (Nat.le_refl _),h.le,h.bw,h.bt⟩
theorem push_run (h:AlP B W n kb p m pa pc wv tv rw rt)(X:Nat)(hX:At W X p.vals.toArray)(ty:TypeId):
 ∃v' w',(Builtin.append_ #[42,42] ty #[.slice pa m.length pc,.slice (some ⟨X,0,none⟩) 1 1]).run Tryz.prog W=.ok v' w'∧∃pa' pc',v'=.slice pa' (m.length+1) pc'∧Al B w' (n+1) kb (m++[p]) pa' pc' wv tv rw rt∧Below B W w':=by
 have ho:W.ownsRow B 41 2 (.slice pa m.length pc) m.length (m.flatMap Pq.vals):=h.ps.there (rowOb B 41 2 (.slice pa m.length pc) m.length (m.flatMap Pq.vals)) (by simp);have hle:=h.ps.le;have h4:=h.le;obtain⟨i0,hi0,hz0,hz1,hz2⟩:=T.info_parts' (show(Tryz.prog.info? 41).map (fun i=>(i.zero,i.size,i.bytes))=some (some (.agg #[.pointer none,.pointer none]),2,16)by kernel_rfl);obtain⟨v',w',k1,k2,k3,_,k5⟩:=run_append_own_at (P:=Tryz.prog) W B 42 ty 41 i0 (.agg #[.pointer none,.pointer none]) 2 16 Tryz.underlying42 hi0 hz0 hz1 hz2 rfl (by decide) (.slice pa m.length pc) m.length (m.flatMap Pq.vals) ho ⟨X,0,none⟩ 1 1 p.vals rfl (fun j u q=>by rw[addr_addZ,Nat.zero_add,hX.2.1];simpa using q) (fun u hu=>by
  simp only[Pq.vals,List.mem_cons,List.not_mem_nil,or_false]at hu;rcases hu with rfl|rfl<;>rfl) (by unfold maxLen;omega) (by omega) hle
 obtain⟨pa',pc',rfl⟩:=own_slZ k2;have hl:(m++[p]).length=m.length+1:=by simp
 obtain⟨h6,b6⟩:=h.ps.side (o':=rowOb B 41 2 (.slice pa' (m.length+1) pc') (m.length+1) (m.flatMap Pq.vals++p.vals)) k2 (kp_grown k3) (fun k r=>by
  rcases k5 with k5|k5
  ·exact .inl (by
    show(Value.slice pa m.length pc).ownBlock=some k;rw[←k5];exact r)
  ·have r2:(Value.slice pa' (m.length+1) pc').ownBlock=some k:=r;rw[k5]at r2;injection r2 with r2
   exact .inr (by omega))
 refine⟨_,w',k1,pa',pc',rfl,⟨?_,fun q hq=>?_,by rw[hl];omega,⟨by have:=h.bw;omega,h.bw.2⟩,⟨by have:=h.bt;omega,h.bt.2⟩⟩,b6⟩
 ·rw[hl,show(m++[p]).flatMap Pq.vals=m.flatMap Pq.vals++p.vals by simp];exact h6.perm (List.perm_append_comm (l₁:=[p]))
 ·rcases List.mem_append.1 hq with hq|hq
  ·exact(h.pq q (List.mem_cons_of_mem _ hq)).below b6 (by omega)
  ·rw[List.mem_singleton.1 hq];exact(h.pq p (List.mem_cons_self ..)).below b6 (by omega)
theorem Al.made (h:Al B W n kb m pa pc wv tv rw rt)(h4:m.length≤4)(hM:MD B W' p.P p.a p.s p.b p.c p.s [snapOb B W])(hb:Below W.heap.size W W')(hq:PQ B W' n p):AlP B W' n kb p m pa pc wv tv rw rt:=
 ⟨h.ps.more hM hb,fun q hq2=>by
  rcases List.mem_cons.1 hq2 with rfl|hq2
  ·exact hq
  ·exact(h.pq q hq2).below (hb.mono h.ps.le) (Nat.le_refl _),h4,h.bw,h.bt⟩
theorem xcopy_al (h:Al B W n kb m pa pc wv tv rw rt)(hn:n≤120)(k:Nat)(hk:k<m.length):
 Calls Tryz.prog 7 #[.pointer (some ⟨m[k].a,0,none⟩)] W fun x w'=>x=.returned (.pointer (some ⟨W.heap.size,0,none⟩))∧(∃q,PS B w' (m[k]::m.eraseIdx k) (obs B W.heap.size m[k].P m[k].s q++(rowOb B 41 2 (.slice pa m.length pc) m.length (m.flatMap Pq.vals)::bkO B kb wv tv rw rt)))∧Below W.heap.size W w':=by
 have hp:=h.ps.perm (perm_at m k hk).symm;have hq:=h.pq _ (List.getElem_mem hk);obtain⟨L,h1,_⟩:=hp.md;obtain⟨lx,hX⟩:=h1.oneX;have hok:=hq.pi.okn;refine(copy_any B W m[k].a m[k].P m[k].s lx hq.ok hX hq.pi.mz (by have:=hok.st;have:=hq.ok.dp;omega) (by have:=hq.pi.il;omega) (by have:=hok.ol;omega) (by have:=hok.tl;omega)).mono ?_;rintro x w' ⟨rfl,hM,hb⟩;exact⟨rfl,hp.addx hM hb,hb⟩
theorem ycopy_al {W0:World}(h:Al B W0 n kb m pa pc wv tv rw rt)(hb0:Below W0.heap.size W0 W)(hn:n≤120)(h4:m.length≤4)(k a2:Nat)(hk:k<m.length)(hp:∃q,PS B W (m[k]::m.eraseIdx k) (obs B a2 m[k].P m[k].s q++(rowOb B 41 2 (.slice pa m.length pc) m.length (m.flatMap Pq.vals)::bkO B kb wv tv rw rt))):
 Calls Tryz.prog 8 #[.pointer (some ⟨m[k].b,0,none⟩)] W fun x w'=>∃b2,x=.returned (.pointer (some ⟨b2,0,none⟩))∧AlP B w' n kb ⟨a2,b2,m[k].c,m[k].P,m[k].s⟩ m pa pc wv tv rw rt∧Below B W w':=by
 obtain⟨q,hp⟩:=hp;have hq:=h.pq _ (List.getElem_mem hk);obtain⟨mm,hpm⟩:=hq.pm;have hok:=hq.pi.okn;have hB0:=hb0.mono h.ps.le;refine(ycopy_any m[k] a2 mm hpm q hp (by have:=hok.st;have:=hq.ok.dp;omega) (by have:=hq.pi.il;omega) (by have:=hok.ol;omega) (by have:=hok.tl;omega)).mono ?_;rintro x w' ⟨b2,rfl,hP,hb⟩;refine⟨b2,rfl,⟨hP.perm (List.Perm.cons _ (perm_at m k hk)),fun r hr=>?_,h4,h.bw,h.bt⟩,hb⟩;have hB:=hB0.trans hb;rcases List.mem_cons.1 hr with rfl|hr
 ·exact⟨hq.ok,hq.rr,hq.pg.below hB,hq.pi,hq.pm⟩
 ·exact(h.pq r hr).below hB (Nat.le_refl _)
end
structure Tn where
 k:Int
 w:Int
 n:Int
def Tn.vals (t:Tn):List Value:=[.int .i64 t.k,.int .i64 t.w,.int .i64 t.n]
theorem wp_bsP_run (a b:Nat)(W:World):(Instr.buildSlice 42 1 #[(0,.agg #[.pointer (some ⟨a,0,none⟩),.pointer (some ⟨b,0,none⟩)])]).run Tryz.prog W=.ok (.slice (some ⟨W.heap.size,0,none⟩) 1 1) (W.alloc (.cells (List.toArray [Value.pointer (some ⟨a,0,none⟩),.pointer (some ⟨b,0,none⟩)]) 41)):=by kernel_rfl
theorem wp_bsP {o:Oper}{a:Act}{K:Act→World→Prop}{Q:Exit→Act→World→Prop}{w:World}(x:Operand)(ho:o.op=.buildSlice 42 1 #[(0,x)])(m b:Nat)(hx:a.eval x=.agg #[.pointer (some ⟨m,0,none⟩),.pointer (some ⟨b,0,none⟩)])
 (h:K (a.put o.dst (.slice (some ⟨w.heap.size,0,none⟩) 1 1)) (w.alloc (.cells (List.toArray [Value.pointer (some ⟨m,0,none⟩),.pointer (some ⟨b,0,none⟩)]) 41))):o.wp Tryz.prog a w K Q:=by
 unfold Oper.wp execOp;simp only[ho,List.map_toArray,List.map_cons,List.map_nil,hx,wp_bsP_run,Sem.run_bind,Sem.run_pure,Result.andThen_ok];exact h
theorem PS.one {B:Nat}{W:World}{P:Pr}{a:Nat}{s:Fm}{b:Nat}{c:Dc}(h:MD B W P a s b c s []):PS B W [⟨a,b,c,P,s⟩] []:=by
 obtain⟨q2,⟨⟨q,h1⟩,le⟩,ia,ic,e,hi⟩:=h.asX;exact⟨_,⟨q,q2,[],rfl,⟨ia,ic,e,hi⟩,rfl⟩,by simpa using h1,le⟩
theorem PS.row1 {B:Nat}{W:World}{p:Pq}{l:List Ob}(h:PS B W [p] l):PS B (W.alloc (.cells (List.toArray p.vals) 41)) [p] (rowOb B 41 2 (.slice (some ⟨W.heap.size,0,none⟩) 1 1) 1 ([p].flatMap Pq.vals)::l)∧Below B W (W.alloc (.cells (List.toArray p.vals) 41)):=by
 have hb:Below W.heap.size W (W.alloc (.cells (List.toArray p.vals) 41)):=(Below.refl _ W).alloc (Nat.le_refl _) _;refine⟨h.add _ ?_ (fun k q=>?_) hb,hb.mono h.le⟩
 ·exact⟨rfl,.inr ⟨W.heap.size,1,List.toArray p.vals,rfl,h.le,(MapKept.heap_alloc W _).1,Nat.le_refl _,by simp[maxLen],rfl,by simp[Pq.vals]⟩⟩
 ·have e:some W.heap.size=some k:=q;injection e with e
  omega
theorem all_idx (w:Int)(n:Nat)(h0:0≤w)(hn:1≤n)(h5:n≤5):∃k:Nat,k<n∧Int.tmod w (n:Int)=(k:Int)∧wrap64 (k:Int)=(k:Int)∧IntKind.i64.wrap (k:Int)=(k:Int):=by
 refine⟨(w%(n:Int)).toNat,?_,?_,?_⟩
 ·have:=Int.emod_lt_of_pos w (show(0:Int)<n by omega);have:=Int.emod_nonneg w (show(n:Int)≠0 by omega);omega
 ·rw[Int.tmod_eq_emod_of_nonneg h0];have:=Int.emod_nonneg w (show(n:Int)≠0 by omega);omega
 ·have h1:=Int.emod_lt_of_pos w (show(0:Int)<n by omega);have h2:=Int.emod_nonneg w (show(n:Int)≠0 by omega);have:(((w%(n:Int)).toNat:Nat):Int)≤5∧(0:Int)≤(((w%(n:Int)).toNat:Nat):Int):=by omega
  exact⟨by unfold wrap64;omega,by rw[IntKind.wrap_i64];omega⟩
theorem tmod2 (n:Int):wrap64 (Int.tmod n 2)=Int.tmod n 2∧IntKind.i64.wrap (Int.tmod n 2)=Int.tmod n 2:=by
 have h: -2<Int.tmod n 2∧Int.tmod n 2<2:=by
  rcases Int.le_total 0 n with h|h
  ·rw[Int.tmod_eq_emod_of_nonneg h];omega
  ·have e:n= -(-n):=by omega
   rw[e,Int.neg_tmod,Int.tmod_eq_emod_of_nonneg (by omega)];omega
 generalize Int.tmod n 2=z at*;exact⟨by unfold wrap64;omega,by rw[IntKind.wrap_i64];omega⟩
theorem all_idx2 (w:Int)(n:Nat)(h0:0≤w)(hn:1≤n)(h5:n≤5):∃k:Nat,k<n∧Int.tmod w (n:Int)=(k:Int)∧wrap64 (k:Int)=(k:Int)∧IntKind.i64.wrap (k:Int)=(k:Int)∧(k:Int)<(n:Int)∧(0:Int)≤(k:Int)∧¬(n:Int)=0∧((n:Int)==0)=false:=by
 obtain⟨k,h1,h2,h3,h4⟩:=all_idx w n h0 hn h5;have hm0:¬(n:Int)=0:=by clear h2 h3 h4;omega
 exact⟨k,h1,h2,h3,h4,Int.ofNat_lt.2 h1,Int.natCast_nonneg k,hm0,beq_false_of_ne hm0⟩
theorem al_made {sa:Option Addr}(R:Rp)(ca ga:Option Addr)(cc gc:Nat)(mem:List UInt8)(gate:Int)(A:List Int)(va:Option Addr)(vc:Nat)(ia:Option Addr)(ic:Nat)(L:List Int)(V2:World)(hb:Bgn V2 R ca ga mem A sa ia ic L)(hcap:∀a,ia=some a→L.length≤ic)(ok:R.Ok mem.length)(hL:L.length≤1100000){W:World}(hG:Below V2.heap.size V2 W)(hWa:WIn W va (entL A (aNo R gate))){n kb:Nat}{m:List Pq}{pa:Option Addr}{pc:Nat}{wv tv:Value}{rw rt:List Value}(h:Al V2.heap.size W n kb m pa pc wv tv rw rt)(h4:m.length≤4):
 Calls Tryz.prog 6 #[.agg #[.slice ca R.code.length cc,.slice ga R.gates.length gc,.string (T.str mem),.int .i64 R.dep],.int .i64 (gNo R gate:Nat),.slice va (List.length (entL A (aNo R gate))) vc,.slice ia L.length ic] W fun x w'=>∃a b s,x=.returned (.tuple #[.bool true,.pointer (some ⟨a,0,none⟩),.pointer (some ⟨b,0,none⟩)])∧AlP V2.heap.size w' n kb ⟨a,b,⟨ca,ga,cc,gc,.string (T.str mem)⟩,R.pr,s⟩ m pa pc wv tv rw rt∧Below W.heap.size W w':=by
 obtain⟨h1,h2,h3,e4,h5⟩:=ok.at gate;have hbW:=hb.below hG;have hlf:=(LfIn.of hb.hI hcap V2.heap.size (Nat.le_refl _)).below hG;have hpg:∀X,Below V2.heap.size V2 X→DPg V2.heap.size X ⟨ca,ga,cc,gc,.string (T.str mem)⟩ R.pr:=fun X q=>⟨V2,rfl,q,ok.rw hb.wd.code hb.hP⟩
 refine(made_okB R ca ga cc gc mem (gNo R gate) (entL A (aNo R gate)) va vc ia ic L W hbW.hP hb.wd.code hWa (by rw[entL_len];omega) hbW.hI hb.c hb.r hb.g hb.l V2.heap.size h.ps.le hlf (hpg W hG) ok h1 (by rw[entL_len];exact h5)).mono ?_;rintro x w' ⟨a,b,rfl,hM,hB⟩;have es:start R.gates[gNo R gate].fg (gNo R gate) (List.length (entL A (aNo R gate))) (srcA (entL A (aNo R gate))) L mem=st0 R gate A L mem:=by
  unfold st0;rw[e4,entL_len]
 rw[es]at hM;refine⟨a,b,st0 R gate A L mem,rfl,Al.made (p:=⟨a,b,⟨ca,ga,cc,gc,.string (T.str mem)⟩,R.pr,st0 R gate A L mem⟩) h h4 hM hB ⟨ok.pr hb.wd.code,hb.wd.rr,hpg w' (hG.trans (hB.mono hG.size)),⟨(hb.okn ok gate).mono (by omega),st0_vf R gate A L mem,mz_st0 R gate A L mem,?_⟩,⟨_,rfl⟩⟩,hB⟩;show L.length≤1100000+n*12;omega
end Z
end Go.Proofs.YtdidjhillmgccaaGreat
