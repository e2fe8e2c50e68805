import Derived.Test.YtdidjhillmgccaaGreatP15
namespace Go.Proofs.YtdidjhillmgccaaGreat
set_option maxRecDepth 100000
set_option maxHeartbeats 40000000
namespace Z
open Go.RowKit
open T (Sep Ob Kp Mf FlIn)
theorem touch_bad (B:Nat)(W:World)(a:Nat)(P:Pr)(s:Fm)(l:List Ob)(st:Bool)(ad n:Int)(h:MIn B W a P s l)(hn:1≤n∧n≤16)(hq:65536 - n<ad):
 Calls Tryz.prog 133 #[.pointer (some ⟨a,0,none⟩),.bool st,.int .u64 ad,.int .u64 n] W fun x w'=>x=.returned (.bool false)∧MIn B w' a P {s with e:=7,v:=0,f:=5} l∧Below B W w':=by
 have hf:=ζ (h.onBox (s':={s with e:=7,v:=0,f:=5}) ⟨rfl,rfl,rfl,rfl,rfl⟩ (fun q hb=>fail_any a _ 5 W hb));have e1:IntKind.u64.wrap (65536 - n)=65536 - n:=by simp[IntKind.wrap,IntKind.bits,IntKind.signed];omega
 replace h:=ζ h;replace hn:=ζ hn;go_enter Tryz.func133,Tryz.ntmps133;go_wp2_with fail;refine hf.out.mono ?_;rintro r V ⟨rfl,h1,h2⟩;replace h1:=ζ h1;go_wp2_with fail;go_ret;exact⟨rfl,h1.out,h2⟩
theorem touch_ok (B:Nat)(W:World)(a:Nat)(P:Pr)(s:Fm)(l:List Ob)(st:Bool)(ad n:Int)(h:MIn B W a P s l)(hn:1≤n∧n≤16)(hq:ad≤65536 - n)(hl:s.tc.length≤1000000):
 Calls Tryz.prog 133 #[.pointer (some ⟨a,0,none⟩),.bool st,.int .u64 ad,.int .u64 n] W fun x w'=>x=.returned (.bool true)∧MIn B w' a P {s with tc:=s.tc++[⟨st,ad,n⟩]} l∧Below B W w':=by
 have hq2:¬65536 - n<ad:=by omega
 have e1:IntKind.u64.wrap (65536 - n)=65536 - n:=by simp[IntKind.wrap,IntKind.bits,IntKind.signed];omega
 obtain⟨⟨q,h1⟩,le⟩:=h;have hb:=h1.ins (bxOb a (bxOf P s q)) (by simp[obs]);have hO:W.ownsRow B 67 3 q.tv s.tc.length (s.tc.flatMap Tc.vals):=h1.ins (tcOb B q.tv s.tc) (by simp[obs]);obtain⟨ta,tk,etv⟩:=own_slZ hO;have c25:W.cell? ⟨a,25,none⟩=some (.slice ta s.tc.length tk):=by rw[←etv];exact hb.at_ 25 (by omega)
 have hfr:∀V,Below W.heap.size W V→∀{g:Nat},V.frozen? ⟨a,25,none⟩=false:=fun V k _=>(T.frozen_of_block (k.block a hb.lt) 25).trans (hb.fr 25)
 have hlt:=hb.lt;have hap:Hz (∀V W2 g cap,Gr W V→W2.ownsRow B 67 3 (.slice (some ⟨g,0,none⟩) (s.tc.length+1) cap) (s.tc.length+1) (s.tc.flatMap Tc.vals++[Value.bool st,.int .u64 ad,.int .u64 n])→V.grownBy W2 (Value.slice ta s.tc.length tk).ownBlock→((Value.slice ta s.tc.length tk).ownBlock=some g∨g=V.heap.size)→(∃u,W2.cell? ⟨a,25,none⟩=some u)∧W2.frozen? ⟨a,25,none⟩=false∧MIn B (W2.setCell ⟨a,25,none⟩ (.slice (some ⟨g,0,none⟩) (s.tc.length+1) cap)) a P {s with tc:=s.tc++[⟨st,ad,n⟩]} l∧Below B W (W2.setCell ⟨a,25,none⟩ (.slice (some ⟨g,0,none⟩) (s.tc.length+1) cap))):=ζ (fun V W2 g cap g1 k1 k2 k3=>by
  rw[←etv]at k2 k3;have r:=MIn.app_tc ⟨st,ad,n⟩ (h1.gr g1.below) (Nat.le_trans le g1.below.size) k1 k2 k3;have hbV:=(h1.gr g1.below).ins (bxOb a (bxOf P s q)) (by simp[obs]);have hd:q.tv.ownBlock≠some a:=fun e=>by
   have:=(List.pairwise_cons.1 h1.dis).1 (tcOb B q.tv s.tc) (by simp) a rfl;exact this e
  have hb2:=Bx.keep hbV (kp_grown k2) hd;exact⟨⟨_,hb2.at_ 25 (by omega)⟩,hb2.fr 25,r.1,(g1.below.mono le).trans r.2⟩)
 have hO2:Hz (∀V,Gr W V→V.ownsRow B 67 3 (.slice ta s.tc.length tk) s.tc.length (s.tc.flatMap Tc.vals)):=ζ (fun V g=>by rw[←etv];exact own_keep hO (Kp.of_below (S:=fun _=>False) g.below) (fun _ _ r=>r));clear hfr etv hO hb h1;replace hn:=ζ hn;generalize s.tc.flatMap Tc.vals=xs at*;go_enter Tryz.func133,Tryz.ntmps133;go_upto_region 4 with fail
 refine wp_region_lit ?_;iterate 10 (refine xp fun K hK=>?_;go_simp;with_reducible refine hK _ _ ?_;clear hK K;(try simp only[xap]))
 have hX:=At.new W #[Value.bool st,.int .u64 ad,.int .u64 n] 67;have gX:Gr W (W.alloc (.cells #[Value.bool st,.int .u64 ad,.int .u64 n] 67)):=(Gr.refl W).alloc _;generalize W.alloc (.cells #[Value.bool st,.int .u64 ad,.int .u64 n] 67)=V at*;generalize W.heap.size=kX at*;refine xp fun K hK=>?_
 refine wp_append_z _ _ 64 67 (.agg #[.bool false,.int .u64 0,.int .u64 0]) 3 24 rfl Tryz.underlying64 (by kernel_rfl) (by kernel_rfl) (by decide) (by decide) B (.slice ta s.tc.length tk) s.tc.length xs [Value.bool st,.int .u64 ad,.int .u64 n] (by rfl) (hO2.out V gX) kX (by rfl) hX rfl (by simp[Value.oneCell']) hl (Nat.le_trans le (Nat.le_of_lt hX.1)) ?_;intro g cap W2 k1 k2 k3;obtain⟨⟨u,cu⟩,fu,hM,hBe⟩:=hap.out V W2 g cap gX k1 k2 k3;replace hM:=ζ hM;clear hap hO2 k1 k2 k3;have hlt2:=World.block_lt_of_cell? W2 _ cu;with_reducible refine hK _ _ ?_
 clear hK K;try simp only[xap]
 iterate 2 (refine xp fun K hK=>?_;go_simp;with_reducible refine hK _ _ ?_;clear hK K;(try simp only[xap]))
 refine xp fun K hK=>?_
 go_simp;with_reducible refine hK _ _ ?_
 clear hK K;try simp only[Act.put]
 go_wp2_with fail;go_ret;exact⟨rfl,hM.out,hBe⟩
open T (Sep Ob Kp Mf FlIn boxOb)
theorem sep_perm {B:Nat}{W:World}{l l':List Ob}(h:Sep B W l)(p:l.Perm l'):Sep B W l':=
 ⟨fun o ho=>h.ins o (p.mem_iff.2 ho),(List.Perm.pairwise_iff (fun q k hb ha=>q k ha hb) p).1 h.dis,fun o ho=>h.ge o (p.mem_iff.2 ho)⟩
theorem sep_tail {B:Nat}{W:World}{o:Ob}{l:List Ob}(h:Sep B W (o::l)):Sep B W l:=
 ⟨fun p hp=>h.ins p (List.mem_cons_of_mem _ hp),(List.pairwise_cons.1 h.dis).2,fun p hp=>h.ge p (List.mem_cons_of_mem _ hp)⟩
section
variable {B:Nat} {W W':World} {a:Nat} {P:Pr} {s:Fm} {l:List Ob}
theorem MIn.add (h:MIn B W a P s l)(o:Ob)(hi:o.In W')(hn:∀k,o.S k→W.heap.size≤k)(hb:Below W.heap.size W W'):MIn B W' a P s (o::l):=by
 obtain⟨⟨q,h1⟩,le⟩:=h;exact⟨⟨q,sep_perm (h1.add o hi hn hb le) List.perm_middle.symm⟩,Nat.le_trans le hb.size⟩
theorem MIn.drop {o:Ob}(h:MIn B W a P s (o::l)):MIn B W a P s l:=by
 obtain⟨⟨q,h1⟩,le⟩:=h;exact⟨⟨q,sep_tail (sep_perm h1 List.perm_middle)⟩,le⟩
theorem MIn.new (h:MIn B W a P s l)(cs:Array Value)(t:TypeId):MIn B (W.alloc (.cells cs t)) a P s (boxOb W.heap.size cs::l)∧Below B W (W.alloc (.cells cs t)):=
 ⟨h.add (boxOb W.heap.size cs) (At.new W cs t) (fun k q=>by have:k=W.heap.size:=q;omega) ((Below.refl _ W).alloc (Nat.le_refl _) _),((Below.refl _ W).alloc (Nat.le_refl _) _).mono h.le⟩
theorem MIn.side {o o':Ob}(h:MIn B W a P s (o::l))(hi:o'.In W')(hk:Kp o.S W W')(hn:∀k,o'.S k→o.S k∨W.heap.size≤k):MIn B W' a P s (o'::l)∧Below B W W':=by
 obtain⟨⟨q,h1⟩,le⟩:=h;exact⟨⟨⟨q,sep_change (l1:=obs B a P s q) (o:=o) (o':=o') (l2:=l) h1 hi hk hn le⟩,Nat.le_trans le hk.size⟩,sep_below (l1:=obs B a P s q) (o:=o) (l2:=l) h1 hk le⟩
end
theorem Bx.hand {w:World}{a:Nat}{x:Fx}(h:Bx w a x):w.rangeAt a 4 (Fr.vals ⟨x.g,x.p,x.r⟩):=fun j v q=>by
 have hj:j<18:=by have:=(List.getElem?_eq_some_iff.1 q).1;rwa [Fr.len]at this
 have hc:=h.at_ (4+j) (by omega);rw[hc,←q];by_cases h2:j<2
 ·match j,h2 with
  |0,_=>rfl
  |1,_=>rfl
 ·rw[show 4+j=6+(j - 2)by omega,Fx.reg x (j - 2) (by omega),show j=2+(j - 2)by omega,Fr.reg _ (j - 2) (by omega),show 2+(j - 2) - 2=j - 2 by omega]
def Fx.hand (x:Fx)(f:Fr):Fx:={x with g:=f.g,p:=f.p,r:=f.r}
theorem Bx.there4 {w:World}{a:Nat}{x:Fx}(h:Bx w a x):w.there a 4 18:=fun j hj=>⟨by rw[h.at_ (4+j) (by omega)];rfl,h.fr _⟩
theorem Bx.setHand {w:World}{a:Nat}{x:Fx}(h:Bx w a x)(f:Fr):Bx (w.setCells a 4 f.vals) a (x.hand f):=by
 have hin:∀j (hj:j<f.vals.length),(w.setCells a 4 f.vals).cell? ⟨a,4+j,none⟩=some f.vals[j]:=World.cell?_setCells_in a f.vals 4 w (fun j hj=>(h.there4 j (by rwa [Fr.len]at hj)).1);have hout:∀j,j<4∨22≤j→(w.setCells a 4 f.vals).cell? ⟨a,j,none⟩=w.cell? ⟨a,j,none⟩:=fun j hj=>World.cell?_setCells_out a f.vals 4 w ⟨a,j,none⟩ (fun _ _=>by rw[Fr.len];omega)
 have ho:∀j,j<29→(j<4∨22≤j)→(x.hand f).at j=x.at j→(w.setCells a 4 f.vals).cell? ⟨a,j,none⟩=some ((x.hand f).at j):=fun j h1 h2 h3=>by rw[hout j h2,h3];exact h.at_ j h1
 refine⟨by rw[setCells_size];exact h.lt,fx_cases (P:=fun j=>(w.setCells a 4 f.vals).cell? ⟨a,j,none⟩=some ((x.hand f).at j)) (ho 0 (by omega) (by omega) rfl) (ho 1 (by omega) (by omega) rfl) (ho 2 (by omega) (by omega) rfl) (ho 3 (by omega) (by omega) rfl) ?_ ?_ (fun i hi=>?_) (ho 22 (by omega) (by omega) rfl) (ho 23 (by omega) (by omega) rfl) (ho 24 (by omega) (by omega) rfl) (ho 25 (by omega) (by omega) rfl) (ho 26 (by omega) (by omega) rfl) (ho 27 (by omega) (by omega) rfl) (ho 28 (by omega) (by omega) rfl),fun j=>by rw[World.frozen?_setCells];exact h.fr j⟩
 ·exact hin 0 (by rw[Fr.len];omega)
 ·exact hin 1 (by rw[Fr.len];omega)
 ·have:=hin (2+i) (by rw[Fr.len];omega);rw[show 4+(2+i)=6+i by omega]at this;rw[this,Fx.reg _ i hi];have e:=Fr.reg f i hi;rw[List.getElem?_eq_getElem (by rw[Fr.len];omega)]at e;exact e
theorem build_frs (f:Fr)(W:World):(Instr.buildSlice 82 1 #[(0,.agg (Fr.vals f).toArray)]).run Tryz.prog W=.ok (.slice (some ⟨W.heap.size,0,none⟩) 1 1) (W.alloc (.cells (Fr.vals f).toArray 81)):=by kernel_rfl
theorem wp_build_frs {o:Oper}{a:Act}{K:Act→World→Prop}{Q:Exit→Act→World→Prop}{w:World}(x:Operand)(ho:o.op=.buildSlice 82 1 #[(0,x)])(f:Fr)(hx:a.eval x=.agg (Fr.vals f).toArray)
 (h:K (a.put o.dst (.slice (some ⟨w.heap.size,0,none⟩) 1 1)) (w.alloc (.cells (Fr.vals f).toArray 81))):o.wp Tryz.prog a w K Q:=by
 unfold Oper.wp execOp;simp only[ho,List.map_toArray,List.map_cons,List.map_nil,hx,build_frs,Sem.run_bind,Sem.run_pure,Result.andThen_ok];exact h
theorem own_pop {w:World}{lo e k n:Nat}{v:Value}{xs ys:List Value}{a:Option Addr}{c:Nat}(h:w.ownsRow lo e k v (n+1) xs)(hv:v=.slice a (n+1) c)(hy:ys=xs.take (n*k)):w.ownsRow lo e k (.slice a n c) n ys:=by
 subst hv;rcases h.2 with⟨_,h9⟩|⟨g,cap,cur,e1,hb,hg,hc1,hc2,hc3,hc4⟩
 ·omega
 ·injection e1 with e1 e2 e3
  subst e1 e3;have hx:=h.1;have hle:n*k≤(n+1)*k:=Nat.mul_le_mul_right k (by omega);refine⟨by rw[hy,List.length_take,hx];omega,.inr ⟨g,c,cur,rfl,hb,hg,by omega,hc2,hc3,?_⟩⟩;rw[hy,←hc4,List.take_take,Nat.min_eq_left hle]
section
variable {B:Nat} {W:World} {a:Nat} {P:Pr} {s:Fm} {l:List Ob}
theorem kp_sets4 (w:World)(b:Nat)(vs:List Value)(o:Nat):Kp (fun k=>k=b) w (w.setCells b o vs):=by
 induction vs generalizing w o with
 |nil=>exact Kp.refl _ w
 |cons v r ih=>exact(Kp.set (S:=fun k=>k=b) w ⟨b,o,none⟩ v rfl).trans (ih (w.setCell ⟨b,o,none⟩ v) (o+1)) (fun _ q=>.inl q)
theorem MIn.hand (h:MIn B W a P s l)(f:Fr):MIn B (W.setCells a 4 f.vals) a P {s with g:=f.g,p:=f.p,r:=f.r} l∧Below B W (W.setCells a 4 f.vals):=
 h.box (s':={s with g:=f.g,p:=f.p,r:=f.r}) ⟨rfl,rfl,rfl,rfl,rfl⟩ (fun _ hb=>hb.setHand f) (kp_sets4 W a f.vals 4)
theorem MIn.there4 (h:MIn B W a P s l):W.there a 4 18:=by
 obtain⟨q,hb⟩:=h.bx;exact hb.there4
theorem MIn.handAt (h:MIn B W a P s l):W.rangeAt a 4 (Fr.vals ⟨s.g,s.p,s.r⟩):=by
 obtain⟨q,hb⟩:=h.bx;exact hb.hand
theorem frs_len (L:List Fr):(L.flatMap Fr.vals).length=L.length*18:=flat_len Fr.len L
theorem MIn.top (h:MIn B W a P s l)(L:List Fr)(t:Fr)(hs:s.st=L++[t]):∃g c,W.cell? ⟨a,22,none⟩=some (.slice (some ⟨g,0,none⟩) (L.length+1) c)∧L.length+1≤c∧g<W.heap.size∧W.frozen? ⟨a,22,none⟩=false∧W.rangeAt g (L.length*18) t.vals∧
 (MIn B (W.setCell ⟨a,22,none⟩ (.slice (some ⟨g,0,none⟩) L.length c)) a P {s with st:=L} l∧Below B W (W.setCell ⟨a,22,none⟩ (.slice (some ⟨g,0,none⟩) L.length c))):=by
 obtain⟨⟨q,h1⟩,le⟩:=h;have hb:=h1.ins (bxOb a (bxOf P s q)) (by simp[obs]);have hO:W.ownsRow B 81 18 q.sv s.st.length (s.st.flatMap Fr.vals):=h1.ins (stOb B q.sv s.st) (by simp[obs]);have hlt:=hO.lt;rw[hs]at hO;rw[List.length_append]at hO;obtain⟨ta,tk,etv⟩:=own_slZ hO;have hpop:=own_pop (n:=L.length) (ys:=L.flatMap Fr.vals) hO etv (by rw[List.flatMap_append,List.take_append_of_le_length (by rw[frs_len];exact Nat.le_refl _),List.take_of_length_le (by rw[frs_len];exact Nat.le_refl _)]);rcases hO.2 with⟨_,h9⟩|⟨g,cap,cur,e1,hbb,hg,hc1,hc2,hc3,hc4⟩
 ·simp at h9
 ·rw[etv]at e1;injection e1 with e1 e2 e3
  subst e1 e3;have hgl:g<W.heap.size:=(hlt g (by rw[etv];rfl)).2;refine⟨g,tk,by have:=hb.at_ 22 (by omega);rw[show(bxOf P s q).at 22=q.sv from rfl,etv]at this;exact this,hc1,hgl,hb.fr 22,fun j v qj=>?_,?_⟩
  ·have hj:j<18:=by have:=(List.getElem?_eq_some_iff.1 qj).1;rwa [Fr.len]at this
   have hf:=flat_at' (f:=Fr.vals) Fr.len (L++[t]) L.length (by simp) j hj;rw[List.getElem_append_right (by omega)]at hf;simp only[Nat.sub_self,List.getElem_cons_zero]at hf;rw[qj,←hc4,List.getElem?_take_of_lt (by simp;omega)]at hf;have:W.cell? ⟨g,L.length*18+j,none⟩=cur[L.length*18+j]?:=by simp[World.cell?,hg]
   rw[this,←hf];simp
  ·have h2:=sep_change (W':=W) (l1:=[bxOb a (bxOf P s q),flOb q.F q.mp s.m]) (o:=stOb B q.sv s.st) (o':=stOb B (.slice (some ⟨g,0,none⟩) L.length tk) L) (l2:=inOb q.iv s.inp::ouOb B q.ov_ s.out::tcOb B q.tv s.tc::pgOb q.SP q.cv q.gv P::l) h1 hpop (Kp.refl _ W) (fun k r=>.inl (by
    show q.sv.ownBlock=some k;rw[etv];exact r)) le
   obtain⟨h3,b3⟩:=sep_box (bxOf P s q) (bxOf P {s with st:=L} {q with sv:=.slice (some ⟨g,0,none⟩) L.length tk}) h2 (.slice (some ⟨g,0,none⟩) L.length tk) 22 (fun hb=>hb.sv _) le;exact⟨⟨⟨{q with sv:=.slice (some ⟨g,0,none⟩) L.length tk},h3⟩,Nat.le_trans le b3.size⟩,b3⟩
end
theorem handed_any (a n:Nat)(w:World)(hn:n≤15):Calls Tryz.prog 128 #[.pointer (some ⟨a,0,none⟩),.int .i64 n] w fun x w'=>x=.returned (.slice (some ⟨a,7,none⟩) n 15)∧w'=w:=by
 have h1:(n:Int)≤15:=by omega
 have h2:(1:Int)≤1+(n:Int):=by omega
 have h3:1+(n:Int)≤16:=by omega
 have h4:(1+(n:Int)).toNat - 1=n:=by omega
 go_enter Tryz.func128,Tryz.ntmps128;go_wp2_with fail;go_ret;exact⟨rfl,rfl⟩
theorem first_none (a:Option Addr)(c:Nat)(w:World):Calls Tryz.prog 129 #[.slice a 0 c] w fun x w'=>x=.returned (.int .u64 0)∧w'=w:=by
 go_enter Tryz.func129,Tryz.ntmps129;go_wp2_with fail;go_ret;exact⟨rfl,rfl⟩
theorem first_some (b off n c:Nat)(v:Int)(w:World)(h:w.cell? ⟨b,off,none⟩=some (.int .u64 v))(hn:n≤1000):Calls Tryz.prog 129 #[.slice (some ⟨b,off,none⟩) (n+1) c] w fun x w'=>x=.returned (.int .u64 v)∧w'=w:=by
 have h0:((n:Int)+1==0)=false:=by simpa using(by omega:¬(n:Int)+1=0)
 go_enter Tryz.func129,Tryz.ntmps129;go_wp2_with fail;go_ret;exact⟨rfl,rfl⟩
theorem takeIn_none (B:Nat)(W0:World)(a:Nat)(P:Pr)(s:Fm)(l:List Ob)(i:Fi)(h:MIn B W0 a P s l)(hi:s.inp=[]):
 Calls Tryz.prog 106 #[.agg #[.int .u8 i.op,.int .i64 i.a,.int .i64 i.b,.int .i64 i.c,.int .u64 i.i],.pointer (some ⟨a,0,none⟩)] W0 fun x w'=>x=.returned (.tuple #[])∧MIn B w' a P {s with e:=6,v:=0,f:=0} l∧Below B W0 w':=by
 have h2:=ζ (h.new i.w 128);clear h;go_enter Tryz.func106,Tryz.ntmps106;go_upto_region 1 with fail
 refine wp_world (fun W=>MIn B W a P s (boxOb W0.heap.size i.w::l)∧Below B W0 W) h2.out ?_;rintro W ⟨h,hB⟩;replace h:=ζ h;replace hB:=ζ hB;clear h2;generalize W0.heap.size=kb at*;have hf:=ζ (h.out.onBox (s':={s with e:=6,v:=0,f:=0}) ⟨rfl,rfl,rfl,rfl,rfl⟩ (fun q hb=>finish_any a _ 6 0 W hb));have c23:∃va cap,W.cell? ⟨a,23,none⟩=some (.slice va 0 cap):=by
  obtain⟨⟨q,h1⟩,le⟩:=h.out;have hb:=h1.ins (bxOb a (bxOf P s q)) (by simp[obs]);obtain⟨va,cap,e1,_,_⟩:=(h1.ins (inOb q.iv s.inp) (by simp[obs])).go;rw[hi]at e1;exact⟨va,cap,by rw[show(0:Nat)=([]:List Int).length from rfl,←e1];exact hb.at_ 23 (by omega)⟩
 obtain⟨va,cap,c23⟩:=c23;go_wp2_with fail;refine(hf.out).mono ?_;rintro r V2 ⟨rfl,h2,hB2⟩;replace hB:Hz (Below B W0 V2):=ζ (hB.out.trans hB2);clear hB2;clear h;have h:=ζ h2;clear h2;go_wp2_with fail
 first|go_end0|((try simp only[Exit.inBlock,Exit.then]);refine xre ?_)
 exact⟨rfl,h.out.drop,hB.out⟩
theorem takeIn_some (B:Nat)(W0:World)(a:Nat)(P:Pr)(s:Fm)(l:List Ob)(i:Fi)(n:Int)(L:List Int)(h:MIn B W0 a P s l)(hi:s.inp=n::L)(hL:L.length≤140737488355328)(ha:i.a<16)(hp:s.p≤1000000):
 Calls Tryz.prog 106 #[.agg #[.int .u8 i.op,.int .i64 i.a,.int .i64 i.b,.int .i64 i.c,.int .u64 i.i],.pointer (some ⟨a,0,none⟩)] W0 fun x w'=>x=.returned (.tuple #[])∧MIn B w' a P {s with inp:=L,r:=updR s.r i.a n,p:=s.p+1} l∧Below B W0 w':=by
 have h2:=ζ (h.new i.w 128);clear h;go_enter Tryz.func106,Tryz.ntmps106;go_upto_region 1 with fail
 refine wp_world (fun W=>MIn B W a P s (boxOb W0.heap.size i.w::l)∧Below B W0 W) h2.out ?_;rintro W ⟨h,hB⟩;replace h:=ζ h;replace hB:=ζ hB;clear h2;generalize W0.heap.size=kb at*;have c23:∃b off cap,W.cell? ⟨a,23,none⟩=some (.slice (some ⟨b,off,none⟩) (L.length+1) cap)∧L.length+1≤cap∧W.cell? ⟨b,off,none⟩=some (.int .u64 n)∧W.frozen? ⟨a,23,none⟩=false∧∀v,(v=Value.slice (some ⟨b,off+1,none⟩) L.length (cap - 1)∨(cap=1∧v=.slice (some ⟨b,off,none⟩) L.length 0))→MIn B (W.setCell ⟨a,23,none⟩ v) a P {s with inp:=L} (boxOb kb i.w::l)∧Below B W (W.setCell ⟨a,23,none⟩ v):=by
  obtain⟨⟨q,h1⟩,le⟩:=h.out;have hb:=h1.ins (bxOb a (bxOf P s q)) (by simp[obs]);have hI:IvIn W q.iv s.inp:=h1.ins (inOb q.iv s.inp) (by simp[obs]);obtain⟨va,cap,e1,e2,e3⟩:=hI.go;rw[hi]at e1 e2;replace e2:L.length+1≤cap:=by simpa using e2
  rcases e3 with e3|⟨b,off,rfl,e3⟩
  ·rw[hi]at e3;simp at e3
  ·have hblt:b<W.heap.size:=hI.lt b (by rw[e1];rfl);have rm:∀j,j<cap→(W.cell? ⟨b,off+j,none⟩).isSome=true∧W.frozen? ⟨b,off+j,none⟩=false:=by
    obtain⟨a2,cap2,f1,f2⟩:=hI.rm;rw[hi,e1]at f1;injection f1 with f3 _ f4;subst f3 f4;rcases f2 with⟨f2,_⟩|⟨b2,off2,f5,f6⟩
    ·cases f2
    ·cases f5
     exact f6
   have e0:=e3 0 (by rw[hi];simp);simp only[hi,List.getElem_cons_zero,Nat.add_zero]at e0;refine⟨b,off,cap,?_,e2,e0,hb.fr 23,fun v hv=>?_⟩
   ·have:=hb.at_ 23 (by omega);rw[show(bxOf P s q).at 23=q.iv from rfl,e1]at this;exact this
   ·refine MIn.take L v h1 le ?_ (by rw[e1];rcases hv with rfl|⟨_,rfl⟩<;>rfl);rcases hv with rfl|⟨hc,rfl⟩
    ·refine⟨⟨_,_,rfl,by omega,.inr ⟨b,off+1,rfl,fun j hj=>?_⟩⟩,fun k r=>by cases r;exact hblt,⟨_,_,rfl,.inr ⟨b,off+1,rfl,fun j hj=>by rw[show off+1+j=off+(j+1)by omega];exact rm (j+1) (by omega)⟩⟩⟩;have:=e3 (j+1) (by rw[hi];simp;omega);simp only[hi,List.getElem_cons_succ]at this;rw[show off+1+j=off+(j+1)by omega];exact this
    ·have hL0:L.length=0:=by omega
     exact⟨⟨_,_,rfl,by omega,.inl hL0⟩,fun k r=>by cases r;exact hblt,⟨_,_,rfl,.inr ⟨b,off,rfl,fun j hj=>absurd hj (Nat.not_lt_zero j)⟩⟩⟩
 obtain⟨b,off,cap,c23,hcap,cb,f23,htk⟩:=c23;replace htk:=ζ htk;have hcap2:cap≤maxLen→True:=fun _=>trivial
 clear hcap2;have hn0:((L.length:Int)+1==0)=false:=by simpa using(by omega:¬(L.length:Int)+1=0)
 obtain⟨q9,hb9⟩:=h.out.bx;have hlt:=hb9.lt;clear hb9 q9;have hle:=h.out.le;by_cases hc1:cap=1
 ·subst hc1;have hT:=ζ (htk.out _ (.inr ⟨rfl,rfl⟩));have hL0:L.length=0:=by omega
  rw[hL0]at hT;go_upto_region 5 with fail
  refine wp_world (fun V=>MIn B V a P {s with inp:=L} (boxOb kb i.w::l)∧Below B W V) hT.out ?_;rintro V ⟨h2,hB2⟩;clear hT htk c23 cb f23 hlt;replace hB:Hz (Below B W0 V):=ζ (hB.out.trans hB2);clear hB2 h;have h:=ζ h2;clear h2;have q1:V.cell? ⟨kb,1,none⟩=some (.int .i64 i.a):=(h.out.there (boxOb kb i.w) (.head _)).2.1 1;have hly:=ζ (h.out.onBox (s':={s with inp:=L,r:=updR s.r i.a n,p:=s.p+1}) ⟨rfl,rfl,rfl,rfl,rfl⟩ (fun q hb=>lay_any a _ i.a n V hb ha hp));go_wp2_with fail;refine hly.out.mono ?_;rintro r V4 ⟨rfl,h2,hB2⟩;replace hB:Hz (Below B W0 V4):=ζ (hB.out.trans hB2);replace h2:=ζ h2;clear h hly;go_wp2_with fail
  first|go_end0|((try simp only[Exit.inBlock,Exit.then]);refine xre ?_)
  exact⟨rfl,h2.out.drop,hB.out⟩
 ·have hT:=ζ (htk.out _ (.inl rfl));have hc2:1<cap:=by omega
  go_upto_region 5 with fail;refine wp_world (fun V=>MIn B V a P {s with inp:=L} (boxOb kb i.w::l)∧Below B W V) hT.out ?_;rintro V ⟨h2,hB2⟩;clear hT htk c23 cb f23 hlt;replace hB:Hz (Below B W0 V):=ζ (hB.out.trans hB2);clear hB2 h;have h:=ζ h2;clear h2;have q1:V.cell? ⟨kb,1,none⟩=some (.int .i64 i.a):=(h.out.there (boxOb kb i.w) (.head _)).2.1 1;have hly:=ζ (h.out.onBox (s':={s with inp:=L,r:=updR s.r i.a n,p:=s.p+1}) ⟨rfl,rfl,rfl,rfl,rfl⟩ (fun q hb=>lay_any a _ i.a n V hb ha hp));go_wp2_with fail;refine hly.out.mono ?_;rintro r V4 ⟨rfl,h2,hB2⟩;replace hB:Hz (Below B W0 V4):=ζ (hB.out.trans hB2);replace h2:=ζ h2;clear h hly;go_wp2_with fail
  first|go_end0|((try simp only[Exit.inBlock,Exit.then]);refine xre ?_)
  exact⟨rfl,h2.out.drop,hB.out⟩
theorem putOut_op (B:Nat)(W0:World)(a:Nat)(P:Pr)(s:Fm)(l:List Ob)(i:Fi)(h:MIn B W0 a P s l)(ha:i.a<16)(hl:s.out.length≤1000000)(hp:s.p≤1000000):
 Calls Tryz.prog 107 #[.agg #[.int .u8 i.op,.int .i64 i.a,.int .i64 i.b,.int .i64 i.c,.int .u64 i.i],.pointer (some ⟨a,0,none⟩)] W0 fun x w'=>x=.returned (.tuple #[])∧MIn B w' a P {s with out:=s.out++[s.r i.a],p:=s.p+1} l∧Below B W0 w':=by
 have h2:=ζ (h.new i.w 128);clear h;go_enter Tryz.func107,Tryz.ntmps107;go_upto_region 1 with fail
 refine wp_world (fun W=>MIn B W a P s (boxOb W0.heap.size i.w::l)∧Below B W0 W) h2.out ?_;rintro W ⟨h,hB⟩;replace h:=ζ h;replace hB:=ζ hB;clear h2;generalize W0.heap.size=kb at*;have KS:=xk1 i kb;have hleW:=h.out.le;have hpk:∃q ta tk,Bx W a (bxOf P s q)∧W.cell? ⟨a,24,none⟩=some (.slice ta s.out.length tk)∧(∀V,Gr W V→V.ownsRow B 51 1 (.slice ta s.out.length tk) s.out.length (s.out.map u64I))∧∀V W2 g cap,Gr W V→W2.ownsRow B 51 1 (.slice (some ⟨g,0,none⟩) (s.out.length+1) cap) (s.out.length+1) (s.out.map u64I++[.int .u64 (s.r i.a)])→V.grownBy W2 (Value.slice ta s.out.length tk).ownBlock→((Value.slice ta s.out.length tk).ownBlock=some g∨g=V.heap.size)→(∃u,W2.cell? ⟨a,24,none⟩=some u)∧W2.frozen? ⟨a,24,none⟩=false∧At W2 kb i.w∧MIn B (W2.setCell ⟨a,24,none⟩ (.slice (some ⟨g,0,none⟩) (s.out.length+1) cap)) a P {s with out:=s.out++[s.r i.a]} (boxOb kb i.w::l)∧Below B W (W2.setCell ⟨a,24,none⟩ (.slice (some ⟨g,0,none⟩) (s.out.length+1) cap)):=by
  obtain⟨⟨q,h1⟩,le⟩:=h.out;have hb:=h1.ins (bxOb a (bxOf P s q)) (by simp[obs]);have hO:W.ownsRow B 51 1 q.ov_ s.out.length (s.out.map u64I):=h1.ins (ouOb B q.ov_ s.out) (by simp[obs]);obtain⟨ta,tk,etv⟩:=own_slZ hO;refine⟨q,ta,tk,hb,by rw[←etv];exact hb.at_ 24 (by omega),fun V g=>by rw[←etv];exact own_keep hO (Kp.of_below (S:=fun _=>False) g.below) (fun _ _ r=>r),fun V W2 g cap g1 k1 k2 k3=>?_⟩;rw[←etv]at k2 k3;have r:=MIn.app_out (s.r i.a) (h1.gr g1.below) (Nat.le_trans le g1.below.size) k1 k2 k3;exact⟨⟨_,r.1.at_ 24 (by omega)⟩,r.1.fr 24,r.2.1 (boxOb kb i.w) (.head _),r.2.2.1,(g1.below.mono le).trans r.2.2.2⟩
 obtain⟨q,ta,tk,hq,c24,hO2,hap⟩:=hpk;replace hq:=ζ hq;replace hO2:=ζ hO2;replace hap:=ζ hap;generalize s.out.map u64I=xs at*;have g0:Gr W W.drew:=(Gr.refl W).drew;refine wp_region_held_drew (S:=(fun W=>W.rangeAt kb 0 (Fi.vals i))) (by kernel_rfl) ((KS.out _ ((h.out.there (boxOb kb i.w) (.head _)).gr g0)).1) (fun hHeld=>?_);refine xz 0 rfl (h:=xz 1 rfl (h:=xz 2 rfl (h:=xz 3 rfl (h:=xz 5 rfl (h:=?_)))));try simp only[xap]
 refine xtk 6 rfl (yieldsIf_load_mid (by rfl) _ _ rfl _ _ rfl _ _ (fun _ h=>h) Tryz.underlying128 rfl (by kernel_rfl)) ?_;try simp only[xap]
 refine wpAnyH_ready (rs:=[4,7]) (by kernel_rfl) (by simp) ?_;refine(xcn rfl (fun K hK=>?_) (xcn rfl (fun K hK=>?_) AllReadyH.nil))
 ·skip
  have c4:=Gr.cellA h.out g0 c24;go_simp;clear hHeld;refine hK.out _ _ ((KS.out _ ((h.out.there (boxOb kb i.w) (.head _)).gr g0)).1) (fun hHeld=>?_);clear hK K c4;try simp only[xap]
  refine xrd 7 rfl (fun K hK=>?_);go_simp;go_wp2_with(refine(a_any a (bxOf P s q) i _ (hq.out.gr g0) ha).mono ?_;rintro r V1 ⟨rfl,gg⟩;have g1:=g0.trans gg;clear gg g0 hHeld;rw[show(bxOf P s q).r i.a=s.r i.a from rfl]);refine hK.out _ _ ((KS.out _ ((h.out.there (boxOb kb i.w) (.head _)).gr g1)).1) (fun hHeld=>?_);clear hK K;try simp only[xap]
  refine xrd 8 rfl (fun K hK=>?_);go_simp;have hX:=At.new V1 #[.int .u64 (s.r i.a)] 51;have g2:Gr W (V1.alloc (.cells #[.int .u64 (s.r i.a)] 51)):=g1.alloc _;clear hHeld;generalize hVV:V1.alloc (.cells #[.int .u64 (s.r i.a)] 51)=V2 at*;clear hVV g1;generalize V1.heap.size=kX at*;refine hK.out _ _ ((KS.out _ ((h.out.there (boxOb kb i.w) (.head _)).gr g2)).1) (fun hHeld=>?_);clear hK K;try simp only[xap]
  refine xrd 9 rfl (fun K hK=>?_);refine wp_append_z _ _ 26 51 (.int .u64 0) 1 8 rfl Tryz.underlying26 (by kernel_rfl) (by kernel_rfl) (by decide) (by decide) B (.slice ta s.out.length tk) s.out.length xs [.int .u64 (s.r i.a)] (by rfl) (hO2.out V2 g2) kX (by rfl) hX rfl (by simp[Value.oneCell']) hl (Nat.le_trans hleW g2.below.size) ?_;intro g cap W2 k1 k2 k3;obtain⟨⟨u,cu⟩,fu,hA2,hM,hBe⟩:=hap.out V2 W2 g cap g2 k1 k2 k3;replace hM:=ζ hM;replace hA2:=ζ hA2;clear k1 k2 k3 hHeld;have hlt2:=World.block_lt_of_cell? W2 _ cu;refine hK.out _ _ ((KS.out _ hA2.out).1) (fun hHeld=>?_);clear hK K;try simp only[xap]
  refine xz 10 rfl (h:=xz 11 rfl (h:=?_));try simp only[xap]
  refine xrd 12 rfl (fun K hK=>?_);go_simp;clear hHeld;refine hK.out _ _ ((KS.out _ (hM.out.there (boxOb kb i.w) (.head _))).1) (fun hHeld=>?_);clear hK K;try simp only[Act.put]
  refine xdn ?_ _;clear hHeld;replace hB:=ζ (hB.out.trans hBe);generalize World.setCell _ _ _=V9 at*;have hnx:=ζ (hM.out.onBox (s':={s with out:=s.out++[s.r i.a],p:=s.p+1}) ⟨rfl,rfl,rfl,rfl,rfl⟩ (fun q hb=>next_any a _ _ hb hp));go_wp2_with fail;refine hnx.out.mono ?_;rintro r V10 ⟨rfl,h9,hB9⟩;replace hB:=ζ (hB.out.trans hB9);replace h9:=ζ h9;go_wp2_with fail
  first|go_end0|((try simp only[Exit.inBlock,Exit.then]);refine xre ?_)
  exact⟨rfl,h9.out.drop,hB.out⟩
 ·skip
  go_simp;go_wp2_with(refine(a_any a (bxOf P s q) i _ (hq.out.gr g0) ha).mono ?_;rintro r V1 ⟨rfl,gg⟩;have g1:=g0.trans gg;clear gg g0 hHeld;rw[show(bxOf P s q).r i.a=s.r i.a from rfl]);refine hK.out _ _ ((KS.out _ ((h.out.there (boxOb kb i.w) (.head _)).gr g1)).1) (fun hHeld=>?_);clear hK K;try simp only[xap]
  refine wpAnyH_ready (rs:=[4,8]) (by kernel_rfl) (by simp) ?_;refine(xcn rfl (fun K hK=>?_) (xcn rfl (fun K hK=>?_) AllReadyH.nil))
  ·skip
   have c4:=Gr.cellA h.out g1 c24;go_simp;clear hHeld;refine hK.out _ _ ((KS.out _ ((h.out.there (boxOb kb i.w) (.head _)).gr g1)).1) (fun hHeld=>?_);clear hK K c4;try simp only[xap]
   refine xrd 8 rfl (fun K hK=>?_);go_simp;have hX:=At.new V1 #[.int .u64 (s.r i.a)] 51;have g2:Gr W (V1.alloc (.cells #[.int .u64 (s.r i.a)] 51)):=g1.alloc _;clear hHeld;generalize hVV:V1.alloc (.cells #[.int .u64 (s.r i.a)] 51)=V2 at*;clear hVV g1;generalize V1.heap.size=kX at*;refine hK.out _ _ ((KS.out _ ((h.out.there (boxOb kb i.w) (.head _)).gr g2)).1) (fun hHeld=>?_);clear hK K;try simp only[xap]
   refine xrd 9 rfl (fun K hK=>?_);refine wp_append_z _ _ 26 51 (.int .u64 0) 1 8 rfl Tryz.underlying26 (by kernel_rfl) (by kernel_rfl) (by decide) (by decide) B (.slice ta s.out.length tk) s.out.length xs [.int .u64 (s.r i.a)] (by rfl) (hO2.out V2 g2) kX (by rfl) hX rfl (by simp[Value.oneCell']) hl (Nat.le_trans hleW g2.below.size) ?_;intro g cap W2 k1 k2 k3;obtain⟨⟨u,cu⟩,fu,hA2,hM,hBe⟩:=hap.out V2 W2 g cap g2 k1 k2 k3;replace hM:=ζ hM;replace hA2:=ζ hA2;clear k1 k2 k3 hHeld;have hlt2:=World.block_lt_of_cell? W2 _ cu;refine hK.out _ _ ((KS.out _ hA2.out).1) (fun hHeld=>?_);clear hK K;try simp only[xap]
   refine xz 10 rfl (h:=xz 11 rfl (h:=?_));try simp only[xap]
   refine xrd 12 rfl (fun K hK=>?_);go_simp;clear hHeld;refine hK.out _ _ ((KS.out _ (hM.out.there (boxOb kb i.w) (.head _))).1) (fun hHeld=>?_);clear hK K;try simp only[Act.put]
   refine xdn ?_ _;clear hHeld;replace hB:=ζ (hB.out.trans hBe);generalize World.setCell _ _ _=V9 at*;have hnx:=ζ (hM.out.onBox (s':={s with out:=s.out++[s.r i.a],p:=s.p+1}) ⟨rfl,rfl,rfl,rfl,rfl⟩ (fun q hb=>next_any a _ _ hb hp));go_wp2_with fail;refine hnx.out.mono ?_;rintro r V10 ⟨rfl,h9,hB9⟩;replace hB:=ζ (hB.out.trans hB9);replace h9:=ζ h9;go_wp2_with fail
   first|go_end0|((try simp only[Exit.inBlock,Exit.then]);refine xre ?_)
   exact⟨rfl,h9.out.drop,hB.out⟩
  ·skip
   go_simp;have hX:=At.new V1 #[.int .u64 (s.r i.a)] 51;have g2:Gr W (V1.alloc (.cells #[.int .u64 (s.r i.a)] 51)):=g1.alloc _;clear hHeld;generalize hVV:V1.alloc (.cells #[.int .u64 (s.r i.a)] 51)=V2 at*;clear hVV g1;generalize V1.heap.size=kX at*;refine hK.out _ _ ((KS.out _ ((h.out.there (boxOb kb i.w) (.head _)).gr g2)).1) (fun hHeld=>?_);clear hK K;try simp only[xap]
   refine xrd 4 rfl (fun K hK=>?_);have c4:=Gr.cellA h.out g2 c24;go_simp;clear hHeld;refine hK.out _ _ ((KS.out _ ((h.out.there (boxOb kb i.w) (.head _)).gr g2)).1) (fun hHeld=>?_);clear hK K c4;try simp only[xap]
   refine xrd 9 rfl (fun K hK=>?_);refine wp_append_z _ _ 26 51 (.int .u64 0) 1 8 rfl Tryz.underlying26 (by kernel_rfl) (by kernel_rfl) (by decide) (by decide) B (.slice ta s.out.length tk) s.out.length xs [.int .u64 (s.r i.a)] (by rfl) (hO2.out V2 g2) kX (by rfl) hX rfl (by simp[Value.oneCell']) hl (Nat.le_trans hleW g2.below.size) ?_;intro g cap W2 k1 k2 k3;obtain⟨⟨u,cu⟩,fu,hA2,hM,hBe⟩:=hap.out V2 W2 g cap g2 k1 k2 k3;replace hM:=ζ hM;replace hA2:=ζ hA2;clear k1 k2 k3 hHeld;have hlt2:=World.block_lt_of_cell? W2 _ cu;refine hK.out _ _ ((KS.out _ hA2.out).1) (fun hHeld=>?_);clear hK K;try simp only[xap]
   refine xz 10 rfl (h:=xz 11 rfl (h:=?_));try simp only[xap]
   refine xrd 12 rfl (fun K hK=>?_);go_simp;clear hHeld;refine hK.out _ _ ((KS.out _ (hM.out.there (boxOb kb i.w) (.head _))).1) (fun hHeld=>?_);clear hK K;try simp only[Act.put]
   refine xdn ?_ _;clear hHeld;replace hB:=ζ (hB.out.trans hBe);generalize World.setCell _ _ _=V9 at*;have hnx:=ζ (hM.out.onBox (s':={s with out:=s.out++[s.r i.a],p:=s.p+1}) ⟨rfl,rfl,rfl,rfl,rfl⟩ (fun q hb=>next_any a _ _ hb hp));go_wp2_with fail;refine hnx.out.mono ?_;rintro r V10 ⟨rfl,h9,hB9⟩;replace hB:=ζ (hB.out.trans hB9);replace h9:=ζ h9;go_wp2_with fail
   first|go_end0|((try simp only[Exit.inBlock,Exit.then]);refine xre ?_)
   exact⟨rfl,h9.out.drop,hB.out⟩
theorem load1_bad (B:Nat)(W0:World)(a:Nat)(P:Pr)(s:Fm)(l:List Ob)(i:Fi)(h:MIn B W0 a P s l)(hb:i.b<16)(hq9:65536 - 1<IntKind.u64.wrap (s.r i.b+i.i)):
 Calls Tryz.prog 130 #[.agg #[.int .u8 i.op,.int .i64 i.a,.int .i64 i.b,.int .i64 i.c,.int .u64 i.i],.pointer (some ⟨a,0,none⟩),.int .u64 1] W0 fun x w'=>x=.returned (.tuple #[])∧MIn B w' a P {s with e:=7,v:=0,f:=5} l∧Below B W0 w':=by
 replace hq9:=ζ hq9;have h2:=ζ (h.new i.w 128);clear h;go_enter Tryz.func130,Tryz.ntmps130;go_upto_region 1 with fail
 refine wp_world (fun W=>MIn B W a P s (boxOb W0.heap.size i.w::l)∧Below B W0 W) h2.out ?_;rintro W ⟨h,hB⟩;replace h:=ζ h;replace hB:=ζ hB;clear h2;generalize W0.heap.size=kb at*;have KS:=xk1 i kb;have hleW:=h.out.le;obtain⟨q,hq⟩:=h.out.bx;replace hq:=ζ hq;have g0:Gr W W.drew:=(Gr.refl W).drew;refine wp_region_held_drew (S:=(fun W=>W.rangeAt kb 0 (Fi.vals i)∧W.cell? ⟨kb,1,none⟩=some (.int .i64 i.a)∧W.cell? ⟨kb,3,none⟩=some (.int .i64 i.c)∧W.cell? ⟨kb,4,none⟩=some (.int .u64 i.i))) (by kernel_rfl) (KS.out _ ((h.out.there (boxOb kb i.w) (.head _)).gr g0)) (fun hHeld=>?_);refine xz 0 rfl (h:=?_);try simp only[xap]
 refine xtk 1 rfl (yieldsIf_load_mid (by rfl) _ _ rfl _ _ rfl _ _ (fun _ h=>h.1) Tryz.underlying128 rfl (by kernel_rfl)) ?_;try simp only[xap]
 refine xz 3 rfl (h:=xz 4 rfl (h:=?_));try simp only[xap]
 refine xrd 2 rfl (fun K hK=>?_);go_simp;go_wp2_with(refine(b_any a (bxOf P s q) i _ (hq.out.gr g0) hb).mono ?_;rintro r V1 ⟨rfl,gg⟩;have g1:=g0.trans gg;clear gg g0 hHeld);refine hK.out _ _ (KS.out _ ((h.out.there (boxOb kb i.w) (.head _)).gr g1)) (fun hHeld=>?_);clear hK K;try simp only[xap]
 refine xz 5 rfl (h:=xz 6 rfl (h:=?_));try simp only[xap]
 refine xdn ?_ _;clear hHeld hq;rw[show(bxOf P s q).r=s.r from rfl];clear q;replace h:=ζ (h.out.gro g1);replace hB:Hz (Below B W0 V1):=ζ (hB.out.trans (g1.below.mono hleW));clear g1;have ht:=ζ (touch_bad B V1 a P s _ false (IntKind.u64.wrap (s.r i.b+i.i)) 1 h.out (by omega) hq9.out);go_wp2_with fail;refine(ht.out).mono ?_;rintro r V2 ⟨rfl,h2,hB2⟩;replace hB:Hz (Below B W0 V2):=ζ (hB.out.trans hB2);clear hB2;clear h;have h:=ζ h2;clear h2;go_wp2_with fail
 first|go_end0|((try simp only[Exit.inBlock,Exit.then]);refine xre ?_)
 exact⟨rfl,h.out.drop,hB.out⟩
theorem load1_ok (B:Nat)(W0:World)(a:Nat)(P:Pr)(s:Fm)(l:List Ob)(i:Fi)(h:MIn B W0 a P s l)(ha:i.a<16)(hb:i.b<16)(hq9:IntKind.u64.wrap (s.r i.b+i.i)≤65536 - 1)(hl:s.tc.length≤1000000)(hp:s.p≤1000000):
 Calls Tryz.prog 130 #[.agg #[.int .u8 i.op,.int .i64 i.a,.int .i64 i.b,.int .i64 i.c,.int .u64 i.i],.pointer (some ⟨a,0,none⟩),.int .u64 1] W0 fun x w'=>x=.returned (.tuple #[])∧MIn B w' a P {s with tc:=s.tc++[⟨false,IntKind.u64.wrap (s.r i.b+i.i),1⟩],r:=updR s.r i.a (T.ldV s.m (IntKind.u64.wrap (s.r i.b+i.i)).toNat 1:Nat),p:=s.p+1} l∧Below B W0 w':=by
 obtain⟨N,hAD⟩:∃N:Nat,IntKind.u64.wrap (s.r i.b+i.i)=(N:Int):=⟨(IntKind.u64.wrap (s.r i.b+i.i)).toNat,by have:=wrap_u64_nonneg (s.r i.b+i.i);omega⟩;simp only[hAD,Int.toNat_natCast]at hq9 ⊢;have e7:N<18446744073709551616:=by omega
 generalize hLV:T.ldV s.m N 1=LV at*;replace hq9:=ζ hq9;replace hLV:=ζ hLV;have h2:=ζ (h.new i.w 128);clear h;go_enter Tryz.func130,Tryz.ntmps130;go_upto_region 1 with fail
 refine wp_world (fun W=>MIn B W a P s (boxOb W0.heap.size i.w::l)∧Below B W0 W) h2.out ?_;rintro W ⟨h,hB⟩;replace h:=ζ h;replace hB:=ζ hB;clear h2;generalize W0.heap.size=kb at*;have KS:=xk1 i kb;have hleW:=h.out.le;obtain⟨q,hq⟩:=h.out.bx;replace hq:=ζ hq;have g0:Gr W W.drew:=(Gr.refl W).drew;refine wp_region_held_drew (S:=(fun W=>W.rangeAt kb 0 (Fi.vals i)∧W.cell? ⟨kb,1,none⟩=some (.int .i64 i.a)∧W.cell? ⟨kb,3,none⟩=some (.int .i64 i.c)∧W.cell? ⟨kb,4,none⟩=some (.int .u64 i.i))) (by kernel_rfl) (KS.out _ ((h.out.there (boxOb kb i.w) (.head _)).gr g0)) (fun hHeld=>?_);refine xz 0 rfl (h:=?_);try simp only[xap]
 refine xtk 1 rfl (yieldsIf_load_mid (by rfl) _ _ rfl _ _ rfl _ _ (fun _ h=>h.1) Tryz.underlying128 rfl (by kernel_rfl)) ?_;try simp only[xap]
 refine xz 3 rfl (h:=xz 4 rfl (h:=?_));try simp only[xap]
 refine xrd 2 rfl (fun K hK=>?_);go_simp;go_wp2_with(refine(b_any a (bxOf P s q) i _ (hq.out.gr g0) hb).mono ?_;rintro r V1 ⟨rfl,gg⟩;have g1:=g0.trans gg;clear gg g0 hHeld);refine hK.out _ _ (KS.out _ ((h.out.there (boxOb kb i.w) (.head _)).gr g1)) (fun hHeld=>?_);clear hK K;try simp only[xap]
 refine xz 5 rfl (h:=xz 6 rfl (h:=?_));try simp only[xap]
 refine xdn ?_ _;clear hHeld hq;rw[show(bxOf P s q).r=s.r from rfl];clear q;replace h:=ζ (h.out.gro g1);replace hB:Hz (Below B W0 V1):=ζ (hB.out.trans (g1.below.mono hleW));clear g1;rw[hAD];clear hAD;have ht:=ζ (touch_ok B V1 a P s _ false (N:Int) 1 h.out (by omega) hq9.out hl);go_wp2_with fail;refine(ht.out).mono ?_;rintro r V2 ⟨rfl,h2,hB2⟩;replace hB:Hz (Below B W0 V2):=ζ (hB.out.trans hB2);clear hB2;clear h;have h:=ζ h2;clear h2;clear ht;obtain⟨km,c3,FF,hF,_⟩:=h.out.onMem;have hld:=ζ (T.flLoad_any FF km N 1 s.m V2 hF e7 (by decide));rw[hLV.out]at hld;clear hF;have hleW:=h.out.le;go_wp2_with fail;refine hld.out.mono ?_;rintro r V3 ⟨rfl,hB2⟩;clear c3 hld;replace h:=ζ (h.out.gr hB2);replace hB2:=hB2.mono hleW;replace hB:Hz (Below B W0 V3):=ζ (hB.out.trans hB2);clear hB2;have q1:V3.cell? ⟨kb,1,none⟩=some (.int .i64 i.a):=(h.out.there (boxOb kb i.w) (.head _)).2.1 1;have hly:=ζ (h.out.onBox (s':={s with tc:=s.tc++[⟨false,(N:Int),1⟩],r:=updR s.r i.a (LV:Nat),p:=s.p+1}) ⟨rfl,rfl,rfl,rfl,rfl⟩ (fun q hb=>lay_any a _ i.a (LV:Nat) V3 hb ha hp))
 go_wp2_with fail;refine(hly.out).mono ?_;rintro r V4 ⟨rfl,h2,hB2⟩;replace hB:Hz (Below B W0 V4):=ζ (hB.out.trans hB2);clear hB2;clear h;have h:=ζ h2;clear h2;go_wp2_with fail
 first|go_end0|((try simp only[Exit.inBlock,Exit.then]);refine xre ?_)
 exact⟨rfl,h.out.drop,hB.out⟩
theorem load8_bad (B:Nat)(W0:World)(a:Nat)(P:Pr)(s:Fm)(l:List Ob)(i:Fi)(h:MIn B W0 a P s l)(hb:i.b<16)(hq9:65536 - 8<IntKind.u64.wrap (s.r i.b+i.i)):
 Calls Tryz.prog 130 #[.agg #[.int .u8 i.op,.int .i64 i.a,.int .i64 i.b,.int .i64 i.c,.int .u64 i.i],.pointer (some ⟨a,0,none⟩),.int .u64 8] W0 fun x w'=>x=.returned (.tuple #[])∧MIn B w' a P {s with e:=7,v:=0,f:=5} l∧Below B W0 w':=by
 replace hq9:=ζ hq9;have h2:=ζ (h.new i.w 128);clear h;go_enter Tryz.func130,Tryz.ntmps130;go_upto_region 1 with fail
 refine wp_world (fun W=>MIn B W a P s (boxOb W0.heap.size i.w::l)∧Below B W0 W) h2.out ?_;rintro W ⟨h,hB⟩;replace h:=ζ h;replace hB:=ζ hB;clear h2;generalize W0.heap.size=kb at*;have KS:=xk1 i kb;have hleW:=h.out.le;obtain⟨q,hq⟩:=h.out.bx;replace hq:=ζ hq;have g0:Gr W W.drew:=(Gr.refl W).drew;refine wp_region_held_drew (S:=(fun W=>W.rangeAt kb 0 (Fi.vals i)∧W.cell? ⟨kb,1,none⟩=some (.int .i64 i.a)∧W.cell? ⟨kb,3,none⟩=some (.int .i64 i.c)∧W.cell? ⟨kb,4,none⟩=some (.int .u64 i.i))) (by kernel_rfl) (KS.out _ ((h.out.there (boxOb kb i.w) (.head _)).gr g0)) (fun hHeld=>?_);refine xz 0 rfl (h:=?_);try simp only[xap]
 refine xtk 1 rfl (yieldsIf_load_mid (by rfl) _ _ rfl _ _ rfl _ _ (fun _ h=>h.1) Tryz.underlying128 rfl (by kernel_rfl)) ?_;try simp only[xap]
 refine xz 3 rfl (h:=xz 4 rfl (h:=?_));try simp only[xap]
 refine xrd 2 rfl (fun K hK=>?_);go_simp;go_wp2_with(refine(b_any a (bxOf P s q) i _ (hq.out.gr g0) hb).mono ?_;rintro r V1 ⟨rfl,gg⟩;have g1:=g0.trans gg;clear gg g0 hHeld);refine hK.out _ _ (KS.out _ ((h.out.there (boxOb kb i.w) (.head _)).gr g1)) (fun hHeld=>?_);clear hK K;try simp only[xap]
 refine xz 5 rfl (h:=xz 6 rfl (h:=?_));try simp only[xap]
 refine xdn ?_ _;clear hHeld hq;rw[show(bxOf P s q).r=s.r from rfl];clear q;replace h:=ζ (h.out.gro g1);replace hB:Hz (Below B W0 V1):=ζ (hB.out.trans (g1.below.mono hleW));clear g1;have ht:=ζ (touch_bad B V1 a P s _ false (IntKind.u64.wrap (s.r i.b+i.i)) 8 h.out (by omega) hq9.out);go_wp2_with fail;refine(ht.out).mono ?_;rintro r V2 ⟨rfl,h2,hB2⟩;replace hB:Hz (Below B W0 V2):=ζ (hB.out.trans hB2);clear hB2;clear h;have h:=ζ h2;clear h2;go_wp2_with fail
 first|go_end0|((try simp only[Exit.inBlock,Exit.then]);refine xre ?_)
 exact⟨rfl,h.out.drop,hB.out⟩
theorem load8_ok (B:Nat)(W0:World)(a:Nat)(P:Pr)(s:Fm)(l:List Ob)(i:Fi)(h:MIn B W0 a P s l)(ha:i.a<16)(hb:i.b<16)(hq9:IntKind.u64.wrap (s.r i.b+i.i)≤65536 - 8)(hl:s.tc.length≤1000000)(hp:s.p≤1000000):
 Calls Tryz.prog 130 #[.agg #[.int .u8 i.op,.int .i64 i.a,.int .i64 i.b,.int .i64 i.c,.int .u64 i.i],.pointer (some ⟨a,0,none⟩),.int .u64 8] W0 fun x w'=>x=.returned (.tuple #[])∧MIn B w' a P {s with tc:=s.tc++[⟨false,IntKind.u64.wrap (s.r i.b+i.i),8⟩],r:=updR s.r i.a (T.ldV s.m (IntKind.u64.wrap (s.r i.b+i.i)).toNat 8:Nat),p:=s.p+1} l∧Below B W0 w':=by
 obtain⟨N,hAD⟩:∃N:Nat,IntKind.u64.wrap (s.r i.b+i.i)=(N:Int):=⟨(IntKind.u64.wrap (s.r i.b+i.i)).toNat,by have:=wrap_u64_nonneg (s.r i.b+i.i);omega⟩;simp only[hAD,Int.toNat_natCast]at hq9 ⊢;have e7:N<18446744073709551616:=by omega
 generalize hLV:T.ldV s.m N 8=LV at*;replace hq9:=ζ hq9;replace hLV:=ζ hLV;have h2:=ζ (h.new i.w 128);clear h;go_enter Tryz.func130,Tryz.ntmps130;go_upto_region 1 with fail
 refine wp_world (fun W=>MIn B W a P s (boxOb W0.heap.size i.w::l)∧Below B W0 W) h2.out ?_;rintro W ⟨h,hB⟩;replace h:=ζ h;replace hB:=ζ hB;clear h2;generalize W0.heap.size=kb at*;have KS:=xk1 i kb;have hleW:=h.out.le;obtain⟨q,hq⟩:=h.out.bx;replace hq:=ζ hq;have g0:Gr W W.drew:=(Gr.refl W).drew;refine wp_region_held_drew (S:=(fun W=>W.rangeAt kb 0 (Fi.vals i)∧W.cell? ⟨kb,1,none⟩=some (.int .i64 i.a)∧W.cell? ⟨kb,3,none⟩=some (.int .i64 i.c)∧W.cell? ⟨kb,4,none⟩=some (.int .u64 i.i))) (by kernel_rfl) (KS.out _ ((h.out.there (boxOb kb i.w) (.head _)).gr g0)) (fun hHeld=>?_);refine xz 0 rfl (h:=?_);try simp only[xap]
 refine xtk 1 rfl (yieldsIf_load_mid (by rfl) _ _ rfl _ _ rfl _ _ (fun _ h=>h.1) Tryz.underlying128 rfl (by kernel_rfl)) ?_;try simp only[xap]
 refine xz 3 rfl (h:=xz 4 rfl (h:=?_));try simp only[xap]
 refine xrd 2 rfl (fun K hK=>?_);go_simp;go_wp2_with(refine(b_any a (bxOf P s q) i _ (hq.out.gr g0) hb).mono ?_;rintro r V1 ⟨rfl,gg⟩;have g1:=g0.trans gg;clear gg g0 hHeld);refine hK.out _ _ (KS.out _ ((h.out.there (boxOb kb i.w) (.head _)).gr g1)) (fun hHeld=>?_);clear hK K;try simp only[xap]
 refine xz 5 rfl (h:=xz 6 rfl (h:=?_));try simp only[xap]
 refine xdn ?_ _;clear hHeld hq;rw[show(bxOf P s q).r=s.r from rfl];clear q;replace h:=ζ (h.out.gro g1);replace hB:Hz (Below B W0 V1):=ζ (hB.out.trans (g1.below.mono hleW));clear g1;rw[hAD];clear hAD;have ht:=ζ (touch_ok B V1 a P s _ false (N:Int) 8 h.out (by omega) hq9.out hl);go_wp2_with fail;refine(ht.out).mono ?_;rintro r V2 ⟨rfl,h2,hB2⟩;replace hB:Hz (Below B W0 V2):=ζ (hB.out.trans hB2);clear hB2;clear h;have h:=ζ h2;clear h2;clear ht;obtain⟨km,c3,FF,hF,_⟩:=h.out.onMem;have hld:=ζ (T.flLoad_any FF km N 8 s.m V2 hF e7 (by decide));rw[hLV.out]at hld;clear hF;have hleW:=h.out.le;go_wp2_with fail;refine hld.out.mono ?_;rintro r V3 ⟨rfl,hB2⟩;clear c3 hld;replace h:=ζ (h.out.gr hB2);replace hB2:=hB2.mono hleW;replace hB:Hz (Below B W0 V3):=ζ (hB.out.trans hB2);clear hB2;have q1:V3.cell? ⟨kb,1,none⟩=some (.int .i64 i.a):=(h.out.there (boxOb kb i.w) (.head _)).2.1 1;have hly:=ζ (h.out.onBox (s':={s with tc:=s.tc++[⟨false,(N:Int),8⟩],r:=updR s.r i.a (LV:Nat),p:=s.p+1}) ⟨rfl,rfl,rfl,rfl,rfl⟩ (fun q hb=>lay_any a _ i.a (LV:Nat) V3 hb ha hp))
 go_wp2_with fail;refine(hly.out).mono ?_;rintro r V4 ⟨rfl,h2,hB2⟩;replace hB:Hz (Below B W0 V4):=ζ (hB.out.trans hB2);clear hB2;clear h;have h:=ζ h2;clear h2;go_wp2_with fail
 first|go_end0|((try simp only[Exit.inBlock,Exit.then]);refine xre ?_)
 exact⟨rfl,h.out.drop,hB.out⟩
theorem load16_bad (B:Nat)(W0:World)(a:Nat)(P:Pr)(s:Fm)(l:List Ob)(i:Fi)(h:MIn B W0 a P s l)(hb:i.b<16)(hq9:65536 - 16<IntKind.u64.wrap (s.r i.b+i.i)):
 Calls Tryz.prog 130 #[.agg #[.int .u8 i.op,.int .i64 i.a,.int .i64 i.b,.int .i64 i.c,.int .u64 i.i],.pointer (some ⟨a,0,none⟩),.int .u64 16] W0 fun x w'=>x=.returned (.tuple #[])∧MIn B w' a P {s with e:=7,v:=0,f:=5} l∧Below B W0 w':=by
 replace hq9:=ζ hq9;have h2:=ζ (h.new i.w 128);clear h;go_enter Tryz.func130,Tryz.ntmps130;go_upto_region 1 with fail
 refine wp_world (fun W=>MIn B W a P s (boxOb W0.heap.size i.w::l)∧Below B W0 W) h2.out ?_;rintro W ⟨h,hB⟩;replace h:=ζ h;replace hB:=ζ hB;clear h2;generalize W0.heap.size=kb at*;have KS:=xk1 i kb;have hleW:=h.out.le;obtain⟨q,hq⟩:=h.out.bx;replace hq:=ζ hq;have g0:Gr W W.drew:=(Gr.refl W).drew;refine wp_region_held_drew (S:=(fun W=>W.rangeAt kb 0 (Fi.vals i)∧W.cell? ⟨kb,1,none⟩=some (.int .i64 i.a)∧W.cell? ⟨kb,3,none⟩=some (.int .i64 i.c)∧W.cell? ⟨kb,4,none⟩=some (.int .u64 i.i))) (by kernel_rfl) (KS.out _ ((h.out.there (boxOb kb i.w) (.head _)).gr g0)) (fun hHeld=>?_);refine xz 0 rfl (h:=?_);try simp only[xap]
 refine xtk 1 rfl (yieldsIf_load_mid (by rfl) _ _ rfl _ _ rfl _ _ (fun _ h=>h.1) Tryz.underlying128 rfl (by kernel_rfl)) ?_;try simp only[xap]
 refine xz 3 rfl (h:=xz 4 rfl (h:=?_));try simp only[xap]
 refine xrd 2 rfl (fun K hK=>?_);go_simp;go_wp2_with(refine(b_any a (bxOf P s q) i _ (hq.out.gr g0) hb).mono ?_;rintro r V1 ⟨rfl,gg⟩;have g1:=g0.trans gg;clear gg g0 hHeld);refine hK.out _ _ (KS.out _ ((h.out.there (boxOb kb i.w) (.head _)).gr g1)) (fun hHeld=>?_);clear hK K;try simp only[xap]
 refine xz 5 rfl (h:=xz 6 rfl (h:=?_));try simp only[xap]
 refine xdn ?_ _;clear hHeld hq;rw[show(bxOf P s q).r=s.r from rfl];clear q;replace h:=ζ (h.out.gro g1);replace hB:Hz (Below B W0 V1):=ζ (hB.out.trans (g1.below.mono hleW));clear g1;have ht:=ζ (touch_bad B V1 a P s _ false (IntKind.u64.wrap (s.r i.b+i.i)) 16 h.out (by omega) hq9.out);go_wp2_with fail;refine(ht.out).mono ?_;rintro r V2 ⟨rfl,h2,hB2⟩;replace hB:Hz (Below B W0 V2):=ζ (hB.out.trans hB2);clear hB2;clear h;have h:=ζ h2;clear h2;go_wp2_with fail
 first|go_end0|((try simp only[Exit.inBlock,Exit.then]);refine xre ?_)
 exact⟨rfl,h.out.drop,hB.out⟩
theorem load16_ok (B:Nat)(W0:World)(a:Nat)(P:Pr)(s:Fm)(l:List Ob)(i:Fi)(h:MIn B W0 a P s l)(ha:i.a<16)(hb:i.b<16)(hq9:IntKind.u64.wrap (s.r i.b+i.i)≤65536 - 16)(hl:s.tc.length≤1000000)(hp:s.p≤1000000):
 Calls Tryz.prog 130 #[.agg #[.int .u8 i.op,.int .i64 i.a,.int .i64 i.b,.int .i64 i.c,.int .u64 i.i],.pointer (some ⟨a,0,none⟩),.int .u64 16] W0 fun x w'=>x=.returned (.tuple #[])∧MIn B w' a P {s with tc:=s.tc++[⟨false,IntKind.u64.wrap (s.r i.b+i.i),16⟩],r:=updR s.r i.a (T.ldV s.m (IntKind.u64.wrap (s.r i.b+i.i)).toNat 8:Nat),p:=s.p+1} l∧Below B W0 w':=by
 obtain⟨N,hAD⟩:∃N:Nat,IntKind.u64.wrap (s.r i.b+i.i)=(N:Int):=⟨(IntKind.u64.wrap (s.r i.b+i.i)).toNat,by have:=wrap_u64_nonneg (s.r i.b+i.i);omega⟩;simp only[hAD,Int.toNat_natCast]at hq9 ⊢;have e7:N<18446744073709551616:=by omega
 generalize hLV:T.ldV s.m N 8=LV at*;replace hq9:=ζ hq9;replace hLV:=ζ hLV;have h2:=ζ (h.new i.w 128);clear h;go_enter Tryz.func130,Tryz.ntmps130;go_upto_region 1 with fail
 refine wp_world (fun W=>MIn B W a P s (boxOb W0.heap.size i.w::l)∧Below B W0 W) h2.out ?_;rintro W ⟨h,hB⟩;replace h:=ζ h;replace hB:=ζ hB;clear h2;generalize W0.heap.size=kb at*;have KS:=xk1 i kb;have hleW:=h.out.le;obtain⟨q,hq⟩:=h.out.bx;replace hq:=ζ hq;have g0:Gr W W.drew:=(Gr.refl W).drew;refine wp_region_held_drew (S:=(fun W=>W.rangeAt kb 0 (Fi.vals i)∧W.cell? ⟨kb,1,none⟩=some (.int .i64 i.a)∧W.cell? ⟨kb,3,none⟩=some (.int .i64 i.c)∧W.cell? ⟨kb,4,none⟩=some (.int .u64 i.i))) (by kernel_rfl) (KS.out _ ((h.out.there (boxOb kb i.w) (.head _)).gr g0)) (fun hHeld=>?_);refine xz 0 rfl (h:=?_);try simp only[xap]
 refine xtk 1 rfl (yieldsIf_load_mid (by rfl) _ _ rfl _ _ rfl _ _ (fun _ h=>h.1) Tryz.underlying128 rfl (by kernel_rfl)) ?_;try simp only[xap]
 refine xz 3 rfl (h:=xz 4 rfl (h:=?_));try simp only[xap]
 refine xrd 2 rfl (fun K hK=>?_);go_simp;go_wp2_with(refine(b_any a (bxOf P s q) i _ (hq.out.gr g0) hb).mono ?_;rintro r V1 ⟨rfl,gg⟩;have g1:=g0.trans gg;clear gg g0 hHeld);refine hK.out _ _ (KS.out _ ((h.out.there (boxOb kb i.w) (.head _)).gr g1)) (fun hHeld=>?_);clear hK K;try simp only[xap]
 refine xz 5 rfl (h:=xz 6 rfl (h:=?_));try simp only[xap]
 refine xdn ?_ _;clear hHeld hq;rw[show(bxOf P s q).r=s.r from rfl];clear q;replace h:=ζ (h.out.gro g1);replace hB:Hz (Below B W0 V1):=ζ (hB.out.trans (g1.below.mono hleW));clear g1;rw[hAD];clear hAD;have ht:=ζ (touch_ok B V1 a P s _ false (N:Int) 16 h.out (by omega) hq9.out hl);go_wp2_with fail;refine(ht.out).mono ?_;rintro r V2 ⟨rfl,h2,hB2⟩;replace hB:Hz (Below B W0 V2):=ζ (hB.out.trans hB2);clear hB2;clear h;have h:=ζ h2;clear h2;clear ht;obtain⟨km,c3,FF,hF,_⟩:=h.out.onMem;have hld:=ζ (T.flLoad_any FF km N 8 s.m V2 hF e7 (by decide));rw[hLV.out]at hld;clear hF;have hleW:=h.out.le;go_wp2_with fail;refine hld.out.mono ?_;rintro r V3 ⟨rfl,hB2⟩;clear c3 hld;replace h:=ζ (h.out.gr hB2);replace hB2:=hB2.mono hleW;replace hB:Hz (Below B W0 V3):=ζ (hB.out.trans hB2);clear hB2;have q1:V3.cell? ⟨kb,1,none⟩=some (.int .i64 i.a):=(h.out.there (boxOb kb i.w) (.head _)).2.1 1;have hly:=ζ (h.out.onBox (s':={s with tc:=s.tc++[⟨false,(N:Int),16⟩],r:=updR s.r i.a (LV:Nat),p:=s.p+1}) ⟨rfl,rfl,rfl,rfl,rfl⟩ (fun q hb=>lay_any a _ i.a (LV:Nat) V3 hb ha hp))
 go_wp2_with fail;refine(hly.out).mono ?_;rintro r V4 ⟨rfl,h2,hB2⟩;replace hB:Hz (Below B W0 V4):=ζ (hB.out.trans hB2);clear hB2;clear h;have h:=ζ h2;clear h2;go_wp2_with fail
 first|go_end0|((try simp only[Exit.inBlock,Exit.then]);refine xre ?_)
 exact⟨rfl,h.out.drop,hB.out⟩
theorem loadByte_bad (B:Nat)(W0:World)(a:Nat)(P:Pr)(s:Fm)(l:List Ob)(i:Fi)(h:MIn B W0 a P s l)(hb:i.b<16)(hq9:65536 - 1<IntKind.u64.wrap (s.r i.b+i.i)):
 Calls Tryz.prog 110 #[.agg #[.int .u8 i.op,.int .i64 i.a,.int .i64 i.b,.int .i64 i.c,.int .u64 i.i],.pointer (some ⟨a,0,none⟩)] W0 fun x w'=>x=.returned (.tuple #[])∧MIn B w' a P {s with e:=7,v:=0,f:=5} l∧Below B W0 w':=by
 have hc:=ζ (fun W (g:MIn B W a P s (boxOb W0.heap.size i.w::l))=>load1_bad B W a P s _ i g hb hq9);have h2:=ζ (h.new i.w 128);clear h;go_enter Tryz.func110,Tryz.ntmps110;go_upto_region 1 with fail
 refine wp_world (fun W=>MIn B W a P s (boxOb W0.heap.size i.w::l)∧Below B W0 W) h2.out ?_;rintro W ⟨h,hB⟩;replace h:=ζ h;replace hB:=ζ hB;clear h2;generalize W0.heap.size=kb at*;have KS:=xk1 i kb;have q0:W.cell? ⟨kb,0,none⟩=some (.int .u8 i.op):=(h.out.there (boxOb kb i.w) (.head _)).2.1 0;have q1:W.cell? ⟨kb,1,none⟩=some (.int .i64 i.a):=(h.out.there (boxOb kb i.w) (.head _)).2.1 1;have q2:W.cell? ⟨kb,2,none⟩=some (.int .i64 i.b):=(h.out.there (boxOb kb i.w) (.head _)).2.1 2;have q3:W.cell? ⟨kb,3,none⟩=some (.int .i64 i.c):=(h.out.there (boxOb kb i.w) (.head _)).2.1 3;have q4:W.cell? ⟨kb,4,none⟩=some (.int .u64 i.i):=(h.out.there (boxOb kb i.w) (.head _)).2.1 4;go_wp2_with fail;refine(hc.out _ h.out).mono ?_;rintro r V2 ⟨rfl,h2,hB2⟩;replace hB:Hz (Below B W0 V2):=ζ (hB.out.trans hB2);clear hB2;replace h2:=ζ h2;clear h hc;go_wp2_with fail
 first|go_end0|((try simp only[Exit.inBlock,Exit.then]);refine xre ?_)
 exact⟨rfl,h2.out.drop,hB.out⟩
theorem loadByte_ok (B:Nat)(W0:World)(a:Nat)(P:Pr)(s:Fm)(l:List Ob)(i:Fi)(h:MIn B W0 a P s l)(ha:i.a<16)(hb:i.b<16)(hq9:IntKind.u64.wrap (s.r i.b+i.i)≤65536 - 1)(hl:s.tc.length≤1000000)(hp:s.p≤1000000):
 Calls Tryz.prog 110 #[.agg #[.int .u8 i.op,.int .i64 i.a,.int .i64 i.b,.int .i64 i.c,.int .u64 i.i],.pointer (some ⟨a,0,none⟩)] W0 fun x w'=>x=.returned (.tuple #[])∧MIn B w' a P {s with tc:=s.tc++[⟨false,IntKind.u64.wrap (s.r i.b+i.i),1⟩],r:=updR s.r i.a (T.ldV s.m (IntKind.u64.wrap (s.r i.b+i.i)).toNat 1:Nat),p:=s.p+1} l∧Below B W0 w':=by
 have hc:=ζ (fun W (g:MIn B W a P s (boxOb W0.heap.size i.w::l))=>load1_ok B W a P s _ i g ha hb hq9 hl hp);have h2:=ζ (h.new i.w 128);clear h;go_enter Tryz.func110,Tryz.ntmps110;go_upto_region 1 with fail
 refine wp_world (fun W=>MIn B W a P s (boxOb W0.heap.size i.w::l)∧Below B W0 W) h2.out ?_;rintro W ⟨h,hB⟩;replace h:=ζ h;replace hB:=ζ hB;clear h2;generalize W0.heap.size=kb at*;have KS:=xk1 i kb;have q0:W.cell? ⟨kb,0,none⟩=some (.int .u8 i.op):=(h.out.there (boxOb kb i.w) (.head _)).2.1 0;have q1:W.cell? ⟨kb,1,none⟩=some (.int .i64 i.a):=(h.out.there (boxOb kb i.w) (.head _)).2.1 1;have q2:W.cell? ⟨kb,2,none⟩=some (.int .i64 i.b):=(h.out.there (boxOb kb i.w) (.head _)).2.1 2;have q3:W.cell? ⟨kb,3,none⟩=some (.int .i64 i.c):=(h.out.there (boxOb kb i.w) (.head _)).2.1 3;have q4:W.cell? ⟨kb,4,none⟩=some (.int .u64 i.i):=(h.out.there (boxOb kb i.w) (.head _)).2.1 4;go_wp2_with fail;refine(hc.out _ h.out).mono ?_;rintro r V2 ⟨rfl,h2,hB2⟩;replace hB:Hz (Below B W0 V2):=ζ (hB.out.trans hB2);clear hB2;replace h2:=ζ h2;clear h hc;go_wp2_with fail
 first|go_end0|((try simp only[Exit.inBlock,Exit.then]);refine xre ?_)
 exact⟨rfl,h2.out.drop,hB.out⟩
theorem loadWord_bad (B:Nat)(W0:World)(a:Nat)(P:Pr)(s:Fm)(l:List Ob)(i:Fi)(h:MIn B W0 a P s l)(hb:i.b<16)(hq9:65536 - 8<IntKind.u64.wrap (s.r i.b+i.i)):
 Calls Tryz.prog 111 #[.agg #[.int .u8 i.op,.int .i64 i.a,.int .i64 i.b,.int .i64 i.c,.int .u64 i.i],.pointer (some ⟨a,0,none⟩)] W0 fun x w'=>x=.returned (.tuple #[])∧MIn B w' a P {s with e:=7,v:=0,f:=5} l∧Below B W0 w':=by
 have hc:=ζ (fun W (g:MIn B W a P s (boxOb W0.heap.size i.w::l))=>load8_bad B W a P s _ i g hb hq9);have h2:=ζ (h.new i.w 128);clear h;go_enter Tryz.func111,Tryz.ntmps111;go_upto_region 1 with fail
 refine wp_world (fun W=>MIn B W a P s (boxOb W0.heap.size i.w::l)∧Below B W0 W) h2.out ?_;rintro W ⟨h,hB⟩;replace h:=ζ h;replace hB:=ζ hB;clear h2;generalize W0.heap.size=kb at*;have KS:=xk1 i kb;have q0:W.cell? ⟨kb,0,none⟩=some (.int .u8 i.op):=(h.out.there (boxOb kb i.w) (.head _)).2.1 0;have q1:W.cell? ⟨kb,1,none⟩=some (.int .i64 i.a):=(h.out.there (boxOb kb i.w) (.head _)).2.1 1;have q2:W.cell? ⟨kb,2,none⟩=some (.int .i64 i.b):=(h.out.there (boxOb kb i.w) (.head _)).2.1 2;have q3:W.cell? ⟨kb,3,none⟩=some (.int .i64 i.c):=(h.out.there (boxOb kb i.w) (.head _)).2.1 3;have q4:W.cell? ⟨kb,4,none⟩=some (.int .u64 i.i):=(h.out.there (boxOb kb i.w) (.head _)).2.1 4;go_wp2_with fail;refine(hc.out _ h.out).mono ?_;rintro r V2 ⟨rfl,h2,hB2⟩;replace hB:Hz (Below B W0 V2):=ζ (hB.out.trans hB2);clear hB2;replace h2:=ζ h2;clear h hc;go_wp2_with fail
 first|go_end0|((try simp only[Exit.inBlock,Exit.then]);refine xre ?_)
 exact⟨rfl,h2.out.drop,hB.out⟩
theorem loadWord_ok (B:Nat)(W0:World)(a:Nat)(P:Pr)(s:Fm)(l:List Ob)(i:Fi)(h:MIn B W0 a P s l)(ha:i.a<16)(hb:i.b<16)(hq9:IntKind.u64.wrap (s.r i.b+i.i)≤65536 - 8)(hl:s.tc.length≤1000000)(hp:s.p≤1000000):
 Calls Tryz.prog 111 #[.agg #[.int .u8 i.op,.int .i64 i.a,.int .i64 i.b,.int .i64 i.c,.int .u64 i.i],.pointer (some ⟨a,0,none⟩)] W0 fun x w'=>x=.returned (.tuple #[])∧MIn B w' a P {s with tc:=s.tc++[⟨false,IntKind.u64.wrap (s.r i.b+i.i),8⟩],r:=updR s.r i.a (T.ldV s.m (IntKind.u64.wrap (s.r i.b+i.i)).toNat 8:Nat),p:=s.p+1} l∧Below B W0 w':=by
 have hc:=ζ (fun W (g:MIn B W a P s (boxOb W0.heap.size i.w::l))=>load8_ok B W a P s _ i g ha hb hq9 hl hp);have h2:=ζ (h.new i.w 128);clear h;go_enter Tryz.func111,Tryz.ntmps111;go_upto_region 1 with fail
 refine wp_world (fun W=>MIn B W a P s (boxOb W0.heap.size i.w::l)∧Below B W0 W) h2.out ?_;rintro W ⟨h,hB⟩;replace h:=ζ h;replace hB:=ζ hB;clear h2;generalize W0.heap.size=kb at*;have KS:=xk1 i kb;have q0:W.cell? ⟨kb,0,none⟩=some (.int .u8 i.op):=(h.out.there (boxOb kb i.w) (.head _)).2.1 0;have q1:W.cell? ⟨kb,1,none⟩=some (.int .i64 i.a):=(h.out.there (boxOb kb i.w) (.head _)).2.1 1;have q2:W.cell? ⟨kb,2,none⟩=some (.int .i64 i.b):=(h.out.there (boxOb kb i.w) (.head _)).2.1 2;have q3:W.cell? ⟨kb,3,none⟩=some (.int .i64 i.c):=(h.out.there (boxOb kb i.w) (.head _)).2.1 3;have q4:W.cell? ⟨kb,4,none⟩=some (.int .u64 i.i):=(h.out.there (boxOb kb i.w) (.head _)).2.1 4;go_wp2_with fail;refine(hc.out _ h.out).mono ?_;rintro r V2 ⟨rfl,h2,hB2⟩;replace hB:Hz (Below B W0 V2):=ζ (hB.out.trans hB2);clear hB2;replace h2:=ζ h2;clear h hc;go_wp2_with fail
 first|go_end0|((try simp only[Exit.inBlock,Exit.then]);refine xre ?_)
 exact⟨rfl,h2.out.drop,hB.out⟩
theorem loadGranule_bad (B:Nat)(W0:World)(a:Nat)(P:Pr)(s:Fm)(l:List Ob)(i:Fi)(h:MIn B W0 a P s l)(hb:i.b<16)(hq9:65536 - 16<IntKind.u64.wrap (s.r i.b+i.i)):
 Calls Tryz.prog 114 #[.agg #[.int .u8 i.op,.int .i64 i.a,.int .i64 i.b,.int .i64 i.c,.int .u64 i.i],.pointer (some ⟨a,0,none⟩)] W0 fun x w'=>x=.returned (.tuple #[])∧MIn B w' a P {s with e:=7,v:=0,f:=5} l∧Below B W0 w':=by
 have hc:=ζ (fun W (g:MIn B W a P s (boxOb W0.heap.size i.w::l))=>load16_bad B W a P s _ i g hb hq9);have h2:=ζ (h.new i.w 128);clear h;go_enter Tryz.func114,Tryz.ntmps114;go_upto_region 1 with fail
 refine wp_world (fun W=>MIn B W a P s (boxOb W0.heap.size i.w::l)∧Below B W0 W) h2.out ?_;rintro W ⟨h,hB⟩;replace h:=ζ h;replace hB:=ζ hB;clear h2;generalize W0.heap.size=kb at*;have KS:=xk1 i kb;have q0:W.cell? ⟨kb,0,none⟩=some (.int .u8 i.op):=(h.out.there (boxOb kb i.w) (.head _)).2.1 0;have q1:W.cell? ⟨kb,1,none⟩=some (.int .i64 i.a):=(h.out.there (boxOb kb i.w) (.head _)).2.1 1;have q2:W.cell? ⟨kb,2,none⟩=some (.int .i64 i.b):=(h.out.there (boxOb kb i.w) (.head _)).2.1 2;have q3:W.cell? ⟨kb,3,none⟩=some (.int .i64 i.c):=(h.out.there (boxOb kb i.w) (.head _)).2.1 3;have q4:W.cell? ⟨kb,4,none⟩=some (.int .u64 i.i):=(h.out.there (boxOb kb i.w) (.head _)).2.1 4;go_wp2_with fail;refine(hc.out _ h.out).mono ?_;rintro r V2 ⟨rfl,h2,hB2⟩;replace hB:Hz (Below B W0 V2):=ζ (hB.out.trans hB2);clear hB2;replace h2:=ζ h2;clear h hc;go_wp2_with fail
 first|go_end0|((try simp only[Exit.inBlock,Exit.then]);refine xre ?_)
 exact⟨rfl,h2.out.drop,hB.out⟩
theorem loadGranule_ok (B:Nat)(W0:World)(a:Nat)(P:Pr)(s:Fm)(l:List Ob)(i:Fi)(h:MIn B W0 a P s l)(ha:i.a<16)(hb:i.b<16)(hq9:IntKind.u64.wrap (s.r i.b+i.i)≤65536 - 16)(hl:s.tc.length≤1000000)(hp:s.p≤1000000):
 Calls Tryz.prog 114 #[.agg #[.int .u8 i.op,.int .i64 i.a,.int .i64 i.b,.int .i64 i.c,.int .u64 i.i],.pointer (some ⟨a,0,none⟩)] W0 fun x w'=>x=.returned (.tuple #[])∧MIn B w' a P {s with tc:=s.tc++[⟨false,IntKind.u64.wrap (s.r i.b+i.i),16⟩],r:=updR s.r i.a (T.ldV s.m (IntKind.u64.wrap (s.r i.b+i.i)).toNat 8:Nat),p:=s.p+1} l∧Below B W0 w':=by
 have hc:=ζ (fun W (g:MIn B W a P s (boxOb W0.heap.size i.w::l))=>load16_ok B W a P s _ i g ha hb hq9 hl hp);have h2:=ζ (h.new i.w 128);clear h;go_enter Tryz.func114,Tryz.ntmps114;go_upto_region 1 with fail
 refine wp_world (fun W=>MIn B W a P s (boxOb W0.heap.size i.w::l)∧Below B W0 W) h2.out ?_;rintro W ⟨h,hB⟩;replace h:=ζ h;replace hB:=ζ hB;clear h2;generalize W0.heap.size=kb at*;have KS:=xk1 i kb;have q0:W.cell? ⟨kb,0,none⟩=some (.int .u8 i.op):=(h.out.there (boxOb kb i.w) (.head _)).2.1 0;have q1:W.cell? ⟨kb,1,none⟩=some (.int .i64 i.a):=(h.out.there (boxOb kb i.w) (.head _)).2.1 1;have q2:W.cell? ⟨kb,2,none⟩=some (.int .i64 i.b):=(h.out.there (boxOb kb i.w) (.head _)).2.1 2;have q3:W.cell? ⟨kb,3,none⟩=some (.int .i64 i.c):=(h.out.there (boxOb kb i.w) (.head _)).2.1 3;have q4:W.cell? ⟨kb,4,none⟩=some (.int .u64 i.i):=(h.out.there (boxOb kb i.w) (.head _)).2.1 4;go_wp2_with fail;refine(hc.out _ h.out).mono ?_;rintro r V2 ⟨rfl,h2,hB2⟩;replace hB:Hz (Below B W0 V2):=ζ (hB.out.trans hB2);clear hB2;replace h2:=ζ h2;clear h hc;go_wp2_with fail
 first|go_end0|((try simp only[Exit.inBlock,Exit.then]);refine xre ?_)
 exact⟨rfl,h2.out.drop,hB.out⟩
end Z
end Go.Proofs.YtdidjhillmgccaaGreat
