import Derived.Test.YtdidjhillmgccaaGreatP38
import Derived.Test.YtdidjhillmgccaaGreatTOpen
import Derived.Test.YtdidjhillmgccaaGreatTEin
import Derived.Test.YtdidjhillmgccaaGreatP30
import Derived.Test.YtdidjhillmgccaaGreatP26
import Derived.Test.YtdidjhillmgccaaGreatP23
namespace Go.Proofs.YtdidjhillmgccaaGreat
namespace T
open Go.RowKit
open Go.ChangeShapes Go.WideShapes Go.ChangeAt Go.RowKit Go.Deep
theorem putB_other (b:Nat→UInt8)(addr n k x:Nat)(h:x<addr∨addr+k≤x):putB b addr n k x=b x:=by
 induction k with
 |zero=>rfl
 |succ k ih=>
  rw[putB,upd,if_neg (by omega)];exact ih (by omega)
end T
namespace Z
open Go.RowKit
open T (Sep Ob Kp Mf FlIn boxOb)
def MZ (m:Nat→UInt8):Prop:=∀k,65536≤k→m k=0
theorem layB_at (l:List UInt8):∀n i,T.layB (fun _=>0) 0 l n i=if i<n then l.getD i 0 else 0
 |0,i=>by simp[T.layB]
 |n+1,i=>by
  unfold T.layB;show T.upd _ (0+n) _ i=_;unfold T.upd;by_cases e:i=n
  ·subst e;simp
  ·rw[if_neg (by omega),layB_at l n i];by_cases h:i<n
   ·rw[if_pos h,if_pos (by omega)]
   ·rw[if_neg h,if_neg (by omega)]
theorem lay_row (m:Nat→UInt8)(h:MZ m):T.layB (fun _=>0) 0 ((T.rowB m 0 65536).take 65536) ((T.rowB m 0 65536).take 65536).length=m:=by
 funext i
 have hl:(T.rowB m 0 65536).length=65536:=T.rowB_len m 0 65536;rw[List.take_of_length_le (by rw[hl];exact Nat.le_refl _),hl,layB_at];by_cases hi:i<65536
 ·rw[if_pos hi];unfold T.rowB;simp[List.getD,hi]
 ·rw[if_neg hi,h i (by omega)]
theorem mz_lay (l:List UInt8):MZ (T.layB (fun _=>0) 0 (l.take 65536) (l.take 65536).length):=fun k hk=>by
 rw[layB_at,if_neg];rw[List.length_take];omega
theorem mz_st (m:Nat→UInt8)(a n v:Nat)(h:MZ m):MZ (T.stB m a n v):=fun k hk=>by
 unfold T.stB
 split
 ·rename_i q
  have:=T.wordB_in q;rw[T.putB_other m a v n k (by omega)];exact h k hk
 ·exact h k hk
theorem mz_stepI (P:Pr)(i:Fi)(s:Fm)(h:MZ s.m):MZ (stepI P i s).m:=by
 refine stepI_cases P i s (fun r=>MZ r.m) ?_ ?_ ?_ ?_ ?_ ?_ ?_ ?_ ?_ ?_ ?_ ?_ ?_ ?_ ?_ ?_ ?_ ?_ ?_ ?_ ?_ ?_ ?_ ?_ ?_ ?_ ?_ ?_ ?_ ?_ ?_ ?_ ?_ ?_ ?_
 all_goals first
  |exact fun _=>h
  |exact h
  |(intro _;unfold stp29;split<;>exact h)
  |(intro _;unfold stp31;split<;>exact h)
  |(intro _;unfold stp32;split<;>exact h)
  |(intro _;unfold stp60;split<;>exact h)
  |(intro _;unfold stp61;split<;>exact h)
  |(intro _;unfold stp64;split<;>exact h)
  |(intro _;unfold stp70;split<;>exact h)
  |(intro _;unfold stp71;split<;>exact h)
  |(intro _;unfold stp62;split<;>first|exact h|exact mz_st _ _ _ _ h)
  |(intro _;unfold stp63;split<;>first|exact h|exact mz_st _ _ _ _ h)
  |(intro _;unfold stp65;split<;>first|exact h|exact mz_st _ _ _ _ (mz_st _ _ _ _ h))
theorem mz_stepsM (P:Pr)(s:Fm)(h:MZ s.m):∀k,MZ (stepsM P s k).m
 |0=>h
 |k+1=>by
  have ih:=mz_stepsM P s h k;show MZ (if(stepsM P s k).e=0 then stepM P (stepsM P s k)else stepsM P s k).m
  split
  ·unfold stepM
   split
   ·exact mz_stepI P _ _ ih
   ·exact ih
  ·exact ih
def andO (o p:Ob):Ob:=⟨fun k=>o.S k∨p.S k,fun w=>o.In w∧p.In w,fun w h k q=>q.elim (o.lt w h.1 k) (p.lt w h.2 k),fun w w' S1 h hk hd=>⟨o.keep w w' S1 h.1 hk (fun k q=>hd k (.inl q)),p.keep w w' S1 h.2 hk (fun k q=>hd k (.inr q))⟩⟩
theorem sep_joinO {B:Nat}{W:World}{o p:Ob}{l:List Ob}(h:Sep B W (o::p::l)):Sep B W (andO o p::l):=by
 have h1:=List.pairwise_cons.1 h.dis;have h2:=List.pairwise_cons.1 h1.2;refine⟨fun q hq=>?_,List.pairwise_cons.2 ⟨fun q hq k s r=>?_,h2.2⟩,fun q hq k s=>?_⟩
 ·rcases List.mem_cons.1 hq with rfl|r
  ·exact⟨h.ins o (by simp),h.ins p (by simp)⟩
  ·exact h.ins q (by simp[r])
 ·rcases s with s|s
  ·exact h1.1 q (by simp[hq]) k s r
  ·exact h2.1 q hq k s r
 ·rcases List.mem_cons.1 hq with rfl|r
  ·rcases s with s|s
   ·exact h.ge o (by simp) k s
   ·exact h.ge p (by simp) k s
  ·exact h.ge q (by simp[r]) k s
structure CdS (S:Nat→Prop)(w:World)(cv:Value)(P:Pr):Prop where
 lt:∀k,S k→k<w.heap.size
 code:∀k (h:k<P.code.length),∃g gk c ck,cv=.slice (some ⟨g,0,none⟩) P.code.length c∧S g∧w.cell? ⟨g,k,none⟩=some (.slice (some ⟨gk,0,none⟩) P.code[k].length ck)∧S gk∧∀j (hj:j<P.code[k].length),w.cell? ⟨gk,j,none⟩=some (methV P.code[k][j])
theorem CdS.keep {S S1:Nat→Prop}{w w':World}{cv:Value}{P:Pr}(h:CdS S w cv P)(hk:Kp S1 w w')(hd:∀k,S k→¬S1 k):CdS S w' cv P:=by
 have hb:∀k,S k→w'.heap[k]?=w.heap[k]?:=fun k q=>hk.block k (h.lt k q) (hd k q)
 refine⟨fun k q=>Nat.lt_of_lt_of_le (h.lt k q) hk.size,fun k q=>?_⟩;obtain⟨g,gk,c,ck,e1,e2,e3,e4,e5⟩:=h.code k q;exact⟨g,gk,c,ck,e1,e2,(T.cell_of_block (hb g e2) k).trans e3,e4,fun j hj=>(T.cell_of_block (hb gk e4) j).trans (e5 j hj)⟩
def cdOb (S:Nat→Prop)(cv:Value)(P:Pr):Ob:=⟨S,fun w=>CdS S w cv P,fun _ h=>h.lt,fun _ _ _ h hk hd=>h.keep hk hd⟩
theorem Cpd.cds {W1 wr:World}{g:Nat}{P:Pr}{V:Nat→Value}(h:Cpd W1 wr g P.code P.code.length V)(c:Nat):CdS (fun k=>W1.heap.size≤k∧k<wr.heap.size) wr (.slice (some ⟨g,0,none⟩) P.code.length c) P:=by
 refine⟨fun k q=>q.2,fun k hk=>?_⟩;obtain⟨gk,ck,e1,e2,e3,e4,e5⟩:=h.done k hk hk;exact⟨g,gk,c,ck,rfl,⟨h.new,h.row.lt⟩,by rw[h.row.at_ k hk,e1],⟨e2,e4⟩,e5⟩
theorem sep_pg {B:Nat}{W:World}{S:Nat→Prop}{cv gv:Value}{P:Pr}{l:List Ob}(h:Sep B W (rowOb B 70 19 gv P.gates.length (P.gates.flatMap Fg.vals)::cdOb S cv P::l))(h0:0<P.gates.length):∃S',Sep B W (pgOb S' cv gv P::l):=by
 have hg:W.ownsRow B 70 19 gv P.gates.length (P.gates.flatMap Fg.vals):=h.ins (rowOb B 70 19 gv P.gates.length (P.gates.flatMap Fg.vals)) (by simp);have hc:CdS S W cv P:=h.ins (cdOb S cv P) (by simp);obtain⟨g,c,e1,e2,e3,e4⟩:=own_gates hg h0;refine⟨fun k=>gv.ownBlock=some k∨S k,sep_same (sep_joinO h) rfl (fun o ho=>?_) (Nat.le_refl _)⟩;rcases List.mem_cons.1 ho with rfl|r
 ·refine⟨fun k q=>?_,fun k hk=>?_,fun k hk=>⟨g,c,e1,.inl (by rw[e1];rfl),e4 k hk⟩⟩
  ·rcases q with q|q
   ·rw[e1]at q
    cases q
    exact e3
   ·exact hc.lt k q
  ·obtain⟨g2,gk,c2,ck,f1,f2,f3,f4,f5⟩:=hc.code k hk;exact⟨g2,gk,c2,ck,f1,.inr f2,f3,.inr f4,f5⟩
 ·exact h.ins o (by simp[r])
theorem Bx.cv {w:World}{a:Nat}{x:Fx}(h:Bx w a x)(v:Value):Bx (w.setCell ⟨a,0,none⟩ v) a {x with cv:=v}:=
 h.set 0 _ (by omega) (fx_cases rfl rfl rfl rfl rfl rfl (fun i hi=>by rw[Fx.reg _ i hi,if_neg (by omega),Fx.reg _ i hi]) rfl rfl rfl rfl rfl rfl rfl)
theorem Bx.gv {w:World}{a:Nat}{x:Fx}(h:Bx w a x)(v:Value):Bx (w.setCell ⟨a,1,none⟩ v) a {x with gv:=v}:=
 h.set 1 _ (by omega) (fx_cases rfl rfl rfl rfl rfl rfl (fun i hi=>by rw[Fx.reg _ i hi,if_neg (by omega),Fx.reg _ i hi]) rfl rfl rfl rfl rfl rfl rfl)
theorem Bx.mp {w:World}{a:Nat}{x:Fx}(h:Bx w a x)(n:Nat):Bx (w.setCell ⟨a,3,none⟩ (.pointer (some ⟨n,0,none⟩))) a {x with mp:=n}:=
 h.set 3 _ (by omega) (fx_cases rfl rfl rfl rfl rfl rfl (fun i hi=>by rw[Fx.reg _ i hi,if_neg (by omega),Fx.reg _ i hi]) rfl rfl rfl rfl rfl rfl rfl)
theorem cp_next {B0 c j:Nat}{V U:World}{x x':Fx}{L:List Ob}{v:Value}(h:Sep B0 V (bxOb c x::L))(le:B0≤V.heap.size)(o:Ob)(hi:o.In U)(hn:∀k,o.S k→V.heap.size≤k)(hb:Below V.heap.size V U)(hx:Bx U c x→Bx (U.setCell ⟨c,j,none⟩ v) c x'):
 Bx U c x∧Sep B0 (U.setCell ⟨c,j,none⟩ v) (bxOb c x'::o::L)∧Below B0 V (U.setCell ⟨c,j,none⟩ v):=by
 have h1:=sep_perm (h.add o hi hn hb le) (List.Perm.swap (bxOb c x) o L);obtain⟨h2,b2⟩:=sep_box x x' h1 v j hx (Nat.le_trans le hb.size);exact⟨h1.ins (bxOb c x) (by simp),h2,(hb.mono le).trans b2⟩
theorem own_base {w:World}{lo lo' e k n:Nat}{v:Value}{xs:List Value}(h:w.ownsRow lo e k v n xs)(hl:lo'≤lo):w.ownsRow lo' e k v n xs:=by
 refine⟨h.1,?_⟩;rcases h.2 with q|⟨g,cap,cur,rfl,hb,r⟩
 ·exact .inl q
 ·exact .inr ⟨g,cap,cur,rfl,Nat.le_trans hl hb,r⟩
theorem own_cells {w:World}{lo e k n:Nat}{v:Value}{xs:List Value}(h:w.ownsRow lo e k v n xs):v=.slice none 0 0∧n=0∧xs=[]∨∃g cap,v=.slice (some ⟨g,0,none⟩) n cap∧g<w.heap.size∧∀j u,xs[j]?=some u→w.cell? ⟨g,0+j,none⟩=some u:=by
 have hlt:=h.lt;rcases h.2 with⟨rfl,h9⟩|⟨g,cap,cur,rfl,hb,hg,hc1,hc2,hc3,hc4⟩
 ·exact .inl ⟨rfl,h9,List.eq_nil_of_length_eq_zero (by rw[h.1,h9,Nat.zero_mul])⟩
 ·refine .inr ⟨g,cap,rfl,(hlt g rfl).2,fun j u q=>?_⟩;have hj:j<n*k:=by have:=(List.getElem?_eq_some_iff.1 q).1;rwa [h.1]at this
  rw[←hc4,List.getElem?_take_of_lt hj]at q;have:w.cell? ⟨g,0+j,none⟩=cur[j]?:=by simp[World.cell?,hg]
  rw[this,←q];simp
theorem fr_one (L:List Fr):∀u∈L.flatMap Fr.vals,u.oneCell'=true:=fun u hu=>by
 obtain⟨f,_,hf⟩:=List.mem_flatMap.1 hu;unfold Fr.vals at hf;rcases List.mem_cons.1 hf with rfl|hf
 ·rfl
 ·rcases List.mem_cons.1 hf with rfl|hf
  ·rfl
  ·exact regs_one _ u hf
theorem tc_one (L:List Tc):∀u∈L.flatMap Tc.vals,u.oneCell'=true:=fun u hu=>by
 obtain⟨f,_,hf⟩:=List.mem_flatMap.1 hu;simp only[Tc.vals,List.mem_cons,List.not_mem_nil,or_false]at hf;rcases hf with rfl|rfl|rfl<;>rfl
theorem fg_one (L:List Fg):∀u∈L.flatMap Fg.vals,u.oneCell'=true:=fun u hu=>by
 obtain⟨f,_,hf⟩:=List.mem_flatMap.1 hu;unfold Fg.vals at hf;rcases List.mem_cons.1 hf with rfl|hf
 ·rfl
 ·rcases List.mem_cons.1 hf with rfl|hf
  ·rfl
  ·rcases List.mem_cons.1 hf with rfl|hf
   ·rfl
   ·exact regs_one _ u hf
theorem cown_u64 {lo n:Nat}{v:Value}{xs:List Value}(w:World)(h:w.ownsRow lo 51 1 v n xs)(h1:∀u∈xs,u.oneCell'=true)(hn:n≤2000000):
 Calls Tryz.prog 26 #[v] w fun x w'=>∃v',x=.returned v'∧w'.ownsRow w.heap.size 51 1 v' n xs∧Below w.heap.size w w':=by
 rcases own_cells h with⟨rfl,rfl,rfl⟩|⟨g,cap,rfl,hg,hc⟩
 ·refine(clnil_u64 w).mono ?_;rintro x w' ⟨rfl,rfl⟩;exact⟨_,rfl,World.ownsRow_nil _ _ _ _,Below.refl _ _⟩
 ·exact clone_u64 g 0 n cap xs w hg h.1 hc h1 hn
theorem cown_tcs {lo n:Nat}{v:Value}{xs:List Value}(w:World)(h:w.ownsRow lo 67 3 v n xs)(h1:∀u∈xs,u.oneCell'=true)(hn:n≤2000000):
 Calls Tryz.prog 27 #[v] w fun x w'=>∃v',x=.returned v'∧w'.ownsRow w.heap.size 67 3 v' n xs∧Below w.heap.size w w':=by
 rcases own_cells h with⟨rfl,rfl,rfl⟩|⟨g,cap,rfl,hg,hc⟩
 ·refine(clnil_tcs w).mono ?_;rintro x w' ⟨rfl,rfl⟩;exact⟨_,rfl,World.ownsRow_nil _ _ _ _,Below.refl _ _⟩
 ·exact clone_tcs g 0 n cap xs w hg h.1 hc h1 hn
theorem cown_fr {lo n:Nat}{v:Value}{xs:List Value}(w:World)(h:w.ownsRow lo 81 18 v n xs)(h1:∀u∈xs,u.oneCell'=true)(hn:n≤2000000):
 Calls Tryz.prog 25 #[v] w fun x w'=>∃v',x=.returned v'∧w'.ownsRow w.heap.size 81 18 v' n xs∧Below w.heap.size w w':=by
 rcases own_cells h with⟨rfl,rfl,rfl⟩|⟨g,cap,rfl,hg,hc⟩
 ·refine(clnil_fr w).mono ?_;rintro x w' ⟨rfl,rfl⟩;exact⟨_,rfl,World.ownsRow_nil _ _ _ _,Below.refl _ _⟩
 ·exact clone_fr g 0 n cap xs w hg h.1 hc h1 hn
theorem cown_in {v:Value}{L:List Int}(w:World)(h:IvIn w v L)(hn:L.length≤2000000):
 Calls Tryz.prog 26 #[v] w fun x w'=>∃v',x=.returned v'∧w'.ownsRow w.heap.size 51 1 v' L.length (L.map u64I)∧Below w.heap.size w w':=by
 obtain⟨a,cap,e1,e2⟩:=h.rm;obtain⟨a',cap',f1,f2,f3⟩:=h.go;rw[e1]at f1;injection f1 with g1 _ g3;subst g1 g3;rcases e2 with⟨rfl,rfl⟩|⟨b,off,rfl,rm⟩
 ·have hL:L=[]:=List.eq_nil_of_length_eq_zero (by omega);subst hL;rw[e1];refine(clnil_u64 w).mono ?_;rintro x w' ⟨rfl,rfl⟩;exact⟨_,rfl,World.ownsRow_nil _ _ _ _,Below.refl _ _⟩
 ·have hb:b<w.heap.size:=h.lt b (by rw[e1];rfl);rw[e1];refine clone_u64 b off L.length cap (L.map u64I) w hb (by simp) (fun j u q=>?_) (u64_one L) hn;have hj:j<L.length:=by have:=(List.getElem?_eq_some_iff.1 q).1;simpa using this
  rcases f3 with f3|⟨b',off',f4,f5⟩
  ·omega
  ·cases f4
   rw[f5 j hj,←q];simp[hj,u64I]
def Fx.row (x:Fx):List Value:=(List.range 29).map x.at
theorem Fx.row_len (x:Fx):x.row.length=29:=by simp[Fx.row]
theorem Bx.row {w:World}{a:Nat}{x:Fx}(h:Bx w a x):w.rangeAt a 0 x.row:=fun j v q=>by
 have hj:j<29:=by have:=(List.getElem?_eq_some_iff.1 q).1;rwa [Fx.row_len]at this
 rw[Nat.zero_add,h.at_ j hj,←q];simp[Fx.row,hj]
theorem at_bx {w:World}{a:Nat}{x:Fx}(h:At w a x.row.toArray):Bx w a x:=
 ⟨h.1,fun j hj=>by rw[h.2.1];simp[Fx.row,hj],h.2.2⟩
theorem row_one (x:Fx)(h0:x.cv.oneCell'=true)(h1:x.gv.oneCell'=true)(h2:x.sv.oneCell'=true)(h3:x.iv.oneCell'=true)(h4:x.ov_.oneCell'=true)(h5:x.tv.oneCell'=true):x.row.toArray.all (fun u=>u.oneCell')=true:=by
 rw[Array.all_eq_true_iff_forall_mem];intro u hu;simp only[List.mem_toArray,Fx.row,List.mem_map,List.mem_range]at hu;obtain⟨j,hj,rfl⟩:=hu;exact fx_cases (P:=fun j=>(x.at j).oneCell'=true) h0 h1 rfl rfl rfl rfl (fun i hi=>by rw[Fx.reg _ i hi];rfl) h2 h3 h4 h5 rfl rfl rfl j hj
end Z
set_option maxRecDepth 100000
set_option maxHeartbeats 40000000
namespace Z
open Go.RowKit
open T (Sep Ob Kp Mf FlIn boxOb)
theorem perm7 (pg bx tc ou inn st fl:Ob):[pg,bx,tc,ou,inn,st,fl].Perm [bx,fl,st,inn,ou,tc,pg]:=
 (List.perm_append_comm (l₁:=[pg]) (l₂:=[bx,tc,ou,inn,st,fl])).trans (.cons _ (List.Perm.append_right [pg] (List.reverse_perm [fl,st,inn,ou,tc])))
theorem perm8 (a b c d e f g h:Ob):[a,b,c,d,e,f,g,h].Perm [g,h,a,b,c,d,e,f]:=List.perm_append_comm (l₁:=[a,b,c,d,e,f]) (l₂:=[g,h])
theorem copy_any (B:Nat)(W:World)(a:Nat)(P:Pr)(s:Fm)(l:List Ob)(ok:P.Ok)(h:MIn B W a P s l)(hz:MZ s.m)(hst:s.st.length≤2000000)(hi:s.inp.length≤2000000)(ho:s.out.length≤2000000)(ht:s.tc.length≤2000000):
 Calls Tryz.prog 7 #[.pointer (some ⟨a,0,none⟩)] W fun x w'=>x=.returned (.pointer (some ⟨W.heap.size,0,none⟩))∧MIn W.heap.size w' W.heap.size P s []∧Below W.heap.size W w':=by
 obtain⟨⟨q,h1⟩,le⟩:=h;have hb0:Bx W a (bxOf P s q):=h1.ins (bxOb a (bxOf P s q)) (by simp[obs]);have hP:PgIn q.SP W q.cv q.gv P:=h1.ins (pgOb q.SP q.cv q.gv P) (by simp[obs]);have hg0:0<P.gates.length:=ok.n1.1;have hc00:0<P.code.length:=by rw[ok.nc];exact hg0
 obtain⟨g0,gk0,c0,ck0,ecv,hSg0, -, -, -⟩:=hP.code 0 hc00;obtain⟨gg,gc,egv,hSgg, -⟩:=hP.gate 0 hg0;have hC:Hz (CdIn W (some ⟨g0,0,none⟩) P.code):=ζ (fun k hk=>by
  obtain⟨g,gk,c,ck,f1,f2,f3,f4,f5⟩:=hP.code k hk;rw[ecv]at f1;injection f1 with f6;injection f6 with f6;injection f6 with f6;subst f6;exact⟨g0,gk,ck,rfl,hP.lt _ f2,f3,hP.lt _ f4,f5⟩)
 have hgt:Hz (∀k (hk:k<P.gates.length),W.rangeAt gg (k*19) P.gates[k].vals):=ζ (fun k hk=>by
  obtain⟨g,c,f1,f2,f3⟩:=hP.gate k hk;rw[egv]at f1;injection f1 with f6;injection f6 with f6;injection f6 with f6;subst f6;exact f3)
 have hgg:=ζ (hP.lt gg hSgg);have hgl:Hz (P.gates.length≤2000000):=ζ (Nat.le_trans ok.n1.2 (by decide));have hcl0:Hz (P.code.length≤1000):=ζ (by rw[ok.nc];exact Nat.le_trans ok.n1.2 (by decide));have hrow:Hz (∀k (h:k<P.code.length),0<P.code[k].length∧P.code[k].length≤1000):=ζ (fun k hk=>by
  have r:=(ok.row P.code[k] (List.getElem_mem hk)).1;omega)
 obtain⟨sa,sc,esv⟩:=own_slZ (h1.ins (stOb B q.sv s.st) (by simp[obs]));obtain⟨ia,ic,eiv, -, -⟩:=(h1.ins (inOb q.iv s.inp) (by simp[obs]):IvIn W q.iv s.inp).go;obtain⟨oa,oc,eov⟩:=own_slZ (h1.ins (ouOb B q.ov_ s.out) (by simp[obs]));obtain⟨ta,tc,etv⟩:=own_slZ (h1.ins (tcOb B q.tv s.tc) (by simp[obs]));obtain⟨x0,hx0⟩:∃x,bxOf P s q=x:=⟨_,rfl⟩;obtain⟨mp,emp⟩:∃n,q.mp=n:=⟨_,rfl⟩;obtain⟨FF,eFF⟩:∃n,q.F=n:=⟨_,rfl⟩;have e0:Hz (x0.at 0=.slice (some ⟨g0,0,none⟩) P.code.length c0):=ζ (by rw[←hx0,←ecv];rfl);have e1:Hz (x0.at 1=.slice (some ⟨gg,0,none⟩) P.gates.length gc):=ζ (by rw[←hx0,←egv];rfl);have e3:Hz (x0.at 3=.pointer (some ⟨mp,0,none⟩)):=ζ (by rw[←hx0,←emp];rfl);have e22:Hz (x0.at 22=.slice sa s.st.length sc):=ζ (by rw[←hx0,←esv];rfl);have e23:Hz (x0.at 23=.slice ia s.inp.length ic):=ζ (by rw[←hx0,←eiv];rfl);have e24:Hz (x0.at 24=.slice oa s.out.length oc):=ζ (by rw[←hx0,←eov];rfl);have e25:Hz (x0.at 25=.slice ta s.tc.length tc):=ζ (by rw[←hx0,←etv];rfl)
 have hone:Hz (x0.row.toArray.all (fun u=>u.oneCell')=true):=ζ (row_one x0 (by rw[←hx0];show q.cv.oneCell'=true;rw[ecv];rfl) (by rw[←hx0];show q.gv.oneCell'=true;rw[egv];rfl) (by rw[←hx0];show q.sv.oneCell'=true;rw[esv];rfl) (by rw[←hx0];show q.iv.oneCell'=true;rw[eiv];rfl) (by rw[←hx0];show q.ov_.oneCell'=true;rw[eov];rfl) (by rw[←hx0];show q.tv.oneCell'=true;rw[etv];rfl));rw[hx0]at hb0;have hbx:=ζ hb0;have hrg:=ζ hb0.row;replace h1:=ζ h1;replace hx0:=ζ hx0;have hmp:=ζ emp;have hFF:=ζ eFF;have hsv:=ζ esv;have hiv0:=ζ eiv;have hov:=ζ eov;have htv:=ζ etv;replace hz:=ζ hz;replace hst:=ζ hst;replace hi:=ζ hi;replace ho:=ζ ho;replace ht:=ζ ht;replace hg0:=ζ hg0;clear hP hb0 hSg0 hSgg ecv egv esv eiv eov etv emp eFF hc00 ok le;go_enter Tryz.func7,Tryz.ntmps7;go_upto_region 3 with fail
 refine wp_region_lit ?_;iterate 2 (refine xp fun K hK=>?_;go_simp;with_reducible refine hK _ _ ?_;clear hK K;(try simp only[xap]))
 refine xp fun K hK=>?_
 refine wp_load_mid _ _ rfl _ 0 rfl x0.row _ hrg.out Tryz.underlying86 rfl (by rw[Fx.row_len];kernel_rfl) (hK _ _ ?_);clear hK K;try simp only[xap]
 have hth:=ζ ((At.new W (List.toArray [Value.slice none 0 0,.slice none 0 0,.int .i64 0,.pointer none,.int .i64 0,.int .i64 0,.int .u64 0,.int .u64 0,.int .u64 0,.int .u64 0,.int .u64 0,.int .u64 0,.int .u64 0,.int .u64 0,.int .u64 0,.int .u64 0,.int .u64 0,.int .u64 0,.int .u64 0,.int .u64 0,.int .u64 0,.int .u64 0,.slice none 0 0,.slice none 0 0,.slice none 0 0,.slice none 0 0,.int .i64 0,.int .u64 0,.int .i64 0]) 86).there 0 x0.row.toArray.size (by rw[show x0.row.toArray.size=29 by rw[List.size_toArray,Fx.row_len]];simp));have hA9:=At.setAll (cs:=[Value.slice none 0 0,.slice none 0 0,.int .i64 0,.pointer none,.int .i64 0,.int .i64 0,.int .u64 0,.int .u64 0,.int .u64 0,.int .u64 0,.int .u64 0,.int .u64 0,.int .u64 0,.int .u64 0,.int .u64 0,.int .u64 0,.int .u64 0,.int .u64 0,.int .u64 0,.int .u64 0,.int .u64 0,.int .u64 0,.slice none 0 0,.slice none 0 0,.slice none 0 0,.slice none 0 0,.int .i64 0,.int .u64 0,.int .i64 0]) (At.new W _ 86) x0.row (by rw[Fx.row_len];rfl)
 have hb9:Below W.heap.size W ((W.alloc (.cells (List.toArray [Value.slice none 0 0,.slice none 0 0,.int .i64 0,.pointer none,.int .i64 0,.int .i64 0,.int .u64 0,.int .u64 0,.int .u64 0,.int .u64 0,.int .u64 0,.int .u64 0,.int .u64 0,.int .u64 0,.int .u64 0,.int .u64 0,.int .u64 0,.int .u64 0,.int .u64 0,.int .u64 0,.int .u64 0,.int .u64 0,.slice none 0 0,.slice none 0 0,.slice none 0 0,.slice none 0 0,.int .i64 0,.int .u64 0,.int .i64 0]) 86)).setCells W.heap.size 0 x0.row):=by
  have k1:=kp_setsZ (W.alloc (.cells (List.toArray [Value.slice none 0 0,.slice none 0 0,.int .i64 0,.pointer none,.int .i64 0,.int .i64 0,.int .u64 0,.int .u64 0,.int .u64 0,.int .u64 0,.int .u64 0,.int .u64 0,.int .u64 0,.int .u64 0,.int .u64 0,.int .u64 0,.int .u64 0,.int .u64 0,.int .u64 0,.int .u64 0,.int .u64 0,.int .u64 0,.slice none 0 0,.slice none 0 0,.slice none 0 0,.slice none 0 0,.int .i64 0,.int .u64 0,.int .i64 0]) 86)) W.heap.size x0.row 0;have b4:Below W.heap.size W (W.alloc (.cells (List.toArray [Value.slice none 0 0,.slice none 0 0,.int .i64 0,.pointer none,.int .i64 0,.int .i64 0,.int .u64 0,.int .u64 0,.int .u64 0,.int .u64 0,.int .u64 0,.int .u64 0,.int .u64 0,.int .u64 0,.int .u64 0,.int .u64 0,.int .u64 0,.int .u64 0,.int .u64 0,.int .u64 0,.int .u64 0,.int .u64 0,.slice none 0 0,.slice none 0 0,.slice none 0 0,.slice none 0 0,.int .i64 0,.int .u64 0,.int .i64 0]) 86)):=(Below.refl _ W).alloc (Nat.le_refl _) _
  exact b4.trans ⟨k1.os,k1.tape,k1.output,k1.size,fun b hb=>k1.block b (Nat.lt_of_lt_of_le hb b4.size) (by omega)⟩
 have hS:Hz (Sep W.heap.size ((W.alloc (.cells (List.toArray [Value.slice none 0 0,.slice none 0 0,.int .i64 0,.pointer none,.int .i64 0,.int .i64 0,.int .u64 0,.int .u64 0,.int .u64 0,.int .u64 0,.int .u64 0,.int .u64 0,.int .u64 0,.int .u64 0,.int .u64 0,.int .u64 0,.int .u64 0,.int .u64 0,.int .u64 0,.int .u64 0,.int .u64 0,.int .u64 0,.slice none 0 0,.slice none 0 0,.slice none 0 0,.slice none 0 0,.int .i64 0,.int .u64 0,.int .i64 0]) 86)).setCells W.heap.size 0 x0.row) [bxOb W.heap.size x0]):=ζ ((Sep.nil W.heap.size W).add (bxOb W.heap.size x0) (at_bx hA9) (fun k q=>by have:k=W.heap.size:=q;omega) hb9 (Nat.le_refl _));have hb:=ζ hb9;clear hA9 hb9;refine wpList_plain rfl (fun K' hK=>?_);go_simp;with_reducible refine hK _ _ ?_
 clear hK K';try simp only[xap]
 refine wpList_plain rfl (fun K' hK=>?_);refine wp_store_mid _ _ _ rfl _ _ (List.toArray x0.row) rfl rfl hth.out (by rw[List.size_toArray,Fx.row_len];kernel_rfl) hone.out (hK _ _ ?_);clear hK K' hth;try simp only[Act.put]
 generalize hVx:(W.alloc (.cells (List.toArray [Value.slice none 0 0,.slice none 0 0,.int .i64 0,.pointer none,.int .i64 0,.int .i64 0,.int .u64 0,.int .u64 0,.int .u64 0,.int .u64 0,.int .u64 0,.int .u64 0,.int .u64 0,.int .u64 0,.int .u64 0,.int .u64 0,.int .u64 0,.int .u64 0,.int .u64 0,.int .u64 0,.int .u64 0,.int .u64 0,.slice none 0 0,.slice none 0 0,.slice none 0 0,.slice none 0 0,.int .i64 0,.int .u64 0,.int .i64 0]) 86)).setCells W.heap.size 0 x0.row=V1 at*;clear hVx;have dj:V1.cell? ⟨a,0,none⟩=some (.slice (some ⟨g0,0,none⟩) P.code.length c0):=((hbx.out.bel hb.out).at_ 0 (by omega)).trans (congrArg some e0.out);have hcl:=ζ (copied_ok P.code (some ⟨g0,0,none⟩) c0 V1 (hC.out.below hb.out) hcl0.out hrow.out);go_wp2_with fail;refine hcl.out.mono ?_;rintro r U1 ⟨VV,rfl,hcp⟩;clear hcl dj;have hcd:=hcp.cds P.code.length;have hbu:=hcp.gro;obtain⟨hB9,hS9,hb9⟩:=cp_next (j:=0) (v:=.slice (some ⟨V1.heap.size,0,none⟩) P.code.length P.code.length) hS.out hb.out.size (cdOb (fun k=>V1.heap.size≤k∧k<U1.heap.size) (.slice (some ⟨V1.heap.size,0,none⟩) P.code.length P.code.length) P) (hcd) (fun k q=>q.1) hbu (fun q=>q.cv _)
 have k1:∃y,U1.cell? ⟨W.heap.size,0,none⟩=some y:=⟨_,hB9.at_ 0 (by omega)⟩;obtain⟨y9,k1⟩:=k1;have k2:=hB9.fr 0;have k3:=hB9.lt;replace hS:=ζ hS9;replace hb:=ζ (hb.out.trans hb9);clear hB9 hS9 hb9;clear hcd hbu hcp;go_upto_region 5 with fail
 generalize hVx:U1.setCell ⟨W.heap.size,0,none⟩ (.slice (some ⟨V1.heap.size,0,none⟩) P.code.length P.code.length)=V2 at*;clear hVx k1 k2 k3;have dj:V2.cell? ⟨a,1,none⟩=some (.slice (some ⟨gg,0,none⟩) P.gates.length gc):=((hbx.out.bel hb.out).at_ 1 (by omega)).trans (congrArg some e1.out);have hcl:=ζ (clone_gates gg 0 P.gates.length gc (P.gates.flatMap Fg.vals) V2 (Nat.lt_of_lt_of_le hgg.out hb.out.size) (flat_len Fg.len _) (gates_flat (fun k hk=>rangZ hb.out hgg.out (by rw[Nat.zero_add];exact hgt.out k hk))) (fg_one P.gates) hgl.out);go_wp2_with fail;refine hcl.out.mono ?_;rintro r U2 ⟨vg,rfl,hown,hbu⟩;clear hcl dj;have hown2:=own_base hown hb.out.size;have hlo:=hown.lt;obtain⟨va,vb,hvv⟩:=own_slZ hown;subst hvv;obtain⟨hB9,hS9,hb9⟩:=cp_next (j:=1) (v:=.slice va P.gates.length vb) hS.out hb.out.size (rowOb W.heap.size 70 19 (.slice va P.gates.length vb) P.gates.length (P.gates.flatMap Fg.vals)) (hown2) (fun k q=>(hlo k q).1) hbu (fun q=>q.gv _)
 have k1:∃y,U2.cell? ⟨W.heap.size,1,none⟩=some y:=⟨_,hB9.at_ 1 (by omega)⟩;obtain⟨y9,k1⟩:=k1;have k2:=hB9.fr 1;have k3:=hB9.lt;replace hS:=ζ hS9;replace hb:=ζ (hb.out.trans hb9);clear hB9 hS9 hb9;clear hown hown2 hbu hlo;go_upto_region 6 with fail
 generalize hVx:U2.setCell ⟨W.heap.size,1,none⟩ (.slice va P.gates.length vb)=V3 at*;clear hVx k1 k2 k3;have dj:V3.cell? ⟨a,3,none⟩=some (.pointer (some ⟨mp,0,none⟩)):=((hbx.out.bel hb.out).at_ 3 (by omega)).trans (congrArg some e3.out);have hby:=ζ (T.flBytes_any FF mp s.m V3 (by have q:=(h1.out.gr hb.out).ins (flOb q.F q.mp s.m) (by simp[obs]);rw[hmp.out,hFF.out]at q;exact q));have hnf:Hz (∀U:World,Calls Tryz.prog 23 #[.string ⟨(T.rowB s.m 0 65536).toArray⟩] U fun x w'=>x=.returned (.pointer (some ⟨U.heap.size,0,none⟩))∧∃S,FlIn S w' U.heap.size s.m∧(∀k,S k→U.heap.size≤k)∧Below U.heap.size U w'):=ζ (fun U=>by
  have q:=T.newFlat_any (T.rowB s.m 0 65536) U (by rw[T.rowB_len];decide);rw[lay_row s.m hz.out]at q;exact q)
 generalize (T.rowB s.m 0 65536).toArray=RR at*;go_wp2_with fail;refine hby.out.mono ?_;rintro r X3 ⟨rfl,hbx3⟩;clear hby dj;have hbX:=ζ hbx3;clear hbx3;go_wp2_with fail;refine(hnf.out X3).mono ?_;rintro r U3 ⟨rfl,SF,hFl,hFs,hbu⟩;replace hS:=ζ (hS.out.gr hbX.out);replace hb:=ζ (hb.out.trans (hbX.out.mono hb.out.size));obtain⟨hB9,hS9,hb9⟩:=cp_next (j:=3) (v:=.pointer (some ⟨X3.heap.size,0,none⟩)) hS.out hb.out.size (flOb SF X3.heap.size s.m) hFl hFs hbu (fun q=>q.mp _);have k1:∃y,U3.cell? ⟨W.heap.size,3,none⟩=some y:=⟨_,hB9.at_ 3 (by omega)⟩;obtain⟨y9,k1⟩:=k1;have k2:=hB9.fr 3;have k3:=hB9.lt;replace hS:=ζ hS9;replace hb:=ζ (hb.out.trans hb9);clear hB9 hS9 hb9 hFl hFs hbu hnf hbX;go_upto_region 7 with fail
 generalize hVx:U3.setCell ⟨W.heap.size,3,none⟩ (.pointer (some ⟨X3.heap.size,0,none⟩))=V4 at*;clear hVx k1 k2 k3;have dj:V4.cell? ⟨a,22,none⟩=some (.slice sa s.st.length sc):=((hbx.out.bel hb.out).at_ 22 (by omega)).trans (congrArg some e22.out);have hcl:=ζ (cown_fr V4 (by have q:=(h1.out.gr hb.out).ins (stOb B q.sv s.st) (by simp[obs]);rw[hsv.out]at q;exact q) (fr_one s.st) hst.out);go_wp2_with fail;refine hcl.out.mono ?_;rintro r U4 ⟨vg,rfl,hown,hbu⟩;clear hcl dj;have hown2:=own_base hown hb.out.size;have hlo:=hown.lt;obtain⟨va,vb,hvv⟩:=own_slZ hown;subst hvv;obtain⟨hB9,hS9,hb9⟩:=cp_next (j:=22) (v:=.slice va s.st.length vb) hS.out hb.out.size (stOb W.heap.size (.slice va s.st.length vb) s.st) (hown2) (fun k q=>(hlo k q).1) hbu (fun q=>q.sv _);have k1:∃y,U4.cell? ⟨W.heap.size,22,none⟩=some y:=⟨_,hB9.at_ 22 (by omega)⟩;obtain⟨y9,k1⟩:=k1;have k2:=hB9.fr 22;have k3:=hB9.lt;replace hS:=ζ hS9
 replace hb:=ζ (hb.out.trans hb9);clear hB9 hS9 hb9;clear hown hown2 hbu hlo;go_upto_region 8 with fail
 generalize hVx:U4.setCell ⟨W.heap.size,22,none⟩ (.slice va s.st.length vb)=V5 at*;clear hVx k1 k2 k3;have dj:V5.cell? ⟨a,23,none⟩=some (.slice ia s.inp.length ic):=((hbx.out.bel hb.out).at_ 23 (by omega)).trans (congrArg some e23.out);have hcl:=ζ (cown_in V5 (by have q:=(h1.out.gr hb.out).ins (inOb q.iv s.inp) (by simp[obs]);rw[hiv0.out]at q;exact q) hi.out);go_wp2_with fail;refine hcl.out.mono ?_;rintro r U5 ⟨vg,rfl,hown,hbu⟩;clear hcl dj;have hown2:=own_base hown hb.out.size;have hlo:=hown.lt;obtain⟨va,vb,hvv⟩:=own_slZ hown;subst hvv;obtain⟨hiv,hiv2⟩:=own_iv hown;obtain⟨hB9,hS9,hb9⟩:=cp_next (j:=23) (v:=.slice va s.inp.length vb) hS.out hb.out.size (inOb (.slice va s.inp.length vb) s.inp) (hiv) (fun k q=>(hlo k q).1) hbu (fun q=>q.iv _);have k1:∃y,U5.cell? ⟨W.heap.size,23,none⟩=some y:=⟨_,hB9.at_ 23 (by omega)⟩;obtain⟨y9,k1⟩:=k1;have k2:=hB9.fr 23;have k3:=hB9.lt;replace hS:=ζ hS9;replace hb:=ζ (hb.out.trans hb9)
 clear hB9 hS9 hb9;clear hown hown2 hbu hlo;clear hiv hiv2;go_upto_region 9 with fail
 generalize hVx:U5.setCell ⟨W.heap.size,23,none⟩ (.slice va s.inp.length vb)=V6 at*;clear hVx k1 k2 k3;have dj:V6.cell? ⟨a,24,none⟩=some (.slice oa s.out.length oc):=((hbx.out.bel hb.out).at_ 24 (by omega)).trans (congrArg some e24.out);have hcl:=ζ (cown_u64 V6 (by have q:=(h1.out.gr hb.out).ins (ouOb B q.ov_ s.out) (by simp[obs]);rw[hov.out]at q;exact q) (u64_one s.out) ho.out);go_wp2_with fail;refine hcl.out.mono ?_;rintro r U6 ⟨vg,rfl,hown,hbu⟩;clear hcl dj;have hown2:=own_base hown hb.out.size;have hlo:=hown.lt;obtain⟨va,vb,hvv⟩:=own_slZ hown;subst hvv;obtain⟨hB9,hS9,hb9⟩:=cp_next (j:=24) (v:=.slice va s.out.length vb) hS.out hb.out.size (ouOb W.heap.size (.slice va s.out.length vb) s.out) (hown2) (fun k q=>(hlo k q).1) hbu (fun q=>q.ov _);have k1:∃y,U6.cell? ⟨W.heap.size,24,none⟩=some y:=⟨_,hB9.at_ 24 (by omega)⟩;obtain⟨y9,k1⟩:=k1;have k2:=hB9.fr 24;have k3:=hB9.lt;replace hS:=ζ hS9
 replace hb:=ζ (hb.out.trans hb9);clear hB9 hS9 hb9;clear hown hown2 hbu hlo;go_upto_region 10 with fail
 generalize hVx:U6.setCell ⟨W.heap.size,24,none⟩ (.slice va s.out.length vb)=V7 at*;clear hVx k1 k2 k3;have dj:V7.cell? ⟨a,25,none⟩=some (.slice ta s.tc.length tc):=((hbx.out.bel hb.out).at_ 25 (by omega)).trans (congrArg some e25.out);have hcl:=ζ (cown_tcs V7 (by have q:=(h1.out.gr hb.out).ins (tcOb B q.tv s.tc) (by simp[obs]);rw[htv.out]at q;exact q) (tc_one s.tc) ht.out);go_wp2_with fail;refine hcl.out.mono ?_;rintro r U7 ⟨vg,rfl,hown,hbu⟩;clear hcl dj;have hown2:=own_base hown hb.out.size;have hlo:=hown.lt;obtain⟨va,vb,hvv⟩:=own_slZ hown;subst hvv;obtain⟨hB9,hS9,hb9⟩:=cp_next (j:=25) (v:=.slice va s.tc.length vb) hS.out hb.out.size (tcOb W.heap.size (.slice va s.tc.length vb) s.tc) (hown2) (fun k q=>(hlo k q).1) hbu (fun q=>q.tv _);have k1:∃y,U7.cell? ⟨W.heap.size,25,none⟩=some y:=⟨_,hB9.at_ 25 (by omega)⟩;obtain⟨y9,k1⟩:=k1;have k2:=hB9.fr 25;have k3:=hB9.lt;replace hS:=ζ hS9;replace hb:=ζ (hb.out.trans hb9)
 clear hB9 hS9 hb9;clear hown hown2 hbu hlo;go_upto_region 11 with fail
 generalize hVx:U7.setCell ⟨W.heap.size,25,none⟩ (.slice va s.tc.length vb)=V8 at*;clear hVx k1 k2 k3;have hfin:Hz (MIn W.heap.size V8 W.heap.size P s []):=ζ (by
  have hS2:=sep_perm hS.out (perm8 _ _ _ _ _ _ _ _);obtain⟨S',hS3⟩:=sep_pg hS2 hg0.out;have hS4:=sep_perm hS3 (perm7 _ _ _ _ _ _ _);rw[←hx0.out]at hS4;exact⟨⟨⟨_,_,_,_,_,_,_,_,S'⟩,hS4⟩,hb.out.size⟩)
 go_wp2_with fail;go_ret;exact⟨rfl,hfin.out,hb.out⟩
section
variable {B:Nat} {W W':World} {P:Pr} {m m':List (Nat×Fm)} {l:List Ob} {a:Nat} {s s':Fm}
end
theorem steps_negM (B:Nat)(V:World)(a:Nat)(P:Pr)(s:Fm)(l:List Ob)(n:Int)(hn:n<0)(h:MIn B V a P s l):
 Calls Tryz.prog 44 #[.pointer (some ⟨a,0,none⟩),.int .i64 n] V fun x w'=>x=.returned (.tuple #[])∧MIn B w' a P s l∧Below B V w':=by
 refine(steps_neg a n V (by omega)).mono ?_;rintro x w' ⟨rfl,rfl⟩;exact⟨rfl,h,Below.refl _ _⟩
theorem run_endN (B:Nat)(W:World)(a:Nat)(P:Pr)(l:List Ob)(n:Int)(s:Fm)(hneg:n<0)(h:MIn B W a P s l)(he:s.e≠0):
 Calls Tryz.prog 14 #[.pointer (some ⟨a,0,none⟩),.int .i64 n] W fun x w'=>x=.returned (.agg #[.int .i64 s.e,.int .u64 s.v,.int .i64 s.f,.int .i64 s.g,.int .i64 s.p])∧MIn B w' a P s l∧Below B W w':=by
 have e2:(s.e==0)=false:=by simpa using he
 replace he:=ζ he;have hni:(n:Int)≤100000:=by omega
 have h2:=ζ (h.new #[.int .i64 0,.int .u64 0,.int .i64 0,.int .i64 0,.int .i64 0] 62);clear h;go_enter Tryz.func14,Tryz.ntmps14;go_upto_region 1 with fail
 refine wp_world (fun V=>MIn B V a P s (boxOb W.heap.size #[.int .i64 0,.int .u64 0,.int .i64 0,.int .i64 0,.int .i64 0]::l)∧Below B W V) h2.out ?_;rintro V ⟨h,hB⟩;replace h:=ζ h;replace hB:=ζ hB;clear h2;generalize hkr:W.heap.size=kr at*;clear hkr;have hst:=ζ (steps_negM B V a P s _ n hneg h.out);go_wp2_with fail;rw[show min (n:Int) 100000=(n:Int)from Int.min_eq_left hni];refine hst.out.mono ?_;rintro r V8 ⟨rfl,h8,hB8⟩;replace hB:=ζ (hB.out.trans hB8);replace h8:=ζ h8;clear h hst hB8;have c26:=h8.out.e26;have hsd:=ζ (stands_any B V8 a P s _ h8.out);go_upto_region 6 with fail
 have hle8:=h8.out.le;refine wp_region_lit ?_;refine xp fun K hK=>?_
 go_simp;with_reducible refine hK _ _ ?_
 clear hK K;try simp only[xap]
 refine xp fun K hK=>?_
 go_simp
 (refine hsd.out.mono ?_;rintro r V9 ⟨rfl,g9⟩)
 with_reducible refine hK _ _ ?_
 clear hK K;try simp only[xap]
 replace h8:=ζ (h8.out.gro g9);replace hB:Hz (Below B W V9):=ζ (hB.out.trans (g9.below.mono hle8));have hA9:At V9 kr #[.int .i64 0,.int .u64 0,.int .i64 0,.int .i64 0,.int .i64 0]:=h8.out.there (boxOb kr #[.int .i64 0,.int .u64 0,.int .i64 0,.int .i64 0,.int .i64 0]) (.head _);have hth:=ζ (At.there (cs:=[Value.int .i64 0,.int .u64 0,.int .i64 0,.int .i64 0,.int .i64 0]) hA9 0 5 (by decide));have hA10:=ζ (At.setAll (cs:=[Value.int .i64 0,.int .u64 0,.int .i64 0,.int .i64 0,.int .i64 0]) hA9 [Value.int .i64 s.e,.int .u64 s.v,.int .i64 s.f,.int .i64 s.g,.int .i64 s.p] rfl);have hk10:Kp (fun k=>k=kr) V9 (V9.setCells kr 0 [Value.int .i64 s.e,.int .u64 s.v,.int .i64 s.f,.int .i64 s.g,.int .i64 s.p]):=kp_setsZ V9 kr [Value.int .i64 s.e,.int .u64 s.v,.int .i64 s.f,.int .i64 s.g,.int .i64 s.p] 0;have h10:=h8.out.side (o':=boxOb kr (List.toArray [Value.int .i64 s.e,.int .u64 s.v,.int .i64 s.f,.int .i64 s.g,.int .i64 s.p])) hA10.out hk10 (fun _ r=>.inl r)
 replace hB:=ζ (hB.out.trans h10.2);replace h10:=ζ h10.1;clear h8 hA9 hk10 hsd g9;refine xp fun K hK=>?_
 refine wp_store_mid _ _ _ rfl _ _ (List.toArray [Value.int .i64 s.e,.int .u64 s.v,.int .i64 s.f,.int .i64 s.g,.int .i64 s.p]) rfl rfl hth.out (by kernel_rfl) (by simp[Value.oneCell']) (hK _ _ ?_);clear hK K;try simp only[Act.put]
 generalize World.setCells _ _ _ _=V11 at*;have hrun:=ζ (run_loadVar_mid (P:=Tryz.prog) V11 kr 0 62 [Value.int .i64 s.e,.int .u64 s.v,.int .i64 s.f,.int .i64 s.g,.int .i64 s.p] _ (fun j v q=>by rw[Nat.zero_add];exact(hA10.out.2.1 j).trans (by simpa using q)) Tryz.underlying62 rfl (by kernel_rfl));go_wp2_with fail;refine bodyPost_ret (v:=.agg #[.int .i64 s.e,.int .u64 s.v,.int .i64 s.f,.int .i64 s.g,.int .i64 s.p]) ?_ rfl ⟨rfl,h10.out.drop,hB.out⟩;exact results_rowZ Tryz.results14 _ _ rfl hrun.out
theorem run_spentN (B:Nat)(W:World)(a:Nat)(P:Pr)(l:List Ob)(n:Int)(s:Fm)(hneg:n<0)(h:MIn B W a P s l)(he:s.e=0):
 Calls Tryz.prog 14 #[.pointer (some ⟨a,0,none⟩),.int .i64 n] W fun x w'=>x=.returned (.agg #[.int .i64 (sp s).e,.int .u64 (sp s).v,.int .i64 (sp s).f,.int .i64 (sp s).g,.int .i64 (sp s).p])∧MIn B w' a P (sp s) l∧Below B W w':=by
 have hni:(n:Int)≤100000:=by omega
 have h2:=ζ (h.new #[.int .i64 0,.int .u64 0,.int .i64 0,.int .i64 0,.int .i64 0] 62);clear h;go_enter Tryz.func14,Tryz.ntmps14;go_upto_region 1 with fail
 refine wp_world (fun V=>MIn B V a P s (boxOb W.heap.size #[.int .i64 0,.int .u64 0,.int .i64 0,.int .i64 0,.int .i64 0]::l)∧Below B W V) h2.out ?_;rintro V ⟨h,hB⟩;replace h:=ζ h;replace hB:=ζ hB;clear h2;generalize hkr:W.heap.size=kr at*;clear hkr;have hst:=ζ (steps_negM B V a P s _ n hneg h.out);go_wp2_with fail;rw[show min (n:Int) 100000=(n:Int)from Int.min_eq_left hni];refine hst.out.mono ?_;rintro r V7 ⟨rfl,h7,hB8⟩;replace hB:=ζ (hB.out.trans hB8);replace h7:=ζ h7;clear h hst hB8;have c26:=h7.out.e26;rw[he]at c26;have hfi:=ζ (h7.out.onBox (s':=sp s) ⟨rfl,rfl,rfl,rfl,rfl⟩ (fun q hb=>finish_any a _ 4 0 _ hb));go_wp2_with fail;refine hfi.out.mono ?_;rintro r V8 ⟨rfl,h8,hB8⟩;replace hB:=ζ (hB.out.trans hB8);replace h8:=ζ h8;clear h7 hfi hB8 c26 he;have hsd:=ζ (stands_any B V8 a P (sp s) _ h8.out);go_upto_region 6 with fail
 have hle8:=h8.out.le;refine wp_region_lit ?_;refine xp fun K hK=>?_
 go_simp;with_reducible refine hK _ _ ?_
 clear hK K;try simp only[xap]
 refine xp fun K hK=>?_
 go_simp
 (refine hsd.out.mono ?_;rintro r V9 ⟨rfl,g9⟩)
 with_reducible refine hK _ _ ?_
 clear hK K;try simp only[xap]
 replace h8:=ζ (h8.out.gro g9);replace hB:Hz (Below B W V9):=ζ (hB.out.trans (g9.below.mono hle8));have hA9:At V9 kr #[.int .i64 0,.int .u64 0,.int .i64 0,.int .i64 0,.int .i64 0]:=h8.out.there (boxOb kr #[.int .i64 0,.int .u64 0,.int .i64 0,.int .i64 0,.int .i64 0]) (.head _);have hth:=ζ (At.there (cs:=[Value.int .i64 0,.int .u64 0,.int .i64 0,.int .i64 0,.int .i64 0]) hA9 0 5 (by decide));have hA10:=ζ (At.setAll (cs:=[Value.int .i64 0,.int .u64 0,.int .i64 0,.int .i64 0,.int .i64 0]) hA9 [Value.int .i64 (sp s).e,.int .u64 (sp s).v,.int .i64 (sp s).f,.int .i64 (sp s).g,.int .i64 (sp s).p] rfl);have hk10:Kp (fun k=>k=kr) V9 (V9.setCells kr 0 [Value.int .i64 (sp s).e,.int .u64 (sp s).v,.int .i64 (sp s).f,.int .i64 (sp s).g,.int .i64 (sp s).p]):=kp_setsZ V9 kr [Value.int .i64 (sp s).e,.int .u64 (sp s).v,.int .i64 (sp s).f,.int .i64 (sp s).g,.int .i64 (sp s).p] 0;have h10:=h8.out.side (o':=boxOb kr (List.toArray [Value.int .i64 (sp s).e,.int .u64 (sp s).v,.int .i64 (sp s).f,.int .i64 (sp s).g,.int .i64 (sp s).p])) hA10.out hk10 (fun _ r=>.inl r)
 replace hB:=ζ (hB.out.trans h10.2);replace h10:=ζ h10.1;clear h8 hA9 hk10 hsd g9;refine xp fun K hK=>?_
 refine wp_store_mid _ _ _ rfl _ _ (List.toArray [Value.int .i64 (sp s).e,.int .u64 (sp s).v,.int .i64 (sp s).f,.int .i64 (sp s).g,.int .i64 (sp s).p]) rfl rfl hth.out (by kernel_rfl) (by simp[Value.oneCell']) (hK _ _ ?_);clear hK K;try simp only[Act.put]
 generalize World.setCells _ _ _ _=V11 at*;have hrun:=ζ (run_loadVar_mid (P:=Tryz.prog) V11 kr 0 62 [Value.int .i64 (sp s).e,.int .u64 (sp s).v,.int .i64 (sp s).f,.int .i64 (sp s).g,.int .i64 (sp s).p] _ (fun j v q=>by rw[Nat.zero_add];exact(hA10.out.2.1 j).trans (by simpa using q)) Tryz.underlying62 rfl (by kernel_rfl));go_wp2_with fail;refine bodyPost_ret (v:=.agg #[.int .i64 (sp s).e,.int .u64 (sp s).v,.int .i64 (sp s).f,.int .i64 (sp s).g,.int .i64 (sp s).p]) ?_ rfl ⟨rfl,h10.out.drop,hB.out⟩;exact results_rowZ Tryz.results14 _ _ rfl hrun.out
theorem run_negM (P:Pr)(s:Fm)(n:Int)(hn:n<0)(t:Fm)(ht:runM P s 0=t)(B:Nat)(W:World)(a:Nat)(l:List Ob)(h:MIn B W a P s l):
 Calls Tryz.prog 14 #[.pointer (some ⟨a,0,none⟩),.int .i64 n] W fun x w'=>x=.returned (.agg #[.int .i64 t.e,.int .u64 t.v,.int .i64 t.f,.int .i64 t.g,.int .i64 t.p])∧MIn B w' a P t l∧Below B W w':=by
 subst ht;show Calls _ _ _ _ fun x w'=>x=.returned (.agg #[.int .i64 (if s.e=0 then sp s else s).e,.int .u64 (if s.e=0 then sp s else s).v,.int .i64 (if s.e=0 then sp s else s).f,.int .i64 (if s.e=0 then sp s else s).g,.int .i64 (if s.e=0 then sp s else s).p])∧MIn B w' a P (if s.e=0 then sp s else s) l∧Below B W w'
 by_cases he:s.e=0
 ·rw[if_pos he];exact run_spentN B W a P l n s hn h he
 ·rw[if_neg he];exact run_endN B W a P l n s hn h he
end Z
end Go.Proofs.YtdidjhillmgccaaGreat
