import Derived.Test.YtdidjhillmgccaaGreatP39
import Derived.Test.YtdidjhillmgccaaGreatP38
import Derived.Test.YtdidjhillmgccaaGreatP30
import Derived.Test.YtdidjhillmgccaaGreatP35
import Derived.Deep.AppendLies
import Derived.Laws.Rows
namespace Go.Proofs.YtdidjhillmgccaaGreat
namespace Z
open Go.RowKit
open T (Sep Ob Kp Mf FlIn boxOb)
theorem mz_st0 (R:Rp)(gate:Int)(A L:List Int)(mem:List UInt8):MZ (st0 R gate A L mem).m:=mz_lay mem
theorem okn_give {P:Pr}{n:Nat}{s:Fm}(h:s.Okn P n)(A:List Int)(hA:∀x∈A,Wd x)(hl:s.inp.length+A.length≤140737488355328):(giveM s A).Okn P n:=by
 have h1:({s with inp:=s.inp++A}:Fm).Okn P n:=⟨h.g,h.p,h.r,h.st,h.fr,fun x hx=>by
  rcases List.mem_append.1 hx with q|q
  ·exact h.inp x q
  ·exact hA x q,by
  show(s.inp++A).length≤_;rw[List.length_append];exact hl,h.out,h.ol,h.tl,h.v⟩
 unfold giveM
 split
 ·exact h1.end 0 0 wd0
 ·exact h1
end Z
set_option maxRecDepth 100000
set_option maxHeartbeats 40000000
namespace Z
open Go.RowKit
open T (Sep Ob Kp Mf FlIn boxOb)
theorem iv_nil (W:World):IvIn W (.slice none 0 0) []:=⟨⟨none,0,rfl,Nat.le_refl _,.inl rfl⟩,fun k q=>by simp[Value.ownBlock]at q,⟨none,0,rfl,.inl ⟨rfl,rfl⟩⟩⟩
theorem DIo.setIn {B:Nat}{W0 W:World}{b:Nat}{c:Dc}{P:Pr}{s:Fm}{og op:Nat}{l:List Ob}(h:DIo B W0 b c P s og op l)(hb:Below W0.heap.size W0 W)(v:Value)(L:List Int)(hv:IvIn W v L)(hn:∀k,v.ownBlock=some k→W0.heap.size≤k):
 DIo B (W.setCell ⟨b,24,none⟩ v) b c P {s with inp:=L} og op l∧Below B W (W.setCell ⟨b,24,none⟩ v):=by
 obtain⟨⟨q,h1,_⟩,le⟩:=h;obtain⟨a,cap,e1,e2,e3⟩:=hv.go;have hg:(giOb B v L).In W:=by
  intro k off n c2 e hB;have hk:v.ownBlock=some k:=by rw[e];rfl
  refine⟨hv.lt k hk,fun i hi=>?_⟩;rcases e3 with e3|⟨b3,off3,rfl,e3⟩
  ·omega
  ·rw[e1]at e;injection e with e _ _
   injection e with e
   injection e with ea eb _
   subst ea;subst eb;exact e3 i hi
 have h2:Sep B W0 (dobs B b c P s q og op++l):=sep_tail (sep_perm h1 List.perm_middle);have h3:=h2.add (giOb B v L) hg (fun k r=>by
  obtain⟨_,off,n,c2,e⟩:=r;exact hn k (by rw[e];rfl)) hb le
 have h4:Sep B W (dobs B b c P s q og op++giOb B v L::l):=sep_perm h3 List.perm_middle.symm;obtain⟨h5,b5⟩:=sep_dbox (x':=dxOf c P {s with inp:=L} {q with iv:=v} og op) h4 v 24 (fun q=>q.iv _) (Nat.le_trans le hb.size);refine⟨⟨⟨{q with iv:=v},h5,a,cap,e1,LgIn.below ⟨e2,?_⟩ b5⟩,Nat.le_trans (Nat.le_trans le hb.size) b5.size⟩,b5⟩;rcases hv.rm with⟨a2,c2,f1,f2⟩
 rw[e1]at f1;injection f1 with f1 _ f3
 subst f1;subst f3;rcases f2 with f2|⟨b2,off2,f2,_⟩
 ·exact .inl f2
 ·refine .inr ⟨b2,off2,f2,fun hlt=>?_⟩;have:=hn b2 (by rw[e1,f2];rfl);omega
theorem DIo.rst {B:Nat}{W:World}{b:Nat}{c:Dc}{P:Pr}{s:Fm}{og op:Nat}{l:List Ob}(h:DIo B W b c P s og op l):DIo B (W.setCells b 27 [Value.int .i64 0,.int .u64 0,.int .i64 0,.int .i64 s.g,.int .i64 s.p]) b c P {s with e:=0,v:=0,f:=0} s.g s.p l∧Below B W (W.setCells b 27 [Value.int .i64 0,.int .u64 0,.int .i64 0,.int .i64 s.g,.int .i64 s.p])∧W.there b 27 5:=by
 obtain⟨⟨q,h1,ia,ic,e,h2⟩,le⟩:=h;have hb:DBx W b (dxOf c P s q og op):=h1.ins (dbOb b (dxOf c P s q og op)) (by simp[dobs]);have hk:=kp_setsZ W b [Value.int .i64 0,.int .u64 0,.int .i64 0,.int .i64 s.g,.int .i64 s.p] 27;have hb2:DBx (W.setCells b 27 [Value.int .i64 0,.int .u64 0,.int .i64 0,.int .i64 s.g,.int .i64 s.p]) b (dxOf c P {s with e:=0,v:=0,f:=0} q s.g s.p):=hb.out5 0 0 0 s.g s.p;have h3:=sep_change (l1:=[]) (o:=dbOb b (dxOf c P s q og op)) (o':=dbOb b (dxOf c P {s with e:=0,v:=0,f:=0} q s.g s.p)) h1 hb2 hk (fun _ r=>.inl r) le;have bb:=sep_below (l1:=[]) (o:=dbOb b (dxOf c P s q og op)) h1 hk le;exact⟨⟨⟨q,h3,ia,ic,e,h2.below bb⟩,Nat.le_trans le bb.size⟩,bb,fun j hj=>⟨by rw[hb.at_ (27+j) (by omega)];rfl,hb.fr _⟩⟩
theorem DIo.inv {B:Nat}{W:World}{b:Nat}{c:Dc}{P:Pr}{s:Fm}{og op:Nat}{l:List Ob}(h:DIo B W b c P s og op l):∃ia ic,W.cell? ⟨b,24,none⟩=some (.slice ia s.inp.length ic)∧(s.inp.length=0∨∃jb jo,ia=some ⟨jb,jo,none⟩∧WAtG W jb jo s.inp):=by
 obtain⟨⟨q,h1,ia,ic,e,h2⟩,le⟩:=h;have hb:DBx W b (dxOf c P s q og op):=h1.ins (dbOb b (dxOf c P s q og op)) (by simp[dobs]);have hgi:=h1.ins (giOb B q.iv s.inp) (by simp);refine⟨ia,ic,by rw[←e];exact hb.at_ 24 (by omega),?_⟩;rcases h2.2 with⟨_,h3⟩|⟨jb,jo,rfl,h3⟩
 ·have:=h2.1;exact .inl (by omega)
 ·refine .inr ⟨jb,jo,rfl,fun k hk=>?_⟩;by_cases hj:jb<B
  ·exact⟨(h3 hj).1,(h3 hj).2 k hk⟩
  ·obtain⟨g1,g2⟩:=hgi jb jo _ _ e (by omega);exact⟨g1,g2 k hk⟩
theorem DIo.ends {B:Nat}{W:World}{b:Nat}{c:Dc}{P:Pr}{s:Fm}{og op:Nat}{l:List Ob}(h:DIo B W b c P s og op l):W.cell? ⟨b,27,none⟩=some (.int .i64 s.e):=by
 obtain⟨q,hq⟩:=h.box;exact hq.at_ 27 (by omega)
def GvSrc (W:World)(va:Option Addr)(vc:Nat)(A:List Int):Prop:=(va=none∧vc=0∧A=[])∨∃b2 o2,va=some ⟨b2,o2,none⟩∧WAtG W b2 o2 A
theorem GvSrc.below {W W':World}{va:Option Addr}{vc:Nat}{A:List Int}(h:GvSrc W va vc A)(g:Below W.heap.size W W'):GvSrc W' va vc A:=by
 rcases h with h|⟨b2,o2,e,h⟩
 ·exact .inl h
 ·exact .inr ⟨b2,o2,e,fun k hk=>⟨Nat.lt_of_lt_of_le (h k hk).1 g.size,(T.cell_of_block (g.block b2 (h k hk).1) _).trans (h k hk).2⟩⟩
theorem gv_run {W:World}{va:Option Addr}{vc:Nat}{A:List Int}(h:GvSrc W va vc A)(v:Value)(L:List Int)(hv:IvIn W v L)(hl:L.length+A.length≤3000000)(ty:TypeId):∃v' w',(Builtin.append_ #[26,26] ty #[v,.slice va A.length vc]).run Tryz.prog W=.ok v' w'∧IvIn w' v' (L++A)∧Kp (fun k=>v.ownBlock=some k) W w'∧(∀k,v'.ownBlock=some k→v.ownBlock=some k∨W.heap.size≤k):=by
 rcases h with⟨rfl,rfl,rfl⟩|⟨b2,o2,rfl,h⟩
 ·exact⟨v,W,run_append_iv0 W v L hv ty,by rw[List.append_nil];exact hv,Kp.refl _ W,fun _ q=>.inl q⟩
 ·exact run_append_iv W v L A hv b2 o2 vc h hl ty
theorem giv_src {W:World}{ia:Option Addr}{ic:Nat}{L:List Int}(h:L.length=0∨∃jb jo,ia=some ⟨jb,jo,none⟩∧WAtG W jb jo L)(hn:∀a,ia=some a→∃jb jo,ia=some ⟨jb,jo,none⟩)(hc:ia=none→ic=0):GvSrc W ia ic L:=by
 rcases h with h|⟨jb,jo,e,h⟩
 ·cases ia with
  |none=>exact .inl ⟨rfl,hc rfl,List.eq_nil_of_length_eq_zero h⟩
  |some a=>
   obtain⟨jb,jo,e⟩:=hn a rfl;exact .inr ⟨jb,jo,e,fun k hk=>by omega⟩
 ·exact .inr ⟨jb,jo,e,h⟩
theorem DIo.inS {B:Nat}{W:World}{b:Nat}{c:Dc}{P:Pr}{s:Fm}{og op:Nat}{l:List Ob}(h:DIo B W b c P s og op l):∃ia ic,W.cell? ⟨b,24,none⟩=some (.slice ia s.inp.length ic)∧GvSrc W ia ic s.inp:=by
 obtain⟨ia,ic,h1,h2⟩:=h.inv;obtain⟨⟨q,h3,ia',ic',e,h4⟩,le⟩:=h;have hb:DBx W b (dxOf c P s q og op):=h3.ins (dbOb b (dxOf c P s q og op)) (by simp[dobs]);have e2:=(hb.at_ 24 (by omega)).symm.trans h1;rw[show(dxOf c P s q og op).at 24=q.iv from rfl,e]at e2;injection e2 with e2;injection e2 with e2 _ e3;subst e2;subst e3;refine⟨ia',ic',h1,giv_src h2 (fun a ea=>?_) (fun ea=>?_)⟩
 ·rcases h4.2 with⟨q1,_⟩|⟨jb,jo,q1,_⟩
  ·rw[q1]at ea
   cases ea
  ·exact⟨jb,jo,q1⟩
 ·rcases h4.2 with⟨_,q1⟩|⟨jb,jo,q1,_⟩
  ·exact q1
  ·rw[q1]at ea
   cases ea
theorem dgive_any (B:Nat)(W:World)(b:Nat)(c:Dc)(P:Pr)(s:Fm)(l:List Ob)(A:List Int)(va:Option Addr)(vc:Nat)(h:DIo B W b c P s s.g s.p l)(hA:GvSrc W va vc A)(hil:s.inp.length≤2500000)(hla:s.inp.length+A.length≤3000000):
 Calls Tryz.prog 60 #[.pointer (some ⟨b,0,none⟩),.slice va A.length vc] W fun x w'=>x=.returned (.tuple #[])∧DIo B w' b c P (giveM s A) s.g s.p l∧Below B W w':=by
 obtain⟨gv,hgv⟩:∃t,giveM s A=t:=⟨_,rfl⟩;rw[hgv];replace hgv:=ζ hgv;obtain⟨L2,hL2⟩:∃t,s.inp++A=t:=⟨_,rfl⟩;replace hil:=ζ hil;replace hla:=ζ hla;obtain⟨ia,ic,c24,hsrc⟩:=h.inS;replace hsrc:=ζ hsrc;replace h:=ζ h;replace hA:=ζ hA;go_enter Tryz.func60,Tryz.ntmps60;go_upto_region 1 with fail;refine wp_region_lit ?_;iterate 5 (refine xp fun K hK=>?_;go_simp;with_reducible refine hK _ _ ?_;clear hK K;(try simp only[xap]))
 refine xp fun K hK=>?_
 refine wp_append_iv _ _ rfl (.slice none 0 0) [] s.inp rfl (.slice ia s.inp.length ic) rfl (fun ty=>gv_run hsrc.out _ _ (iv_nil W) (by rw[List.length_nil];have:=hil.out;omega) ty) (fun v1 W1 hv1 hk1 hn1=>?_);refine hK _ _ ?_;clear hK K;try simp only[xap]
 refine xp fun K hK=>?_
 go_simp;with_reducible refine hK _ _ ?_
 clear hK K;try simp only[xap]
 have hb1:Hz (Below W.heap.size W W1):=ζ (hk1.below (Nat.le_refl _) (fun k q=>by simp[Value.ownBlock]at q));replace hn1:Hz (∀k,v1.ownBlock=some k→W.heap.size≤k):=ζ (fun k q=>(hn1 k q).elim (fun r=>by simp[Value.ownBlock]at r) (fun r=>r));replace hv1:Hz (IvIn W1 v1 s.inp):=ζ hv1;have hA1:=ζ (hA.out.below hb1.out);clear hk1 c24 hsrc;go_upto_region 2 with fail
 refine wp_region_lit ?_;iterate 2 (refine xp fun K hK=>?_;go_simp;with_reducible refine hK _ _ ?_;clear hK K;(try simp only[xap]))
 refine xp fun K hK=>?_
 refine wp_append_iv _ _ rfl v1 s.inp A rfl (.slice va A.length vc) rfl (fun ty=>gv_run hA1.out _ _ hv1.out hla.out ty) (fun v2 W2 hv2 hk2 hn2=>?_);refine hK _ _ ?_;clear hK K;try simp only[xap]
 refine xp fun K hK=>?_
 go_simp;with_reducible refine hK _ _ ?_
 clear hK K;try simp only[xap]
 have hb2:Hz (Below W.heap.size W W2):=ζ (hb1.out.trans (hk2.below hb1.out.size (fun k q=>hn1.out k q)));replace hn2:∀k,v2.ownBlock=some k→W.heap.size≤k:=fun k q=>(hn2 k q).elim (fun r=>hn1.out k r) (fun r=>Nat.le_trans hb1.out.size r)
 rw[hL2]at hv2;obtain⟨h3,b3⟩:=h.out.setIn hb2.out v2 _ hv2 hn2;have fr:W2.frozen? ⟨b,24,none⟩=false:=by
  obtain⟨q,hq⟩:=(h.out.gr hb2.out).box;exact hq.fr 24
 have c24:∃v,W2.cell? ⟨b,24,none⟩=some v:=by
  obtain⟨q,hq⟩:=(h.out.gr hb2.out).box;exact⟨_,hq.at_ 24 (by omega)⟩
 obtain⟨v24,c24⟩:=c24;obtain⟨a9,c9,e9,_,_⟩:=hv2.go;have G:=ζ (Below.trans (hb2.out.mono h.out.le) b3);replace h3:=ζ h3;clear hk2 hv1 hn1 hA1 hb1 hv2 b3;subst e9;obtain⟨nn,hnn⟩:∃n,L2.length=n:=⟨_,rfl⟩;rw[hnn]at h3 G ⊢;go_upto_region 4 with fail;refine wp_world (fun X=>DIo B X b c P {s with inp:=L2} s.g s.p l∧Below B W X) ⟨h3.out,G.out⟩ ?_;clear h3 G c24 fr;rintro W3 ⟨h3,G⟩;replace h3:=ζ h3;replace G:=ζ G;have c27:=h3.out.ends;rw[show({s with inp:=L2}:Fm).e=s.e from rfl]at c27;by_cases he:s.e=6
 ·by_cases hL:L2=[]
  ·have hL0:nn=0:=by rw[←hnn,hL];rfl
   have eg:Hz (gv={s with inp:=L2}):=ζ (by rw[←hgv.out];unfold giveM;rw[hL2,if_neg (fun q=>q.2 hL)]);rw[he]at c27;subst hL0;clear he hL hnn hn2;go_wp2_with fail
   first|go_end0|((try simp only[Exit.inBlock,Exit.then]);refine xre ?_)
   refine⟨rfl,?_,G.out⟩;rw[eg.out];exact h3.out
  ·have hL0:(0:Int)<(nn:Int):=by have:=List.length_pos_iff.2 hL;omega
   have eg:Hz (gv={s with inp:=L2,e:=0,v:=0,f:=0}):=ζ (by rw[←hgv.out];unfold giveM;rw[hL2,if_pos ⟨he,hL⟩]);rw[he]at c27;have g4:Gr W3 W3.drew:=(Gr.refl W3).drew;have h4:=h3.out.gr g4.below;have G4:=ζ (G.out.trans (g4.below.mono h3.out.le));obtain⟨h6,b6,t5⟩:=h4.rst;obtain⟨d4,d5,_⟩:=h4.hand;obtain⟨f4,f5,_⟩:=h6.hand;replace h6:=ζ h6;replace t5:=ζ t5;clear he h4 g4 hL hnn hn2;go_upto_region 5 with fail
   refine wp_region_held_drew (S:=(fun X=>X.cell? ⟨b,4,none⟩=some (.int .i64 s.g)∧X.cell? ⟨b,5,none⟩=some (.int .i64 s.p))) (by kernel_rfl) (⟨d4,d5⟩) (fun hHeld=>?_);refine xz 0 rfl (h:=xz 1 rfl (h:=xz 2 rfl (h:=xz 3 rfl (h:=xz 4 rfl (h:=xz 5 rfl (h:=xz 6 rfl (h:=xz 7 rfl (h:=xz 8 rfl (h:=xz 9 rfl (h:=xz 10 rfl (h:=xz 11 rfl (h:=?_))))))))))));try simp only[xap]
   refine xrd 12 rfl (fun K hK=>?_);rw[if_pos (by rfl)];refine wp_store_mid _ _ _ rfl _ _ (List.toArray _) rfl rfl (t5.out) (by kernel_rfl) (by simp[Value.oneCell']) ?_;refine hK.out _ _ (⟨f4,f5⟩) (fun hHeld=>?_);clear hK K;try simp only[Act.put]
   refine xdn ?_ _;clear hHeld d4 d5 f4 f5 t5 c27;replace G:=ζ (G4.out.trans b6);generalize World.setCells _ _ _ _=V12 at*;clear b6 G4;go_wp2_with fail
   first|go_end0|((try simp only[Exit.inBlock,Exit.then]);refine xre ?_)
   refine⟨rfl,?_,G.out⟩;rw[eg.out];exact h6.out
 ·have eg:Hz (gv={s with inp:=L2}):=ζ (by rw[←hgv.out];unfold giveM;rw[hL2,if_neg (fun q=>he q.1)]);have he2:(s.e==6)=false:=by simpa using he
  clear he hnn hn2;go_wp2_with fail
  first|go_end0|((try simp only[Exit.inBlock,Exit.then]);refine xre ?_)
  refine⟨rfl,?_,G.out⟩;rw[eg.out];exact h3.out
structure Pq where
 a:Nat
 b:Nat
 c:Dc
 P:Pr
 s:Fm
def Pq.st (p:Pq)(s:Fm):Pq:={p with s:=s}
def Prs (B:Nat)(W:World):List Pq→List Ob→Prop
 |[],L=>L=[]
 |p::r,L=>∃q q2 L',L=obs B p.a p.P p.s q++(dobs B p.b p.c p.P p.s q2 p.s.g p.s.p++giOb B q2.iv p.s.inp::L')∧(∃ia ic,q2.iv=.slice ia p.s.inp.length ic∧LgIn B W ia ic p.s.inp)∧Prs B W r L'
theorem Prs.below {B:Nat}{W W':World}(hb:Below B W W'):∀(m:List Pq) (L:List Ob),Prs B W m L→Prs B W' m L
 |[],_,h=>h
 |_::r,_,⟨q,q2,L',e,⟨ia,ic,e2,h2⟩,h3⟩=>⟨q,q2,L',e,⟨ia,ic,e2,h2.below hb⟩,Prs.below hb r L' h3⟩
theorem prs_swap (x y L:List Ob):(x++(y++L)).Perm (y++(x++L)):=List.perm_append_comm_assoc _ _ _
theorem Prs.perm {B:Nat}{W:World}{m m':List Pq}(h:m.Perm m'):∀L,Prs B W m L→∃L',Prs B W m' L'∧L.Perm L':=by
 induction h with
 |nil=>exact fun L h=>⟨L,h,.refl _⟩
 |cons x _ ih=>
  rintro L ⟨q,q2,L1,rfl,hi,h1⟩;obtain⟨L2,h2,h3⟩:=ih L1 h1;exact⟨_,⟨q,q2,L2,rfl,hi,h2⟩,List.Perm.append_left _ (List.Perm.append_left _ (List.Perm.cons _ h3))⟩
 |swap x y r=>
  rintro L ⟨q,q2,L1,rfl,hi,q',q2',L2,rfl,hi2,h2⟩;refine⟨_,⟨q',q2',_,rfl,hi2,q,q2,L2,rfl,hi,h2⟩,?_⟩;have:=prs_swap (obs B y.a y.P y.s q++(dobs B y.b y.c y.P y.s q2 y.s.g y.s.p++[giOb B q2.iv y.s.inp])) (obs B x.a x.P x.s q'++(dobs B x.b x.c x.P x.s q2' x.s.g x.s.p++[giOb B q2'.iv x.s.inp])) L2;simpa using this
 |trans _ _ ih1 ih2=>
  intro L h;obtain⟨L1,h1,p1⟩:=ih1 L h;obtain⟨L2,h2,p2⟩:=ih2 L1 h1;exact⟨L2,h2,p1.trans p2⟩
def PS (B:Nat)(W:World)(m:List Pq)(l:List Ob):Prop:=∃L,Prs B W m L∧Sep B W (L++l)∧B≤W.heap.size
section
variable {B:Nat} {W W':World} {m m':List Pq} {l l':List Ob}
theorem PS.perm (h:PS B W m l)(p:m.Perm m'):PS B W m' l:=by
 obtain⟨L,h1,h2,h3⟩:=h;obtain⟨L',h4,h5⟩:=h1.perm p;exact⟨L',h4,sep_perm h2 (List.Perm.append_right _ h5),h3⟩
theorem PS.permO (h:PS B W m l)(p:l.Perm l'):PS B W m l':=by
 obtain⟨L,h1,h2,h3⟩:=h;exact⟨L,h1,sep_perm h2 (List.Perm.append_left _ p),h3⟩
theorem PS.le (h:PS B W m l):B≤W.heap.size:=by
 obtain⟨L,h1,h2,h3⟩:=h;exact h3
theorem PS.gr (h:PS B W m l)(hb:Below W.heap.size W W'):PS B W' m l:=by
 obtain⟨L,h1,h2,h3⟩:=h;exact⟨L,h1.below (hb.mono h3) _ _,h2.gr hb,Nat.le_trans h3 hb.size⟩
theorem PS.there (h:PS B W m l)(o:Ob)(ho:o∈l):o.In W:=by
 obtain⟨L,h1,h2,h3⟩:=h;exact h2.ins o (by simp[ho])
theorem PS.add (h:PS B W m l)(o:Ob)(hi:o.In W')(hn:∀k,o.S k→W.heap.size≤k)(hb:Below W.heap.size W W'):PS B W' m (o::l):=by
 obtain⟨L,h1,h2,h3⟩:=h;exact⟨L,h1.below (hb.mono h3) _ _,sep_perm (h2.add o hi hn hb h3) List.perm_middle.symm,Nat.le_trans h3 hb.size⟩
theorem PS.new (h:PS B W m l)(cs:Array Value)(ty:TypeId):PS B (W.alloc (.cells cs ty)) m (boxOb W.heap.size cs::l)∧Below B W (W.alloc (.cells cs ty)):=by
 have hb:Below W.heap.size W (W.alloc (.cells cs ty)):=(Below.refl _ W).alloc (Nat.le_refl _) _;exact⟨h.add (boxOb W.heap.size cs) (At.new W cs ty) (fun k q=>by have:k=W.heap.size:=q;omega) hb,hb.mono h.le⟩
theorem PS.side {o o':Ob}(h:PS B W m (o::l))(hi:o'.In W')(hk:Kp o.S W W')(hn:∀k,o'.S k→o.S k∨W.heap.size≤k):PS B W' m (o'::l)∧Below B W W':=by
 obtain⟨L,h1,h2,h3⟩:=h;have hb:=sep_below (l1:=L) (o:=o) (l2:=l) h2 hk h3;exact⟨⟨L,h1.below hb _ _,sep_change (l1:=L) (o:=o) (o':=o') (l2:=l) h2 hi hk hn h3,Nat.le_trans h3 hk.size⟩,hb⟩
theorem PS.md {p:Pq}(h:PS B W (p::m) l):∃L,MD B W p.P p.a p.s p.b p.c p.s (L++l)∧∀W' s' l',MD B W' p.P p.a s' p.b p.c s' (L++l')→Below B W W'→PS B W' (p.st s'::m) l':=by
 obtain⟨L,⟨q,q2,L1,rfl,⟨ia,ic,e,hi⟩,h1⟩,h2,h3⟩:=h;refine⟨L1,⟨q,⟨q2,sep_perm h2 ?_,ia,ic,e,hi⟩,h3⟩,fun W' s' l' hM hb=>?_⟩
 ·have:=(gi_perm (dobs B p.b p.c p.P p.s q2 p.s.g p.s.p) (obs B p.a p.P p.s q) (L1++l) (giOb B q2.iv p.s.inp)).symm;simpa using this
 ·obtain⟨q',⟨q2',h4,ia',ic',e',hi'⟩,le'⟩:=hM;refine⟨_,⟨q',q2',L1,rfl,⟨ia',ic',e',hi'⟩,h1.below hb _ _⟩,sep_perm h4 ?_,le'⟩;have:=gi_perm (dobs B p.b p.c p.P s' q2' s'.g s'.p) (obs B p.a p.P s' q') (L1++l') (giOb B q2'.iv s'.inp);simpa [Pq.st]using this
theorem perm_at {α:Type}:∀(l:List α) (k:Nat) (hk:k<l.length),(l[k]::l.eraseIdx k).Perm l
 |_::_,0,_=>.refl _
 |x::r,k+1,hk=>(List.Perm.swap x (r[k]'(by simpa using hk)) (r.eraseIdx k)).trans (List.Perm.cons x (perm_at r k (by simpa using hk)))
theorem perm_set {α:Type}(a:α):∀(l:List α) (k:Nat) (_:k<l.length),(l.set k a).Perm (a::l.eraseIdx k)
 |_::_,0,_=>.refl _
 |x::r,k+1,hk=>(List.Perm.cons x (perm_set a r k (by simpa using hk))).trans (List.Perm.swap a x (r.eraseIdx k))
theorem PS.at (h:PS B W m l)(k:Nat)(hk:k<m.length):∃L,MD B W m[k].P m[k].a m[k].s m[k].b m[k].c m[k].s (L++l)∧∀W' s' l',MD B W' m[k].P m[k].a s' m[k].b m[k].c s' (L++l')→Below B W W'→PS B W' (m.set k (m[k].st s')) l':=by
 obtain⟨L,h1,h2⟩:=(h.perm (perm_at m k hk).symm).md;exact⟨L,h1,fun W' s' l' hM hb=>(h2 W' s' l' hM hb).perm (perm_set _ m k hk).symm⟩
theorem PS.more {p:Pq}(h:PS B W m l)(hM:MD B W' p.P p.a p.s p.b p.c p.s [snapOb B W])(hb:Below W.heap.size W W'):PS B W' (p::m) l:=by
 obtain⟨L,h1,h2,h3⟩:=h;obtain⟨q2,⟨⟨q,h4⟩,le⟩,ia,ic,e,hi⟩:=hM.asX;have h5:Sep B W' ((obs B p.a p.P p.s q++(dobs B p.b p.c p.P p.s q2 p.s.g p.s.p++[giOb B q2.iv p.s.inp]))++[snapOb B W]):=by simpa using h4
 have hd:=List.pairwise_append.1 h5.dis;refine⟨_,⟨q,q2,L,rfl,⟨ia,ic,e,hi⟩,h1.below (hb.mono h3) _ _⟩,?_,le⟩;have h6:Sep B W' (obs B p.a p.P p.s q++(dobs B p.b p.c p.P p.s q2 p.s.g p.s.p++[giOb B q2.iv p.s.inp])):=⟨fun o ho=>h5.ins o (List.mem_append_left _ ho),hd.1,fun o ho=>h5.ge o (List.mem_append_left _ ho)⟩;have h7:=sep_append h6 (h2.gr hb) (fun o ho o2 ho2 k r t=>by
  have h8:=h6.ge o ho k r;have h9:=o2.lt W (h2.ins o2 ho2) k t;exact hd.2.2 o ho (snapOb B W) (by simp) k r ⟨h8,h9⟩)
 simpa using h7
end
def CpSrc (W:World)(ta:Option Addr)(n k:Nat)(xs:List Value):Prop:=xs.length=n*k∧((ta=none∧n=0)∨∃g off,ta=some ⟨g,off,none⟩∧g<W.heap.size∧∀j u,xs[j]?=some u→W.cell? ⟨g,off+j,none⟩=some u)
theorem own_cps {W:World}{B e k n:Nat}{v:Value}{xs:List Value}(h:W.ownsRow B e k v n xs):∃ta tk,v=.slice ta n tk∧CpSrc W ta n k xs:=by
 have hlt:=h.lt;have hl:=h.1;rcases h.2 with⟨rfl,h9⟩|⟨g,cap,cur,rfl,hb,hg,hc1,hc2,hc3,hc4⟩
 ·subst h9;exact⟨none,0,rfl,by simpa using hl,.inl ⟨rfl,rfl⟩⟩
 ·refine⟨_,_,rfl,hl,.inr ⟨g,0,rfl,(hlt g rfl).2,fun j u q=>?_⟩⟩;rw[Nat.zero_add];have e2:W.cell? ⟨g,j,none⟩=cur[j]?:=by simp[World.cell?,hg]
  have hj:j<n*k:=by have:=(List.getElem?_eq_some_iff.1 q).1;omega
  rw[e2];rw[←hc4,List.getElem?_take_of_lt hj]at q;rw[←q];simp
theorem cp_run (t e:TypeId)(z:Value)(k bytes:Nat)(ht:Tryz.prog.underlying t=some (.slice e))(hi:(Tryz.prog.info? e).map (fun i=>(i.zero,i.size,i.bytes))=some (some z,k,bytes))(hz:z.cells.size=k)(hk:0<k)(hby:bytes≤256)(w:World)(sa:Option Addr)(n c:Nat)(xs:List Value)(hs:CpSrc w sa n k xs)(h1:∀u∈xs,u.oneCell'=true)(hn:n≤3000000)(ty:TypeId):
 ∃v w',(Builtin.append_ #[t,t] ty #[.slice none 0 0,.slice sa n c]).run Tryz.prog w=.ok v w'∧w'.ownsRow w.heap.size e k v n xs∧Below w.heap.size w w':=by
 obtain⟨i0,hi0,hz0,hz1,hz2⟩:=T.info_parts' hi;obtain⟨hl,hs⟩:=hs;rcases hs with⟨rfl,rfl⟩|⟨g,off,rfl,hg,hc⟩
 ·have hx:xs=[]:=List.eq_nil_of_length_eq_zero (by omega);subst hx;refine⟨.slice none 0 0,w,?_,World.ownsRow_nil _ _ _ _,Below.refl _ _⟩;simp[Builtin.append_,run_underlying ht,sizeOf,typeInfo,hi0,Builtin.lenOf,Builtin.firstCells]
 ·have hb:(0+n)*bytes≤140737488355328:=Nat.le_trans (Nat.mul_le_mul_left _ hby) (by omega);obtain⟨v',w',k1,k2,k3,_,_⟩:=run_append_own_at (P:=Tryz.prog) w w.heap.size t ty e i0 z k bytes ht hi0 hz0 hz1 hz2 hz hk (.slice none 0 0) 0 [] (World.ownsRow_nil _ _ _ _) ⟨g,off,none⟩ n c xs hl (fun j u q=>by rw[addr_addZ];exact hc j u q) h1 (by unfold maxLen;omega) hb (Nat.le_refl _);rw[Nat.zero_add,List.nil_append]at k2;exact⟨v',w',k1,k2,T.Below.of_grown k3 (Nat.le_refl _) (fun k r=>by simp[Value.ownBlock]at r)⟩
theorem wp_cp {o:Oper}{a:Act}{K:Act→World→Prop}{Q:Exit→Act→World→Prop}{w:World}(s x:Operand)(t:TypeId)(ho:o.op=.call {callee:=.builtin .append,args:=#[s,x],argTypes:=#[t,t]})(v:Value)(hs:a.eval s=v)(xv:Value)(hx:a.eval x=xv)(R:Value→World→Prop)
 (hrun:∀ty,∃v' w',(Builtin.append_ #[t,t] ty #[v,xv]).run Tryz.prog w=.ok v' w'∧R v' w')(h:∀v' w',R v' w'→K (a.put o.dst v') w'):o.wp Tryz.prog a w K Q:=by
 obtain⟨v',w',hr,h2⟩:=hrun o.type;unfold Oper.wp execOp;simp only[ho,resolve,invoke,builtin,Sem.run_bind,Sem.run_pure,Result.andThen_ok,List.map_toArray,List.map_cons,List.map_nil,hs,hx,hr];exact h v' w' h2
theorem mV_one (m:Nat→UInt8):∀u∈mV m,u.oneCell'=true:=fun u hu=>by
 obtain⟨y,_,rfl⟩:=List.mem_map.1 hu
 rfl
def dcV (p0 p1:Option Addr)(c1 c2 g1 g2:Nat)(pm:Value)(d:Int)(g p:Int)(r:Nat→Int)(e v f og op:Int):List Value:=[.slice p0 c1 c2,.slice p1 g1 g2,pm,.int .i64 d,.int .i64 g,.int .i64 p]++regs r++[.slice none 0 0,.slice none 0 0,.slice none 0 0,.slice none 0 0,.slice none 0 0,.int .i64 e,.int .u64 v,.int .i64 f,.int .i64 og,.int .i64 op]
theorem build_dc (p0 p1:Option Addr)(c1 c2 g1 g2:Nat)(mem:ByteArray)(d:Int)(g p:Int)(r:Nat→Int)(e v f og op:Int)(W:World):(Instr.build 96 #[(0,.agg (List.toArray [Value.slice p0 c1 c2,.slice p1 g1 g2,.string mem,.int .i64 d])),(1,.int .i64 g),(2,.int .i64 p),(3,.agg (regs r).toArray),(9,.agg (List.toArray [Value.int .i64 e,.int .u64 v,.int .i64 f,.int .i64 og,.int .i64 op]))]).run Tryz.prog W=.ok (.agg (dcV p0 p1 c1 c2 g1 g2 (.string mem) d g p r e v f og op).toArray) W:=by kernel_rfl
theorem yields_dc {ops:Array Oper}{S:World→Prop}{op:Oper}{a:Act}(hw:Region.wanted op (yielded ops a.tmps)=true)(x0 x1 x2 x3 x4:Operand)(ho:op.op=.build 96 #[(0,x0),(1,x1),(2,x2),(3,x3),(9,x4)])
 (p0 p1:Option Addr)(c1 c2 g1 g2:Nat)(mem:ByteArray)(d:Int)(g p:Int)(r:Nat→Int)(e v f og o5:Int)(h0:a.eval x0=.agg (List.toArray [Value.slice p0 c1 c2,.slice p1 g1 g2,.string mem,.int .i64 d]))(h1:a.eval x1=.int .i64 g)(h2:a.eval x2=.int .i64 p)(h3:a.eval x3=.agg (regs r).toArray)(h4:a.eval x4=.agg (List.toArray [Value.int .i64 e,.int .u64 v,.int .i64 f,.int .i64 og,.int .i64 o5])):
 YieldsIf Tryz.prog ops S op (.agg (dcV p0 p1 c1 c2 g1 g2 (.string mem) d g p r e v f og o5).toArray) a:=
 .inl ⟨hw,fun w _=>by
  unfold execOp;simp only[ho,List.map_toArray,List.map_cons,List.map_nil,h0,h1,h2,h3,h4,build_dc,Sem.run_bind,Sem.run_pure,Result.andThen_ok]⟩
def qNil:Dq:=⟨.slice none 0 0,.slice none 0 0,.slice none 0 0,.slice none 0 0,.slice none 0 0⟩
theorem dc_bx {W:World}{k:Nat}{c:Dc}{P:Pr}{s:Fm}(h:At W k (dcV c.ca c.ga P.code.length c.cc P.gates.length c.gc c.pm P.dep s.g s.p s.r s.e s.v s.f s.g s.p).toArray):DBx W k (dxOf c P s qNil s.g s.p):=by
 refine⟨h.1,fun j hj=>?_,h.2.2⟩;rw[h.2.1 j];unfold dcV;rw[regs_lit];rcases(by omega:j=0∨j=1∨j=2∨j=3∨j=4∨j=5∨j=6∨j=7∨j=8∨j=9∨j=10∨j=11∨j=12∨j=13∨j=14∨j=15∨j=16∨j=17∨j=18∨j=19∨j=20∨j=21∨j=22∨j=23∨j=24∨j=25∨j=26∨j=27∨j=28∨j=29∨j=30∨j=31)with rfl|rfl|rfl|rfl|rfl|rfl|rfl|rfl|rfl|rfl|rfl|rfl|rfl|rfl|rfl|rfl|rfl|rfl|rfl|rfl|rfl|rfl|rfl|rfl|rfl|rfl|rfl|rfl|rfl|rfl|rfl|rfl<;>rfl
theorem DIo.permO {B:Nat}{W:World}{b:Nat}{c:Dc}{P:Pr}{s:Fm}{og op:Nat}{l l':List Ob}(h:DIo B W b c P s og op l)(p:l.Perm l'):DIo B W b c P s og op l':=by
 obtain⟨⟨q,h1,r⟩,le⟩:=h;exact⟨⟨q,sep_perm h1 (List.Perm.append_left _ (List.Perm.cons _ p)),r⟩,le⟩
theorem DIo.cpy {B:Nat}{W W2:World}{b k:Nat}{c:Dc}{P:Pr}{s:Fm}{og op:Nat}{l:List Ob}{x x':Dx}(h:DIo B W b c P s og op (dbOb k x::l))(hb:Below W.heap.size W W2)(ro:Ob)(hro:ro.In W2)(hn:∀k,ro.S k→W.heap.size≤k)(v:Value)(j:Nat)(hx:DBx W2 k x→DBx (W2.setCell ⟨k,j,none⟩ v) k x'):
 DIo B (W2.setCell ⟨k,j,none⟩ v) b c P s og op (dbOb k x'::ro::l)∧Below B W (W2.setCell ⟨k,j,none⟩ v):=by
 have h1:=(h.add ro hro hn hb).permO (List.Perm.swap _ _ _);have hk:Kp (dbOb k x).S W2 (W2.setCell ⟨k,j,none⟩ v):=Kp.set (S:=fun b=>b=k) W2 ⟨k,j,none⟩ v rfl;obtain⟨h2,b2⟩:=h1.side (o':=dbOb k x') (hx (h1.there (dbOb k x) (by simp))) hk (fun _ r=>.inl r);exact⟨h2,(hb.mono h.le).trans b2⟩
theorem DIo.srcs {B:Nat}{W:World}{b:Nat}{c:Dc}{P:Pr}{s:Fm}{og op:Nat}{l:List Ob}(h:DIo B W b c P s og op l):(∃ta tk,W.cell? ⟨b,22,none⟩=some (.slice ta s.st.length tk)∧CpSrc W ta s.st.length 18 (s.st.flatMap Fr.vals))∧(∃ta tk,W.cell? ⟨b,23,none⟩=some (.slice ta 65536 tk)∧CpSrc W ta 65536 1 (mV s.m))∧(∃ta tk,W.cell? ⟨b,25,none⟩=some (.slice ta s.out.length tk)∧CpSrc W ta s.out.length 1 (s.out.map u64I))∧∃ta tk,W.cell? ⟨b,26,none⟩=some (.slice ta s.tc.length tk)∧CpSrc W ta s.tc.length 3 (s.tc.flatMap Tc.vals):=by
 obtain⟨⟨q,h1,_⟩,_⟩:=h;have hb:=h1.ins (dbOb b (dxOf c P s q og op)) (by simp[dobs]);obtain⟨a1,c1,e1,f1⟩:=own_cps (show W.ownsRow B 144 18 q.sv s.st.length (s.st.flatMap Fr.vals)from h1.ins (rowOb B 144 18 q.sv s.st.length (s.st.flatMap Fr.vals)) (by simp[dobs]));obtain⟨a2,c2,e2,f2⟩:=own_cps (show W.ownsRow B 5 1 q.mv 65536 (mV s.m)from h1.ins (rowOb B 5 1 q.mv 65536 (mV s.m)) (by simp[dobs]));obtain⟨a3,c3,e3,f3⟩:=own_cps (show W.ownsRow B 51 1 q.ov_ s.out.length (s.out.map u64I)from h1.ins (ouOb B q.ov_ s.out) (by simp[dobs]));obtain⟨a4,c4,e4,f4⟩:=own_cps (show W.ownsRow B 67 3 q.tv s.tc.length (s.tc.flatMap Tc.vals)from h1.ins (tcOb B q.tv s.tc) (by simp[dobs]));exact⟨⟨a1,c1,by rw[←e1];exact hb.at_ 22 (by omega),f1⟩,⟨a2,c2,by rw[←e2];exact hb.at_ 23 (by omega),f2⟩,⟨a3,c3,by rw[←e3];exact hb.at_ 25 (by omega),f3⟩,a4,c4,by rw[←e4];exact hb.at_ 26 (by omega),f4⟩
theorem DIo.head {B:Nat}{W:World}{b:Nat}{c:Dc}{P:Pr}{s:Fm}{og op:Nat}{l:List Ob}(h:DIo B W b c P s og op l)(V:World)(g:Gr W V):V.rangeAt b 0 [Value.slice c.ca P.code.length c.cc,.slice c.ga P.gates.length c.gc,c.pm,.int .i64 P.dep]∧V.cell? ⟨b,4,none⟩=some (.int .i64 s.g)∧V.cell? ⟨b,5,none⟩=some (.int .i64 s.p)∧V.rangeAt b 6 (regs s.r)∧V.rangeAt b 27 [Value.int .i64 s.e,.int .u64 s.v,.int .i64 s.f,.int .i64 og,.int .i64 op]:=by
 have h1:=h.gr g.below;obtain⟨q,hq⟩:=h1.box;obtain⟨d4,d5,d6⟩:=h1.hand;refine⟨fun j u e=>?_,d4,d5,d6,fun j u e=>?_⟩
 ·have hj:j<4:=(List.getElem?_eq_some_iff.1 e).1;rw[Nat.zero_add];rcases(by omega:j=0∨j=1∨j=2∨j=3)with rfl|rfl|rfl|rfl
  all_goals (injection e with e;subst e)
  ·exact hq.at_ 0 (by omega)
  ·exact hq.at_ 1 (by omega)
  ·exact hq.at_ 2 (by omega)
  ·exact hq.at_ 3 (by omega)
 ·have hj:j<5:=(List.getElem?_eq_some_iff.1 e).1;rcases(by omega:j=0∨j=1∨j=2∨j=3∨j=4)with rfl|rfl|rfl|rfl|rfl
  all_goals (injection e with e;subst e)
  ·exact hq.at_ 27 (by omega)
  ·exact hq.at_ 28 (by omega)
  ·exact hq.at_ 29 (by omega)
  ·exact hq.at_ 30 (by omega)
  ·exact hq.at_ 31 (by omega)
theorem row_ob {B e k n:Nat}{W W2:World}{v:Value}{xs:List Value}(h:W2.ownsRow W.heap.size e k v n xs)(hB:B≤W.heap.size):(rowOb B e k v n xs).In W2∧∀j,(rowOb B e k v n xs).S j→W.heap.size≤j:=⟨own_monoZ h hB,fun j r=>(h.lt j r).1⟩
theorem gi_of {B:Nat}{W0 W:World}{v:Value}{L:List Int}(hv:IvIn W v L)(hn:∀k,v.ownBlock=some k→W0.heap.size≤k)(hB:B≤W0.heap.size):(giOb B v L).In W∧(∀j,(giOb B v L).S j→W0.heap.size≤j)∧∃a c,v=.slice a L.length c∧LgIn B W a c L:=by
 obtain⟨a,cap,e1,e2,e3⟩:=hv.go;refine⟨fun k off n c2 e _=>?_,fun j r=>?_,a,cap,e1,e2,?_⟩
 ·have hk:v.ownBlock=some k:=by rw[e];rfl
  refine⟨hv.lt k hk,fun i hi=>?_⟩;rcases e3 with e3|⟨b3,off3,rfl,e3⟩
  ·omega
  ·rw[e1]at e;injection e with e _ _
   injection e with e
   injection e with ea eb _
   subst ea;subst eb;exact e3 i hi
 ·obtain⟨_,off,n,c2,e⟩:=r;exact hn j (by rw[e];rfl)
 ·rcases hv.rm with⟨a2,c2,f1,f2⟩;rw[e1]at f1;injection f1 with f1 _ f3;subst f1;subst f3;rcases f2 with f2|⟨b2,off2,f2,_⟩
  ·exact .inl f2
  ·refine .inr ⟨b2,off2,f2,fun hlt=>?_⟩;have:=hn b2 (by rw[e1,f2];rfl);omega
theorem perm5 {α:Type}(t o g m s:α):[t,o,g,m,s].Perm [s,m,o,t,g]:=by
 have h:=List.Perm.map (fun n:Nat=>if n=0 then t else if n=1 then o else if n=2 then g else if n=3 then m else s) (show([0,1,2,3,4]:List Nat).Perm [4,3,1,0,2]from by decide);simpa using h
theorem dcopy_any (B:Nat)(W:World)(b:Nat)(c:Dc)(P:Pr)(s:Fm)(l:List Ob)(mem:ByteArray)(hpm:c.pm=.string mem)(h:DIo B W b c P s s.g s.p l)(hst:s.st.length≤3000000)(hil:s.inp.length≤2500000)(hol:s.out.length≤3000000)(htl:s.tc.length≤3000000):
 Calls Tryz.prog 8 #[.pointer (some ⟨b,0,none⟩)] W fun x w'=>∃k q,x=.returned (.pointer (some ⟨k,0,none⟩))∧DIo B w' b c P s s.g s.p (dobs B k c P s q s.g s.p++giOb B q.iv s.inp::l)∧(∃ia ic,q.iv=.slice ia s.inp.length ic∧LgIn B w' ia ic s.inp)∧Below B W w':=by
 obtain⟨q0,hq0⟩:=h.box;have hbW:Hz (b<W.heap.size):=ζ hq0.lt;clear hq0;have KS:Hz (∀V,Gr W V→V.rangeAt b 0 [Value.slice c.ca P.code.length c.cc,.slice c.ga P.gates.length c.gc,.string mem,.int .i64 P.dep]∧V.cell? ⟨b,4,none⟩=some (.int .i64 s.g)∧V.cell? ⟨b,5,none⟩=some (.int .i64 s.p)∧V.rangeAt b 6 (regs s.r)∧V.rangeAt b 27 [Value.int .i64 s.e,.int .u64 s.v,.int .i64 s.f,.int .i64 s.g,.int .i64 s.p]):=ζ (fun V g=>by have:=h.head V g;rw[hpm]at this;exact this);have hleW:=ζ h.le;replace h:=ζ h;replace hst:=ζ hst;replace hil:=ζ hil;replace hol:=ζ hol;replace htl:=ζ htl;have g0:Hz (Gr W W.drew):=ζ ((Gr.refl W).drew);have g1:Hz (Gr W (W.drew.alloc (.cells (dcV c.ca c.ga P.code.length c.cc P.gates.length c.gc (.string mem) P.dep s.g s.p s.r s.e s.v s.f s.g s.p).toArray 96))):=ζ (g0.out.alloc _);go_enter Tryz.func8,Tryz.ntmps8;go_upto_region 1 with fail;refine wp_region_held_drew (S:=(fun X=>X.rangeAt b 0 [Value.slice c.ca P.code.length c.cc,.slice c.ga P.gates.length c.gc,.string mem,.int .i64 P.dep]∧X.cell? ⟨b,4,none⟩=some (.int .i64 s.g)∧X.cell? ⟨b,5,none⟩=some (.int .i64 s.p)∧X.rangeAt b 6 (regs s.r)∧X.rangeAt b 27 [Value.int .i64 s.e,.int .u64 s.v,.int .i64 s.f,.int .i64 s.g,.int .i64 s.p])) (by kernel_rfl) (KS.out _ g0.out) (fun hHeld=>?_)
 refine xz 0 rfl (h:=xz 1 rfl (h:=xz 2 rfl (h:=?_)));try simp only[xap]
 refine xtk 3 rfl (yieldsIf_load_mid (by rfl) _ _ rfl _ _ rfl _ _ (fun _ h=>h.1) Tryz.underlying25 rfl (by kernel_rfl)) ?_;try simp only[xap]
 refine xz 4 rfl (h:=xz 5 rfl (h:=xz 6 rfl (h:=xz 7 rfl (h:=xz 8 rfl (h:=xz 9 rfl (h:=xz 10 rfl (h:=xz 11 rfl (h:=xz 12 rfl (h:=xz 13 rfl (h:=xz 14 rfl (h:=?_)))))))))));try simp only[xap]
 refine xtk 15 rfl (yieldsIf_load_mid (by rfl) _ _ rfl _ _ rfl _ _ (fun _ h=>h.2.2.2.1) Tryz.underlying68 rfl (by rw[regs_len];kernel_rfl)) ?_;try simp only[xap]
 refine xz 16 rfl (h:=xz 17 rfl (h:=xz 18 rfl (h:=?_)));try simp only[xap]
 refine xtk 19 rfl (yieldsIf_load_mid (by rfl) _ _ rfl _ _ rfl _ _ (fun _ h=>h.2.2.2.2) Tryz.underlying62 rfl (by kernel_rfl)) ?_;try simp only[xap]
 refine xtk 20 rfl (yields_dc (by rfl) _ _ _ _ _ rfl c.ca c.ga P.code.length c.cc P.gates.length c.gc mem P.dep s.g s.p s.r s.e s.v s.f s.g s.p (by rfl) (by rfl) (by rfl) (by rfl) (by rfl)) ?_;try simp only[xap]
 refine xrd 21 rfl (fun K hK=>?_);go_simp;clear hHeld;refine hK.out _ _ (KS.out _ g1.out) (fun hHeld=>?_);clear hK K;try simp only[xap]
 refine xz 22 rfl (h:=?_);try simp only[xap]
 refine xdn ?_ _;clear hHeld;go_upto_region 2 with fail
 refine wp_world (fun X=>∃k,k=W.heap.size∧DIo B X b c P s s.g s.p (dbOb k (dxOf c P s qNil s.g s.p)::l)∧Below B W X) ⟨_,rfl,(h.out.gr g0.out.below).add (dbOb W.heap.size (dxOf c P s qNil s.g s.p)) (dc_bx (by rw[hpm];exact At.new W.drew _ _)) (fun k q=>by have:k=W.heap.size:=q;rw[this];exact g0.out.below.size) ((Below.refl _ _).alloc (Nat.le_refl _) _),g1.out.below.mono h.out.le⟩ ?_;clear KS g0 g1 h;rintro V1 ⟨k,hk,h,G⟩;have hkB:Hz (B≤k):=ζ (by rw[hk];exact hleW.out);have hkb:Hz (k≠b):=ζ (by have:=hbW.out;omega);rw[←hk];clear hk hbW;replace h:=ζ h;replace G:=ζ G;have gd:Gr V1 V1.drew:=(Gr.refl V1).drew;have hd:=h.out.gr gd.below;have hgd:Hz (Below B V1 V1.drew):=ζ (gd.below.mono h.out.le);obtain⟨⟨xa,xc,xj,hsr⟩,_⟩:=hd.srcs;obtain⟨q9,hq9⟩:=hd.box;have hbl:Hz (b<V1.drew.heap.size):=ζ hq9.lt;have hyk:Hz (DBx V1.drew k (dxOf c P s qNil s.g s.p)):=ζ (hd.there (dbOb k (dxOf c P s qNil s.g s.p)) (by simp))
 replace h:=ζ hd;replace hsr:=ζ hsr;clear hd gd hq9;go_upto_region 2 with fail
 refine wp_region_held_drew (S:=(fun X=>X.cell? ⟨b,22,none⟩=some (.slice xa s.st.length xc))) (by kernel_rfl) (xj) (fun hHeld=>?_);refine xz 0 rfl (h:=xz 1 rfl (h:=xz 2 rfl (h:=xz 3 rfl (h:=xz 5 rfl (h:=xz 6 rfl (h:=xz 7 rfl (h:=xz 8 rfl (h:=?_))))))));try simp only[xap]
 refine xrd 4 rfl (fun K hK=>?_);have y4:V1.drew.cell? ⟨k,22,none⟩=some (.slice none 0 0):=hyk.out.at_ 22 (by omega);go_simp;clear hHeld y4;refine hK.out _ _ xj (fun hHeld=>?_);clear hK K;try simp only[xap]
 refine xrd 9 rfl (fun K hK=>?_);rw[if_pos (by rfl)];refine wp_cp _ _ 93 rfl (.slice none 0 0) rfl (.slice xa s.st.length xc) rfl (fun v' w'=>w'.ownsRow V1.drew.heap.size 144 18 v' s.st.length (s.st.flatMap Fr.vals)∧Below V1.drew.heap.size V1.drew w') (fun ty=>by obtain⟨v1,w1,r1,r2,r3⟩:=cp_run 93 144 (.agg #[.int .i64 0,.int .i64 0,.int .u64 0,.int .u64 0,.int .u64 0,.int .u64 0,.int .u64 0,.int .u64 0,.int .u64 0,.int .u64 0,.int .u64 0,.int .u64 0,.int .u64 0,.int .u64 0,.int .u64 0,.int .u64 0,.int .u64 0,.int .u64 0]) 18 144 Tryz.underlying93 (by kernel_rfl) (by kernel_rfl) (by decide) (by decide) V1.drew xa s.st.length xc (s.st.flatMap Fr.vals) hsr.out (fr_one _) hst.out ty;exact⟨v1,w1,r1,r2,r3⟩) (fun v2 W2 hR=>?_);obtain⟨ho,hb⟩:=hR;obtain⟨va2,vc2,rfl⟩:=own_slZ ho;clear hHeld;have xj2:W2.cell? ⟨b,22,none⟩=some (.slice xa s.st.length xc):=(T.cell_of_block (hb.block b hbl.out) _).trans xj
 obtain⟨ro1,ro2⟩:=row_ob (B:=B) ho h.out.le;obtain⟨h2,b2⟩:=h.out.cpy (x':=dxOf c P s ⟨(.slice va2 s.st.length vc2),.slice none 0 0,.slice none 0 0,.slice none 0 0,.slice none 0 0⟩ s.g s.p) hb (rowOb B 144 18 (.slice va2 s.st.length vc2) s.st.length (s.st.flatMap Fr.vals)) ro1 ro2 (.slice va2 s.st.length vc2) 22 (fun q=>q.sv _);have hyw:DBx W2 k (dxOf c P s qNil s.g s.p):=(h.out.gr hb).there (dbOb k (dxOf c P s qNil s.g s.p)) (by simp);have hf2:=hyw.fr 22;have hl2:=hyw.lt;have cy2:W2.cell? ⟨k,22,none⟩=some (.slice none 0 0):=hyw.at_ 22 (by omega);have xj3:(W2.setCell ⟨k,22,none⟩ (.slice va2 s.st.length vc2)).cell? ⟨b,22,none⟩=some (.slice xa s.st.length xc):=(T.cell_of_block ((Kp.set (S:=fun x=>x=k) W2 ⟨k,22,none⟩ (.slice va2 s.st.length vc2) rfl).block b (Nat.lt_of_lt_of_le hbl.out hb.size) (fun e=>hkb.out e.symm)) _).trans xj2;replace h2:=ζ h2;replace b2:=ζ b2;clear ho ro1 ro2 hyw;refine hK.out _ _ xj2 (fun hHeld=>?_)
 clear hK K;try simp only[xap]
 refine xz 10 rfl (h:=xz 11 rfl (h:=?_));try simp only[xap]
 refine xrd 12 rfl (fun K hK=>?_);go_simp;clear hHeld;refine hK.out _ _ xj3 (fun hHeld=>?_);clear hK K;try simp only[xap]
 refine xdn ?_ _;clear hHeld;replace G:=ζ (G.out.trans (hgd.out.trans b2.out));replace h:=h2;generalize World.setCell _ _ _=V2 at*;clear xj xj2 xj3 hsr hbl hyk hgd h2 b2 hb hf2 hl2 cy2 q9 W2;have gd:Gr V2 V2.drew:=(Gr.refl V2).drew;have hd:=h.out.gr gd.below;have hgd:Hz (Below B V2 V2.drew):=ζ (gd.below.mono h.out.le);obtain⟨_,⟨xa,xc,xj,hsr⟩,_⟩:=hd.srcs;obtain⟨q9,hq9⟩:=hd.box;have hbl:Hz (b<V2.drew.heap.size):=ζ hq9.lt;have hyk:Hz (DBx V2.drew k (dxOf c P s ⟨(.slice va2 s.st.length vc2),.slice none 0 0,.slice none 0 0,.slice none 0 0,.slice none 0 0⟩ s.g s.p)):=ζ (hd.there (dbOb k (dxOf c P s ⟨(.slice va2 s.st.length vc2),.slice none 0 0,.slice none 0 0,.slice none 0 0,.slice none 0 0⟩ s.g s.p)) (by simp));replace h:=ζ hd;replace hsr:=ζ hsr;clear hd gd hq9;go_upto_region 3 with fail
 refine wp_region_held_drew (S:=(fun X=>X.cell? ⟨b,23,none⟩=some (.slice xa 65536 xc))) (by kernel_rfl) (xj) (fun hHeld=>?_);refine xz 0 rfl (h:=xz 1 rfl (h:=xz 2 rfl (h:=xz 3 rfl (h:=xz 5 rfl (h:=xz 6 rfl (h:=xz 7 rfl (h:=xz 8 rfl (h:=?_))))))));try simp only[xap]
 refine xrd 4 rfl (fun K hK=>?_);have y4:V2.drew.cell? ⟨k,23,none⟩=some (.slice none 0 0):=hyk.out.at_ 23 (by omega);go_simp;clear hHeld y4;refine hK.out _ _ xj (fun hHeld=>?_);clear hK K;try simp only[xap]
 refine xrd 9 rfl (fun K hK=>?_);rw[if_pos (by rfl)];refine wp_cp _ _ 94 rfl (.slice none 0 0) rfl (.slice xa 65536 xc) rfl (fun v' w'=>w'.ownsRow V2.drew.heap.size 5 1 v' 65536 (mV s.m)∧Below V2.drew.heap.size V2.drew w') (fun ty=>by obtain⟨v1,w1,r1,r2,r3⟩:=cp_run 94 5 (.int .u8 0) 1 1 Tryz.underlying94 (by kernel_rfl) (by kernel_rfl) (by decide) (by decide) V2.drew xa 65536 xc (mV s.m) hsr.out (mV_one _) (by decide) ty;exact⟨v1,w1,r1,r2,r3⟩) (fun v3 W2 hR=>?_);obtain⟨ho,hb⟩:=hR;obtain⟨va3,vc3,rfl⟩:=own_slZ ho;clear hHeld;have xj2:W2.cell? ⟨b,23,none⟩=some (.slice xa 65536 xc):=(T.cell_of_block (hb.block b hbl.out) _).trans xj;obtain⟨ro1,ro2⟩:=row_ob (B:=B) ho h.out.le;obtain⟨h2,b2⟩:=h.out.cpy (x':=dxOf c P s ⟨(.slice va2 s.st.length vc2),(.slice va3 65536 vc3),.slice none 0 0,.slice none 0 0,.slice none 0 0⟩ s.g s.p) hb (rowOb B 5 1 (.slice va3 65536 vc3) 65536 (mV s.m)) ro1 ro2 (.slice va3 65536 vc3) 23 (fun q=>q.mv _)
 have hyw:DBx W2 k (dxOf c P s ⟨(.slice va2 s.st.length vc2),.slice none 0 0,.slice none 0 0,.slice none 0 0,.slice none 0 0⟩ s.g s.p):=(h.out.gr hb).there (dbOb k (dxOf c P s ⟨(.slice va2 s.st.length vc2),.slice none 0 0,.slice none 0 0,.slice none 0 0,.slice none 0 0⟩ s.g s.p)) (by simp);have hf2:=hyw.fr 23;have hl2:=hyw.lt;have cy2:W2.cell? ⟨k,23,none⟩=some (.slice none 0 0):=hyw.at_ 23 (by omega);have xj3:(W2.setCell ⟨k,23,none⟩ (.slice va3 65536 vc3)).cell? ⟨b,23,none⟩=some (.slice xa 65536 xc):=(T.cell_of_block ((Kp.set (S:=fun x=>x=k) W2 ⟨k,23,none⟩ (.slice va3 65536 vc3) rfl).block b (Nat.lt_of_lt_of_le hbl.out hb.size) (fun e=>hkb.out e.symm)) _).trans xj2;replace h2:=ζ h2;replace b2:=ζ b2;clear ho ro1 ro2 hyw;refine hK.out _ _ xj2 (fun hHeld=>?_);clear hK K;try simp only[xap]
 refine xz 10 rfl (h:=xz 11 rfl (h:=?_));try simp only[xap]
 refine xrd 12 rfl (fun K hK=>?_);go_simp;clear hHeld;refine hK.out _ _ xj3 (fun hHeld=>?_);clear hK K;try simp only[xap]
 refine xdn ?_ _;clear hHeld;replace G:=ζ (G.out.trans (hgd.out.trans b2.out));replace h:=h2;generalize World.setCell _ _ _=V3 at*;clear xj xj2 xj3 hsr hbl hyk hgd h2 b2 hb hf2 hl2 cy2 q9 W2;have gd:Gr V3 V3.drew:=(Gr.refl V3).drew;have hd:=h.out.gr gd.below;have hgd:Hz (Below B V3 V3.drew):=ζ (gd.below.mono h.out.le);obtain⟨xa,xc,xj,hsr⟩:=hd.inS;obtain⟨q9,hq9⟩:=hd.box;have hbl:Hz (b<V3.drew.heap.size):=ζ hq9.lt;have hyk:Hz (DBx V3.drew k (dxOf c P s ⟨(.slice va2 s.st.length vc2),(.slice va3 65536 vc3),.slice none 0 0,.slice none 0 0,.slice none 0 0⟩ s.g s.p)):=ζ (hd.there (dbOb k (dxOf c P s ⟨(.slice va2 s.st.length vc2),(.slice va3 65536 vc3),.slice none 0 0,.slice none 0 0,.slice none 0 0⟩ s.g s.p)) (by simp));replace h:=ζ hd;replace hsr:=ζ hsr;clear hd gd hq9;go_upto_region 4 with fail
 refine wp_region_held_drew (S:=(fun X=>X.cell? ⟨b,24,none⟩=some (.slice xa s.inp.length xc))) (by kernel_rfl) (xj) (fun hHeld=>?_);refine xz 0 rfl (h:=xz 1 rfl (h:=xz 2 rfl (h:=xz 3 rfl (h:=xz 5 rfl (h:=xz 6 rfl (h:=xz 7 rfl (h:=xz 8 rfl (h:=?_))))))));try simp only[xap]
 refine xrd 4 rfl (fun K hK=>?_);have y4:V3.drew.cell? ⟨k,24,none⟩=some (.slice none 0 0):=hyk.out.at_ 24 (by omega);go_simp;clear hHeld y4;refine hK.out _ _ xj (fun hHeld=>?_);clear hK K;try simp only[xap]
 refine xrd 9 rfl (fun K hK=>?_);rw[if_pos (by rfl)];refine wp_cp _ _ 26 rfl (.slice none 0 0) rfl (.slice xa s.inp.length xc) rfl (fun v' w'=>IvIn w' v' s.inp∧Below V3.drew.heap.size V3.drew w'∧∀k,v'.ownBlock=some k→V3.drew.heap.size≤k) (fun ty=>by obtain⟨v1,w1,r1,r2,r3,r4⟩:=gv_run hsr.out (.slice none 0 0) [] (iv_nil V3.drew) (by rw[List.length_nil];have:=hil.out;omega) ty;exact⟨v1,w1,r1,r2,r3.below (Nat.le_refl _) (fun k q=>by simp[Value.ownBlock]at q),fun k q=>(r4 k q).elim (fun r=>by simp[Value.ownBlock]at r) (fun r=>r)⟩) (fun v4 W2 hR=>?_);obtain⟨ho,hb,hn⟩:=hR;obtain⟨va4,vc4,rfl, -, -⟩:=ho.go;clear hHeld;have xj2:W2.cell? ⟨b,24,none⟩=some (.slice xa s.inp.length xc):=(T.cell_of_block (hb.block b hbl.out) _).trans xj;obtain⟨ro1,ro2,lgi⟩:=gi_of (B:=B) ho hn h.out.le;replace lgi:=ζ lgi;obtain⟨h2,b2⟩:=h.out.cpy (x':=dxOf c P s ⟨(.slice va2 s.st.length vc2),(.slice va3 65536 vc3),(.slice va4 s.inp.length vc4),.slice none 0 0,.slice none 0 0⟩ s.g s.p) hb (giOb B (.slice va4 s.inp.length vc4) s.inp) ro1 ro2 (.slice va4 s.inp.length vc4) 24 (fun q=>q.iv _)
 have hyw:DBx W2 k (dxOf c P s ⟨(.slice va2 s.st.length vc2),(.slice va3 65536 vc3),.slice none 0 0,.slice none 0 0,.slice none 0 0⟩ s.g s.p):=(h.out.gr hb).there (dbOb k (dxOf c P s ⟨(.slice va2 s.st.length vc2),(.slice va3 65536 vc3),.slice none 0 0,.slice none 0 0,.slice none 0 0⟩ s.g s.p)) (by simp);have hf2:=hyw.fr 24;have hl2:=hyw.lt;have cy2:W2.cell? ⟨k,24,none⟩=some (.slice none 0 0):=hyw.at_ 24 (by omega);have xj3:(W2.setCell ⟨k,24,none⟩ (.slice va4 s.inp.length vc4)).cell? ⟨b,24,none⟩=some (.slice xa s.inp.length xc):=(T.cell_of_block ((Kp.set (S:=fun x=>x=k) W2 ⟨k,24,none⟩ (.slice va4 s.inp.length vc4) rfl).block b (Nat.lt_of_lt_of_le hbl.out hb.size) (fun e=>hkb.out e.symm)) _).trans xj2;replace h2:=ζ h2;replace b2:=ζ b2;clear ho ro1 ro2 hyw;refine hK.out _ _ xj2 (fun hHeld=>?_);clear hK K;try simp only[xap]
 refine xz 10 rfl (h:=xz 11 rfl (h:=?_));try simp only[xap]
 refine xrd 12 rfl (fun K hK=>?_);go_simp;clear hHeld;refine hK.out _ _ xj3 (fun hHeld=>?_);clear hK K;try simp only[xap]
 refine xdn ?_ _;clear hHeld;replace G:=ζ (G.out.trans (hgd.out.trans b2.out));have sbl:Hz (Below B W2 (W2.setCell ⟨k,24,none⟩ (.slice va4 s.inp.length vc4))):=ζ ((Kp.set (S:=fun x=>x=k) W2 ⟨k,24,none⟩ (.slice va4 s.inp.length vc4) rfl).below (Nat.le_trans h.out.le hb.size) (fun x (e:x=k)=>by rw[e];exact hkB.out));replace lgi:Hz (∃a c,(.slice va4 s.inp.length vc4)=Value.slice a s.inp.length c∧LgIn B (W2.setCell ⟨k,24,none⟩ (.slice va4 s.inp.length vc4)) a c s.inp):=ζ (by obtain⟨a9,c9,e9,h9⟩:=lgi.out;exact⟨a9,c9,e9,h9.below (sbl.out)⟩);replace h:=h2;generalize World.setCell _ _ _=V4 at*;clear xj xj2 xj3 hsr hbl hyk hgd h2 b2 hb hf2 hl2 cy2 q9 W2 sbl hn;have gd:Gr V4 V4.drew:=(Gr.refl V4).drew;have hd:=h.out.gr gd.below;have hgd:Hz (Below B V4 V4.drew):=ζ (gd.below.mono h.out.le);obtain⟨_,_,⟨xa,xc,xj,hsr⟩,_⟩:=hd.srcs;obtain⟨q9,hq9⟩:=hd.box;have hbl:Hz (b<V4.drew.heap.size):=ζ hq9.lt;have hyk:Hz (DBx V4.drew k (dxOf c P s ⟨(.slice va2 s.st.length vc2),(.slice va3 65536 vc3),(.slice va4 s.inp.length vc4),.slice none 0 0,.slice none 0 0⟩ s.g s.p)):=ζ (hd.there (dbOb k (dxOf c P s ⟨(.slice va2 s.st.length vc2),(.slice va3 65536 vc3),(.slice va4 s.inp.length vc4),.slice none 0 0,.slice none 0 0⟩ s.g s.p)) (by simp))
 replace h:=ζ hd;replace hsr:=ζ hsr;clear hd gd hq9;go_upto_region 5 with fail
 refine wp_region_held_drew (S:=(fun X=>X.cell? ⟨b,25,none⟩=some (.slice xa s.out.length xc))) (by kernel_rfl) (xj) (fun hHeld=>?_);refine xz 0 rfl (h:=xz 1 rfl (h:=xz 2 rfl (h:=xz 3 rfl (h:=xz 5 rfl (h:=xz 6 rfl (h:=xz 7 rfl (h:=xz 8 rfl (h:=?_))))))));try simp only[xap]
 refine xrd 4 rfl (fun K hK=>?_);have y4:V4.drew.cell? ⟨k,25,none⟩=some (.slice none 0 0):=hyk.out.at_ 25 (by omega);go_simp;clear hHeld y4;refine hK.out _ _ xj (fun hHeld=>?_);clear hK K;try simp only[xap]
 refine xrd 9 rfl (fun K hK=>?_);rw[if_pos (by rfl)];refine wp_cp _ _ 26 rfl (.slice none 0 0) rfl (.slice xa s.out.length xc) rfl (fun v' w'=>w'.ownsRow V4.drew.heap.size 51 1 v' s.out.length (s.out.map u64I)∧Below V4.drew.heap.size V4.drew w') (fun ty=>by obtain⟨v1,w1,r1,r2,r3⟩:=cp_run 26 51 (.int .u64 0) 1 8 Tryz.underlying26 (by kernel_rfl) (by kernel_rfl) (by decide) (by decide) V4.drew xa s.out.length xc (s.out.map u64I) hsr.out (u64_one _) hol.out ty;exact⟨v1,w1,r1,r2,r3⟩) (fun v5 W2 hR=>?_);obtain⟨ho,hb⟩:=hR;obtain⟨va5,vc5,rfl⟩:=own_slZ ho;clear hHeld;have xj2:W2.cell? ⟨b,25,none⟩=some (.slice xa s.out.length xc):=(T.cell_of_block (hb.block b hbl.out) _).trans xj;obtain⟨ro1,ro2⟩:=row_ob (B:=B) ho h.out.le;obtain⟨h2,b2⟩:=h.out.cpy (x':=dxOf c P s ⟨(.slice va2 s.st.length vc2),(.slice va3 65536 vc3),(.slice va4 s.inp.length vc4),(.slice va5 s.out.length vc5),.slice none 0 0⟩ s.g s.p) hb (ouOb B (.slice va5 s.out.length vc5) s.out) ro1 ro2 (.slice va5 s.out.length vc5) 25 (fun q=>q.ov_ _)
 have hyw:DBx W2 k (dxOf c P s ⟨(.slice va2 s.st.length vc2),(.slice va3 65536 vc3),(.slice va4 s.inp.length vc4),.slice none 0 0,.slice none 0 0⟩ s.g s.p):=(h.out.gr hb).there (dbOb k (dxOf c P s ⟨(.slice va2 s.st.length vc2),(.slice va3 65536 vc3),(.slice va4 s.inp.length vc4),.slice none 0 0,.slice none 0 0⟩ s.g s.p)) (by simp);have hf2:=hyw.fr 25;have hl2:=hyw.lt;have cy2:W2.cell? ⟨k,25,none⟩=some (.slice none 0 0):=hyw.at_ 25 (by omega);have xj3:(W2.setCell ⟨k,25,none⟩ (.slice va5 s.out.length vc5)).cell? ⟨b,25,none⟩=some (.slice xa s.out.length xc):=(T.cell_of_block ((Kp.set (S:=fun x=>x=k) W2 ⟨k,25,none⟩ (.slice va5 s.out.length vc5) rfl).block b (Nat.lt_of_lt_of_le hbl.out hb.size) (fun e=>hkb.out e.symm)) _).trans xj2;replace h2:=ζ h2;replace b2:=ζ b2;clear ho ro1 ro2 hyw;refine hK.out _ _ xj2 (fun hHeld=>?_);clear hK K;try simp only[xap]
 refine xz 10 rfl (h:=xz 11 rfl (h:=?_));try simp only[xap]
 refine xrd 12 rfl (fun K hK=>?_);go_simp;clear hHeld;refine hK.out _ _ xj3 (fun hHeld=>?_);clear hK K;try simp only[xap]
 refine xdn ?_ _;clear hHeld;replace G:=ζ (G.out.trans (hgd.out.trans b2.out));replace lgi:Hz (∃a c,(.slice va4 s.inp.length vc4)=Value.slice a s.inp.length c∧LgIn B (W2.setCell ⟨k,25,none⟩ (.slice va5 s.out.length vc5)) a c s.inp):=ζ (by obtain⟨a9,c9,e9,h9⟩:=lgi.out;exact⟨a9,c9,e9,h9.below (hgd.out.trans b2.out)⟩);replace h:=h2;generalize World.setCell _ _ _=V5 at*;clear xj xj2 xj3 hsr hbl hyk hgd h2 b2 hb hf2 hl2 cy2 q9 W2;have gd:Gr V5 V5.drew:=(Gr.refl V5).drew;have hd:=h.out.gr gd.below;have hgd:Hz (Below B V5 V5.drew):=ζ (gd.below.mono h.out.le);obtain⟨_,_,_,xa,xc,xj,hsr⟩:=hd.srcs;obtain⟨q9,hq9⟩:=hd.box;have hbl:Hz (b<V5.drew.heap.size):=ζ hq9.lt;have hyk:Hz (DBx V5.drew k (dxOf c P s ⟨(.slice va2 s.st.length vc2),(.slice va3 65536 vc3),(.slice va4 s.inp.length vc4),(.slice va5 s.out.length vc5),.slice none 0 0⟩ s.g s.p)):=ζ (hd.there (dbOb k (dxOf c P s ⟨(.slice va2 s.st.length vc2),(.slice va3 65536 vc3),(.slice va4 s.inp.length vc4),(.slice va5 s.out.length vc5),.slice none 0 0⟩ s.g s.p)) (by simp))
 replace h:=ζ hd;replace hsr:=ζ hsr;clear hd gd hq9;go_upto_region 6 with fail
 refine wp_region_held_drew (S:=(fun X=>X.cell? ⟨b,26,none⟩=some (.slice xa s.tc.length xc))) (by kernel_rfl) (xj) (fun hHeld=>?_);refine xz 0 rfl (h:=xz 1 rfl (h:=xz 2 rfl (h:=xz 3 rfl (h:=xz 5 rfl (h:=xz 6 rfl (h:=xz 7 rfl (h:=xz 8 rfl (h:=?_))))))));try simp only[xap]
 refine xrd 4 rfl (fun K hK=>?_);have y4:V5.drew.cell? ⟨k,26,none⟩=some (.slice none 0 0):=hyk.out.at_ 26 (by omega);go_simp;clear hHeld y4;refine hK.out _ _ xj (fun hHeld=>?_);clear hK K;try simp only[xap]
 refine xrd 9 rfl (fun K hK=>?_);rw[if_pos (by rfl)];refine wp_cp _ _ 64 rfl (.slice none 0 0) rfl (.slice xa s.tc.length xc) rfl (fun v' w'=>w'.ownsRow V5.drew.heap.size 67 3 v' s.tc.length (s.tc.flatMap Tc.vals)∧Below V5.drew.heap.size V5.drew w') (fun ty=>by obtain⟨v1,w1,r1,r2,r3⟩:=cp_run 64 67 (.agg #[.bool false,.int .u64 0,.int .u64 0]) 3 24 Tryz.underlying64 (by kernel_rfl) (by kernel_rfl) (by decide) (by decide) V5.drew xa s.tc.length xc (s.tc.flatMap Tc.vals) hsr.out (tc_one _) htl.out ty;exact⟨v1,w1,r1,r2,r3⟩) (fun v6 W2 hR=>?_);obtain⟨ho,hb⟩:=hR;obtain⟨va6,vc6,rfl⟩:=own_slZ ho;clear hHeld;have xj2:W2.cell? ⟨b,26,none⟩=some (.slice xa s.tc.length xc):=(T.cell_of_block (hb.block b hbl.out) _).trans xj;obtain⟨ro1,ro2⟩:=row_ob (B:=B) ho h.out.le;obtain⟨h2,b2⟩:=h.out.cpy (x':=dxOf c P s ⟨(.slice va2 s.st.length vc2),(.slice va3 65536 vc3),(.slice va4 s.inp.length vc4),(.slice va5 s.out.length vc5),(.slice va6 s.tc.length vc6)⟩ s.g s.p) hb (tcOb B (.slice va6 s.tc.length vc6) s.tc) ro1 ro2 (.slice va6 s.tc.length vc6) 26 (fun q=>q.tv _)
 have hyw:DBx W2 k (dxOf c P s ⟨(.slice va2 s.st.length vc2),(.slice va3 65536 vc3),(.slice va4 s.inp.length vc4),(.slice va5 s.out.length vc5),.slice none 0 0⟩ s.g s.p):=(h.out.gr hb).there (dbOb k (dxOf c P s ⟨(.slice va2 s.st.length vc2),(.slice va3 65536 vc3),(.slice va4 s.inp.length vc4),(.slice va5 s.out.length vc5),.slice none 0 0⟩ s.g s.p)) (by simp);have hf2:=hyw.fr 26;have hl2:=hyw.lt;have cy2:W2.cell? ⟨k,26,none⟩=some (.slice none 0 0):=hyw.at_ 26 (by omega);have xj3:(W2.setCell ⟨k,26,none⟩ (.slice va6 s.tc.length vc6)).cell? ⟨b,26,none⟩=some (.slice xa s.tc.length xc):=(T.cell_of_block ((Kp.set (S:=fun x=>x=k) W2 ⟨k,26,none⟩ (.slice va6 s.tc.length vc6) rfl).block b (Nat.lt_of_lt_of_le hbl.out hb.size) (fun e=>hkb.out e.symm)) _).trans xj2;replace h2:=ζ h2;replace b2:=ζ b2;clear ho ro1 ro2 hyw;refine hK.out _ _ xj2 (fun hHeld=>?_);clear hK K;try simp only[xap]
 refine xz 10 rfl (h:=xz 11 rfl (h:=?_));try simp only[xap]
 refine xrd 12 rfl (fun K hK=>?_);go_simp;clear hHeld;refine hK.out _ _ xj3 (fun hHeld=>?_);clear hK K;try simp only[xap]
 refine xdn ?_ _;clear hHeld;replace G:=ζ (G.out.trans (hgd.out.trans b2.out));replace lgi:Hz (∃a c,(.slice va4 s.inp.length vc4)=Value.slice a s.inp.length c∧LgIn B (W2.setCell ⟨k,26,none⟩ (.slice va6 s.tc.length vc6)) a c s.inp):=ζ (by obtain⟨a9,c9,e9,h9⟩:=lgi.out;exact⟨a9,c9,e9,h9.below (hgd.out.trans b2.out)⟩);replace h:=h2;generalize World.setCell _ _ _=V6 at*;clear xj xj2 xj3 hsr hbl hyk hgd h2 b2 hb hf2 hl2 cy2 q9 W2;go_wp2_with fail;go_ret;refine⟨k,⟨.slice va2 s.st.length vc2,.slice va3 65536 vc3,.slice va4 s.inp.length vc4,.slice va5 s.out.length vc5,.slice va6 s.tc.length vc6⟩,rfl,h.out.permO ?_,lgi.out,G.out⟩;exact List.Perm.cons _ (List.Perm.append_right l (perm5 _ _ _ _ _))
end Z
namespace B
open Go.RowKit
theorem news_at {w:World}{X:Nat}{cs:List Value}(h:At w X cs.toArray):∀j u,cs[j]?=some u→w.cell? ((⟨X,0,none⟩:Addr).add j)=some u:=by
 intro j u hj;have ea:(⟨X,0,none⟩:Addr).add j=⟨X,j,none⟩:=by by_cases h0:j=0<;>simp[Addr.add,h0]
 rw[ea,h.2.1];simpa using hj
theorem row_cell {w:World}{base e size g c n:Nat}{xs:List Value}(h:w.ownsRow base e size (.slice (some ⟨g,0,none⟩) n c) n xs)(j:Nat)(v:Value)(hj:xs[j]?=some v):w.cell? ⟨g,j,none⟩=some v:=by
 have hc:=World.ownsRow.cells h (g:=g) rfl j v hj;have ea:(⟨g,0,none⟩:Addr).add j=⟨g,j,none⟩:=by by_cases h0:j=0<;>simp[Addr.add,h0]
 rwa [ea]at hc
def mks (mv:List Value)(n:Nat):List Value:=(List.replicate n mv).flatten
theorem mks_len (mv:List Value)(n:Nat):(mks mv n).length=n*mv.length:=by
 unfold mks
 induction n with
 |zero=>simp
 |succ n ih=>rw[List.replicate_succ,List.flatten_cons,List.length_append,ih,Nat.add_mul];omega
theorem mks_add (mv:List Value)(n m:Nat):mks mv (n+m)=mks mv n++mks mv m:=by
 unfold mks;rw[←List.replicate_append_replicate,List.flatten_append]
theorem mks_at (mv:List Value):∀(n q j:Nat),q<n→j<mv.length→(mks mv n)[q*mv.length+j]?=mv[j]?
 |n+1,0,j,_,hj=>by
  unfold mks;rw[List.replicate_succ,List.flatten_cons,Nat.zero_mul,Nat.zero_add,List.getElem?_append_left hj]
 |n+1,q+1,j,hq,hj=>by
  have:=mks_at mv n q j (by omega) hj;unfold mks at this ⊢;rw[List.replicate_succ,List.flatten_cons,List.getElem?_append_right (by rw[Nat.add_mul];omega),show(q+1)*mv.length+j - mv.length=q*mv.length+j by rw[Nat.add_mul];omega];exact this
theorem mks_one (mv:List Value)(n:Nat)(h:∀u∈mv,u.oneCell'=true):∀u∈mks mv n,u.oneCell'=true:=by
 intro u hu;unfold mks at hu;obtain⟨l,hl,hu⟩:=List.mem_flatten.1 hu;rw[(List.mem_replicate.1 hl).2]at hu;exact h u hu
def Mine (mv:List Value)(w w':World):Prop:=∀b q,(∀j,j<mv.length→w.cell? ⟨b,q*mv.length+j,none⟩=mv[j]?)→∀j,j<mv.length→w'.cell? ⟨b,q*mv.length+j,none⟩=mv[j]?
theorem cell_blk {w w':World}{k:Nat}(h:w'.heap[k]?=w.heap[k]?)(o:Nat):w'.cell? ⟨k,o,none⟩=w.cell? ⟨k,o,none⟩:=World.cell?_of_block (a:=⟨k,o,none⟩) h
theorem cell_ltB {mv:List Value}(h0:0<mv.length){w:World}{b q:Nat}(h:∀j,j<mv.length→w.cell? ⟨b,q*mv.length+j,none⟩=mv[j]?):b<w.heap.size:=by
 have:=h 0 h0;rw[List.getElem?_eq_getElem h0]at this;exact World.block_lt_of_cell? w ⟨b,q*mv.length+0,none⟩ this
theorem cell_row (w:World)(g o:Nat)(cur:Array Value)(e:TypeId)(fr:Nat×Nat)(h:w.heap[g]?=some (.cells cur e fr)):w.cell? ⟨g,o,none⟩=cur[o]?:=by
 simp[World.cell?,h]
theorem run_append_m (mv:List Value)(w:World)(t ty:TypeId)(base:Nat)(e:TypeId)(i:TypeInfo)(z:Value)(bytes:Nat)(ht:Tryz.prog.underlying t=some (.slice e))(hi:Tryz.prog.info? e=some i)(hz:i.zero=some z)
 (hsize:i.size=mv.length)(hby:i.bytes=bytes)(hzs:z.cells.size=mv.length)(hsz:0<mv.length)(h1:∀u∈mv,u.oneCell'=true)
 (v:Value)(n:Nat)(hown:w.ownsRow base e mv.length v n (mks mv n))(X m c:Nat)(hX:At w X (mks mv m).toArray)
 (hm:0<m)(h63:n+m≤maxLen)(hbytes:(n+m)*bytes≤140737488355328)(hbase:base≤w.heap.size):
 ∃g cap w',(Builtin.append_ #[t,t] ty #[v,.slice (some ⟨X,0,none⟩) m c]).run Tryz.prog w=.ok (.slice (some ⟨g,0,none⟩) (n+m) cap) w'∧
  w'.ownsRow base e mv.length (.slice (some ⟨g,0,none⟩) (n+m) cap) (n+m) (mks mv (n+m))∧w.grownBy w' v.ownBlock∧(v.ownBlock=some g∨g=w.heap.size)∧g<w'.heap.size∧Mine mv w w'∧(∀k cur,v.ownBlock=some k→w.heap[k]?=some (.cells cur e (0,0))→∃cur',w'.heap[k]?=some (.cells cur' e (0,0))∧cur'.size=cur.size):=by
 have hl:(mks mv m).length=m*mv.length:=mks_len mv m;have hnews:=news_at hX;have h1':=mks_one mv m h1;obtain⟨g,cap',w',hr,h2,h3,h4,h5⟩:=run_append_lies (P:=Tryz.prog) w t ty base e i z mv.length bytes ht hi hz hsize hby hzs hsz v n (mks mv n) hown ⟨X,0,none⟩ m c (mks mv m) hl hnews h1' hm h63 hbytes hbase _ rfl;rw[←mks_add]at h2;refine⟨g,cap',w',hr,h2,h3,h4,h5,fun b q k j hj=>?_,fun k cur0 hv hk0=>?_⟩;rotate_left
 ·rcases hown.2 with⟨rfl,_⟩|⟨g',cap,cur,rfl,hbg,hg,hnc,hcm,hcs,htake⟩
  ·cases hv
  ·have hv':g'=k:=by simpa [Value.ownBlock]using hv
   subst hv';rw[hg]at hk0
   cases hk0
   by_cases hroom:n+m≤cap
   ·have hfit:n*i.size+(mks mv m).length≤cur0.size:=by rw[hl,hcs,hsize,←Nat.add_mul];exact Nat.mul_le_mul_right _ hroom
    have hrr:=run_append_room (P:=Tryz.prog) w t ty e i ht hi g' n cap cur0 hg ⟨X,0,none⟩ m c (mks mv m) (by rw[hsize];exact hl) hnews h1' hroom hfit;have e2:=(Result.ok.inj (hr.symm.trans hrr)).2;subst e2;refine⟨_,setRow_heap w g' cur0 _ e _ hg,?_⟩;simp only[List.size_toArray,List.length_append,List.length_take,List.length_drop,Array.length_toList];omega
   ·have holds:∀j u,(mks mv n)[j]?=some u→w.cell? ((⟨g',0,none⟩:Addr).add j)=some u:=World.ownsRow.cells hown (g:=g') rfl;have hrr:=run_append_grow (P:=Tryz.prog) w t ty e i z ht hi hz ⟨g',0,none⟩ n cap (mks mv n) (by rw[hsize];exact mks_len mv n) holds ⟨X,0,none⟩ m c (mks mv m) (by rw[hsize];exact hl) hnews (by omega) (by simp only[maxLen]at h63;omega) (by rw[hby];exact growslice_fits (by omega) hbytes);have e2:=(Result.ok.inj (hr.symm.trans hrr)).2;subst e2;exact⟨cur0,(heap_alloc_old w.drew _ (Array.getElem?_eq_some_iff.1 hg).1).trans hg,rfl⟩
 have hbl:=cell_ltB hsz k;by_cases hv:v.ownBlock=some b
 ·rcases hown.2 with⟨rfl,_⟩|⟨g',cap,cur,rfl,hbg,hg,hnc,hcm,hcs,htake⟩
  ·cases hv
  ·have hv':g'=b:=by simpa [Value.ownBlock]using hv
   subst hv';by_cases hroom:n+m≤cap
   ·have hfit:n*i.size+(mks mv m).length≤cur.size:=by rw[hl,hcs,hsize,←Nat.add_mul];exact Nat.mul_le_mul_right _ hroom
    have hrr:=run_append_room (P:=Tryz.prog) w t ty e i ht hi g' n cap cur hg ⟨X,0,none⟩ m c (mks mv m) (by rw[hsize];exact hl) hnews h1' hroom hfit;have e2:=(Result.ok.inj (hr.symm.trans hrr)).2;subst e2;have hsr:=setRow_heap w g' cur (cur.toList.take (n*i.size)++mks mv m++cur.toList.drop (n*i.size+(mks mv m).length)).toArray e _ hg;have kj:=k j hj;rw[cell_row w g' _ cur _ _ hg]at kj;rw[cell_row _ g' _ _ _ _ hsr,List.getElem?_toArray,hsize];have hlt:(cur.toList.take (n*mv.length)).length=n*mv.length:=by
     have h9:cur.toList.length=cap*mv.length:=(Array.length_toList (xs:=cur)).trans hcs;rw[List.length_take,h9];exact Nat.min_eq_left (Nat.mul_le_mul_right _ hnc)
    have hq1:∀a b:Nat,a<b→a*mv.length+mv.length≤b*mv.length:=fun a b h=>by
     have:(a+1)*mv.length≤b*mv.length:=Nat.mul_le_mul_right _ h
     rwa [Nat.add_mul,Nat.one_mul]at this
    by_cases c1:q<n
    ·have:=hq1 q n c1;rw[List.append_assoc,List.getElem?_append_left (by omega),List.getElem?_take_of_lt (by omega)];simpa using kj
    ·have hge:n*mv.length≤q*mv.length:=Nat.mul_le_mul_right _ (by omega);rw[List.append_assoc,List.getElem?_append_right (by omega),hlt];by_cases c2:q<n+m
     ·have e3:q*mv.length+j - n*mv.length=(q - n)*mv.length+j:=by rw[Nat.sub_mul];omega
      have:=hq1 (q - n) m (by omega);rw[e3,List.getElem?_append_left (by rw[hl];omega)];exact mks_at mv m (q - n) j (by omega) hj
     ·have hge2:(n+m)*mv.length≤q*mv.length:=Nat.mul_le_mul_right _ (by omega);rw[Nat.add_mul]at hge2;rw[List.getElem?_append_right (by rw[hl];omega),List.getElem?_drop,hl];have e3:n*mv.length+m*mv.length+(q*mv.length+j - n*mv.length - m*mv.length)=q*mv.length+j:=by omega
      rw[e3];simpa using kj
   ·have holds:∀j u,(mks mv n)[j]?=some u→w.cell? ((⟨g',0,none⟩:Addr).add j)=some u:=World.ownsRow.cells hown (g:=g') rfl;have hrr:=run_append_grow (P:=Tryz.prog) w t ty e i z ht hi hz ⟨g',0,none⟩ n cap (mks mv n) (by rw[hsize];exact mks_len mv n) holds ⟨X,0,none⟩ m c (mks mv m) (by rw[hsize];exact hl) hnews (by omega) (by simp only[maxLen]at h63;omega) (by rw[hby];exact growslice_fits (by omega) hbytes);have e2:=(Result.ok.inj (hr.symm.trans hrr)).2;subst e2;rw[cell_blk (heap_alloc_old w.drew _ hbl)];exact k j hj
 ·rw[cell_blk (h3.block b hbl (fun q=>hv q.symm))];exact k j hj
theorem wp_append_m {o:Oper}{a:Act}{K:Act→World→Prop}{Q:Exit→Act→World→Prop}{w:World}(mv:List Value)(s x:Operand)(t e:TypeId)(z:Value)(bytes:Nat)
 (ho:o.op=.call {callee:=.builtin .append,args:=#[s,x],argTypes:=#[t,t]})(ht:Tryz.prog.underlying t=some (.slice e))
 (hi:(Tryz.prog.info? e).map (fun i=>(i.zero,i.size,i.bytes))=some (some z,mv.length,bytes))(hzs:z.cells.size=mv.length)(hsz:0<mv.length)(h1:∀u∈mv,u.oneCell'=true)
 (base:Nat)(v:Value)(n:Nat)(hs:a.eval s=v)(hown:w.ownsRow base e mv.length v n (mks mv n))(X m c:Nat)(hx:a.eval x=.slice (some ⟨X,0,none⟩) m c)(hX:At w X (mks mv m).toArray)
 (hm:0<m)(h63:n+m≤maxLen)(hbytes:(n+m)*bytes≤140737488355328)(hbase:base≤w.heap.size)
 (h:∀g cap w',w'.ownsRow base e mv.length (.slice (some ⟨g,0,none⟩) (n+m) cap) (n+m) (mks mv (n+m))→w.grownBy w' v.ownBlock→(v.ownBlock=some g∨g=w.heap.size)→g<w'.heap.size→Mine mv w w'→(∀k cur,v.ownBlock=some k→w.heap[k]?=some (.cells cur e (0,0))→∃cur',w'.heap[k]?=some (.cells cur' e (0,0))∧cur'.size=cur.size)→K (a.put o.dst (.slice (some ⟨g,0,none⟩) (n+m) cap)) w'):o.wp Tryz.prog a w K Q:=by
 obtain⟨i0,hi0,hz0,hz1,hz2⟩:=T.info_parts' hi;obtain⟨g,c',w',hr,k1,k2,k3,k4,k5,k6⟩:=run_append_m mv w t o.type base e i0 z bytes ht hi0 hz0 hz1 hz2 hzs hsz h1 v n hown X m c hX hm h63 hbytes hbase;unfold Oper.wp execOp;simp only[ho,resolve,invoke,builtin,Sem.run_bind,Sem.run_pure,Result.andThen_ok,List.map_toArray,List.map_cons,List.map_nil,hs,hx,hr];exact h g c' w' k1 k2 k3 k4 k5 k6
theorem own_of_cells {mv:List Value}{W:World}{lo e n c g:Nat}(h:∃xs,W.ownsRow lo e mv.length (.slice (some ⟨g,0,none⟩) n c) n xs)(hc:∀q,q<n→∀j,j<mv.length→W.cell? ⟨g,q*mv.length+j,none⟩=mv[j]?)(h0:0<mv.length):W.ownsRow lo e mv.length (.slice (some ⟨g,0,none⟩) n c) n (mks mv n):=by
 obtain⟨xs,h⟩:=h;have e:xs=mks mv n:=by
  apply List.ext_getElem?;intro o;by_cases ho:o<n*mv.length
  ·have en:o=o/mv.length*mv.length+o%mv.length:=by
    have:=Nat.div_add_mod o mv.length;rw[Nat.mul_comm]at this;omega
   have hd:o/mv.length<n:=by rw[Nat.div_lt_iff_lt_mul h0];exact ho
   have hm:=Nat.mod_lt o h0;have hx:o<xs.length:=by rw[h.1];exact ho
   have q1:=row_cell h o xs[o] (List.getElem?_eq_getElem hx);have q2:=hc _ hd _ hm;rw[←en,q1]at q2;rw[en,mks_at mv n _ _ hd hm,←q2,←en,List.getElem?_eq_getElem hx]
  ·rw[List.getElem?_eq_none (by rw[h.1];omega),List.getElem?_eq_none (by rw[mks_len];omega)]
 rw[←e];exact h
theorem own_marks {mv:List Value}{W:World}{lo e n c g:Nat}(h:W.ownsRow lo e mv.length (.slice (some ⟨g,0,none⟩) n c) n (mks mv n)):∀q,q<n→∀j,j<mv.length→W.cell? ⟨g,q*mv.length+j,none⟩=mv[j]?:=fun q hq j hj=>by
 have hs:=mks_at mv n q j hq hj;rw[List.getElem?_eq_getElem hj]at hs ⊢;exact row_cell h _ _ hs
theorem own_shape {W W':World}{lo e s n:Nat}{v:Value}{xs:List Value}(h:W.ownsRow lo e s v n xs)(hs:∀k cur,v.ownBlock=some k→W.heap[k]?=some (.cells cur e (0,0))→∃cur',W'.heap[k]?=some (.cells cur' e (0,0))∧cur'.size=cur.size):∃xs',W'.ownsRow lo e s v n xs':=by
 rcases h.2 with⟨rfl,rfl⟩|⟨g,cap,cur,rfl,hb,hg,hn,hc,hz,ht⟩
 ·exact⟨[],by simp,.inl ⟨rfl,rfl⟩⟩
 ·obtain⟨cur',q1,q2⟩:=hs g cur rfl hg;refine⟨cur'.toList.take (n*s),?_,.inr ⟨g,cap,cur',rfl,hb,q1,hn,hc,q2.trans hz,rfl⟩⟩;have h9:cur'.toList.length=cap*s:=((Array.length_toList (xs:=cur')).trans q2).trans hz;rw[List.length_take,h9];exact Nat.min_eq_left (Nat.mul_le_mul_right _ hn)
theorem own_mine {mv:List Value}(h0:0<mv.length){W W':World}{lo e n:Nat}{v:Value}(h:W.ownsRow lo e mv.length v n (mks mv n))(hm:Mine mv W W')(hs:∀k cur,v.ownBlock=some k→W.heap[k]?=some (.cells cur e (0,0))→∃cur',W'.heap[k]?=some (.cells cur' e (0,0))∧cur'.size=cur.size):W'.ownsRow lo e mv.length v n (mks mv n):=by
 have h2:=own_shape h hs;rcases h.2 with⟨rfl,rfl⟩|⟨g,cap,cur,rfl,_⟩
 ·exact⟨by simp[mks],.inl ⟨rfl,rfl⟩⟩
 ·exact own_of_cells h2 (fun q hq=>hm g q (own_marks h q hq)) h0
end B
namespace Z
open Go.RowKit
open T (Sep Ob Kp Mf FlIn boxOb)
open B (mks mks_len mks_at mks_one Mine own_of_cells cell_row own_mine wp_append_m)
theorem set_self (w:World)(b o:Nat)(v:Value)(h:w.cell? ⟨b,o,none⟩=some v):w.setCell ⟨b,o,none⟩ v=w:=by
 have hb:b<w.heap.size:=World.block_lt_of_cell? w ⟨b,o,none⟩ h;have hg:w.heap[b]?=some w.heap[b]:=Array.getElem?_eq_getElem hb;have hh:(w.setCell ⟨b,o,none⟩ v).heap=w.heap:=by
  unfold World.setCell;apply Array.ext
  ·simp
  ·intro i h1 h2;simp only[Array.getElem_modify]
   split
   ·rename_i hi
    subst hi
    cases hc:w.heap[b]with
    |cells c el fr=>
     have hcv:c[o]?=some v:=by
      rw[hc]at hg;simpa [World.cell?,hg]using h
     simp only[Option.isSome_none,Bool.false_eq_true,if_false]
     congr 1
     apply Array.ext
     ·simp
     ·intro j j1 j2;rw[Array.getElem_setIfInBounds]
      split
      ·rename_i hj
       subst hj;rw[Array.getElem?_eq_getElem j2]at hcv;exact(Option.some.inj hcv).symm
      ·rfl
    |_=>rfl
   ·rfl
 have he:w.setCell ⟨b,o,none⟩ v={w with heap:=(w.setCell ⟨b,o,none⟩ v).heap}:=rfl;rw[he,hh]
theorem sets_self (w:World)(b:Nat):∀(vs:List Value) (o:Nat),(∀j u,vs[j]?=some u→w.cell? ⟨b,o+j,none⟩=some u)→w.setCells b o vs=w
 |[],_,_=>rfl
 |v::r,o,h=>by
  rw[World.setCells,set_self w b o v (h 0 v rfl)];exact sets_self w b r (o+1) (fun j u q=>by
   have:=h (j+1) u (by simpa using q);rw[show o+(j+1)=o+1+j by omega]at this;exact this)
def gpOb (B e:Nat)(mv:List Value)(vs:List (Value×Nat)):Ob:=⟨fun b=>∃p∈vs,p.1.ownBlock=some b,fun W=>∀p∈vs,W.ownsRow B e mv.length p.1 p.2 (mks mv p.2),fun _ h b q=>by
 obtain⟨p,hp,e⟩:=q;exact((h p hp).lt b e).2,fun _ _ _ h hk hd p hp=>own_keep (h p hp) hk (fun b r=>hd b ⟨p,hp,r⟩)⟩
def wtOb (B e:Nat)(mv:List Value)(v:Value)(n i:Nat):Ob:=⟨fun b=>v.ownBlock=some b,fun W=>(∃xs,W.ownsRow B e mv.length v n xs)∧∀g c,v=.slice (some ⟨g,0,none⟩) n c→∀q,q<i→∀j,j<mv.length→W.cell? ⟨g,q*mv.length+j,none⟩=mv[j]?,fun _ h b q=>by
 obtain⟨⟨xs,h⟩,_⟩:=h;exact(h.lt b q).2,fun w w' S1 h hk hd=>by
 obtain⟨⟨xs,h1⟩,h2⟩:=h;refine⟨⟨xs,own_keep h1 hk (fun b r=>hd b r)⟩,fun g c e q hq j hj=>?_⟩;have hg:v.ownBlock=some g:=by rw[e];rfl
 exact(T.cell_of_block (hk.block g (h1.lt g hg).2 (hd g hg)) _).trans (h2 g c e q hq j hj)⟩
section
variable {B e:Nat} {mv:List Value} {W W':World} {l:List Ob} {vs:List (Value×Nat)}
theorem gp_app (h:Sep B W (gpOb B e mv vs::l))(hle:B≤W.heap.size)(h0:0<mv.length){v:Value}{n:Nat}(hv:(v,n)∈vs){g cap m:Nat}(k1:W'.ownsRow B e mv.length (.slice (some ⟨g,0,none⟩) m cap) m (mks mv m))(k2:W.grownBy W' v.ownBlock)(k3:v.ownBlock=some g∨g=W.heap.size)(k5:Mine mv W W')(k6:∀k cur,v.ownBlock=some k→W.heap[k]?=some (.cells cur e (0,0))→∃cur',W'.heap[k]?=some (.cells cur' e (0,0))∧cur'.size=cur.size):
 Sep B W' (gpOb B e mv ((.slice (some ⟨g,0,none⟩) m cap,m)::vs)::l)∧Below B W W':=by
 have hk:Kp (gpOb B e mv vs).S W W':=Kp.mono (kp_grown k2) (fun k r=>.inl ⟨(v,n),hv,r⟩);refine⟨sep_change (l1:=[]) (o:=gpOb B e mv vs) (o':=gpOb B e mv ((.slice (some ⟨g,0,none⟩) m cap,m)::vs)) h (fun p hp=>?_) hk (fun k r=>?_) hle,sep_below (l1:=[]) (o:=gpOb B e mv vs) h hk hle⟩
 ·rcases List.mem_cons.1 hp with rfl|hp
  ·exact k1
  ·have hp2:=h.ins (gpOb B e mv vs) (by simp) p hp;by_cases hv2:p.1.ownBlock=v.ownBlock
   ·exact own_mine h0 hp2 k5 (fun k cur hk2=>k6 k cur (by rw[←hv2];exact hk2))
   ·exact own_keep hp2 (kp_grown k2) (fun b r t=>hv2 (by rw[r,t]))
 ·obtain⟨p,hp,r⟩:=r;rcases List.mem_cons.1 hp with rfl|hp
  ·have e9:g=k:=by simpa [Value.ownBlock]using r
   subst e9;rcases k3 with k3|k3
   ·exact .inl ⟨(v,n),hv,k3⟩
   ·exact .inr (by omega)
  ·exact .inl ⟨p,hp,r⟩
theorem gp_sub {vs':List (Value×Nat)}(h:Sep B W (gpOb B e mv vs::l))(hle:B≤W.heap.size)(hs:∀p∈vs',p∈vs):Sep B W (gpOb B e mv vs'::l):=
 sep_change (l1:=[]) (o:=gpOb B e mv vs) (o':=gpOb B e mv vs') h (fun p hp=>h.ins (gpOb B e mv vs) (by simp) p (hs p hp)) (Kp.refl _ W) (fun _ r=>by
  obtain⟨p,hp,r⟩:=r;exact .inl ⟨p,hs p hp,r⟩) hle
theorem wt_full {v:Value}{n:Nat}(h0:0<mv.length)(h:(wtOb B e mv v n n).In W):W.ownsRow B e mv.length v n (mks mv n):=by
 obtain⟨⟨xs,h1⟩,h2⟩:=h;rcases h1.2 with⟨e1,e2⟩|⟨g,cap,cur,e1,hbg,hg,hnc,hcm,hcs,ht⟩
 ·subst e2;exact⟨by simp[mks],.inl ⟨e1,rfl⟩⟩
 ·subst e1;exact own_of_cells ⟨xs,h1⟩ (fun q hq j hj=>h2 g cap rfl q hq j hj) h0
theorem wt_gp {v:Value}{n:Nat}(h0:0<mv.length)(h:Sep B W (wtOb B e mv v n n::l))(hle:B≤W.heap.size):Sep B W (gpOb B e mv [(v,n)]::l):=
 sep_change (l1:=[]) (o:=wtOb B e mv v n n) (o':=gpOb B e mv [(v,n)]) h (fun p hp=>by
  rw[List.mem_singleton.1 hp];exact wt_full h0 (h.ins (wtOb B e mv v n n) (by simp))) (Kp.refl _ W) (fun k r=>by
  obtain⟨p,hp,r⟩:=r;rw[List.mem_singleton.1 hp]at r;exact .inl r) hle
theorem row_wt {v:Value}{n:Nat}{xs:List Value}(h:Sep B W (rowOb B e mv.length v n xs::l))(hle:B≤W.heap.size):Sep B W (wtOb B e mv v n 0::l):=
 sep_change (l1:=[]) (o:=rowOb B e mv.length v n xs) (o':=wtOb B e mv v n 0) h ⟨⟨xs,h.ins (rowOb B e mv.length v n xs) (by simp)⟩,fun _ _ _ q hq=>absurd hq (Nat.not_lt_zero _)⟩ (Kp.refl _ W) (fun k r=>.inl r) hle
theorem own_set1k {k n c g:Nat}(o:Nat)(v:Value)(h:∃xs,W.ownsRow B e k (.slice (some ⟨g,0,none⟩) n c) n xs):∃xs,(W.setCell ⟨g,o,none⟩ v).ownsRow B e k (.slice (some ⟨g,0,none⟩) n c) n xs:=by
 obtain⟨xs,h⟩:=h;rcases h.2 with⟨e1,_⟩|⟨g',cap,cur,e1,hbg,hg,hnc,hcm,hcs,ht⟩
 ·cases e1
 ·cases e1
  have hh:(W.setCell ⟨g,o,none⟩ v).heap[g]?=some (.cells (cur.setIfInBounds o v) e (0,0)):=by
   have e9:(W.setCell ⟨g,o,none⟩ v).heap=W.heap.modify g (fun x=>match x with|.cells c elem frozen=>.cells (c.setIfInBounds o v) elem frozen|x=>x):=rfl;rw[e9,Array.getElem?_modify,if_pos rfl,hg]
   rfl
  refine⟨(cur.setIfInBounds o v).toList.take (n*k),?_,.inr ⟨g,c,cur.setIfInBounds o v,rfl,hbg,hh,hnc,hcm,by simpa using hcs,rfl⟩⟩;have h9:(cur.setIfInBounds o v).toList.length=c*k:=by rw[Array.length_toList];simpa using hcs
  rw[List.length_take,h9];exact Nat.min_eq_left (Nat.mul_le_mul_right _ hnc)
theorem own_sets {k n c g:Nat}:∀(vs:List Value) (o:Nat) {W:World} {xs:List Value},W.ownsRow B e k (.slice (some ⟨g,0,none⟩) n c) n xs→∃ys,(W.setCells g o vs).ownsRow B e k (.slice (some ⟨g,0,none⟩) n c) n ys
 |[],_,_,xs,h=>⟨xs,h⟩
 |v::r,o,_,xs,h=>by
  obtain⟨ys,h2⟩:=own_set1k o v ⟨xs,h⟩;exact own_sets r (o+1) h2
theorem wt_next {n i g c:Nat}(h:Sep B W (wtOb B e mv (.slice (some ⟨g,0,none⟩) n c) n i::l))(hle:B≤W.heap.size)(hi:i<n):Sep B (W.setCells g (i*mv.length) mv) (wtOb B e mv (.slice (some ⟨g,0,none⟩) n c) n (i+1)::l)∧Below B W (W.setCells g (i*mv.length) mv)∧W.there g (i*mv.length) mv.length:=by
 obtain⟨⟨xs,h1⟩,h2⟩:=h.ins (wtOb B e mv (.slice (some ⟨g,0,none⟩) n c) n i) (by simp);have hk:Kp (wtOb B e mv (.slice (some ⟨g,0,none⟩) n c) n i).S W (W.setCells g (i*mv.length) mv):=Kp.mono (kp_setsZ W g mv (i*mv.length)) (fun k r=>.inl (by
  have e9:k=g:=r;subst e9
  rfl))
 rcases h1.2 with⟨e1,_⟩|⟨g',cap,cur,e1,hbg,hg,hnc,hcm,hcs,ht⟩
 ·cases e1
 ·cases e1
  have hle2:i*mv.length+mv.length≤c*mv.length:=by
   have:(i+1)*mv.length≤c*mv.length:=Nat.mul_le_mul_right _ (by omega)
   rwa [Nat.add_mul,Nat.one_mul]at this
  have hth:W.there g (i*mv.length) mv.length:=fun j hj=>⟨by simp[World.cell?,hg];omega,by simp[World.frozen?,hg]⟩
  refine⟨sep_change (l1:=[]) (o:=wtOb B e mv (.slice (some ⟨g,0,none⟩) n c) n i) (o':=wtOb B e mv (.slice (some ⟨g,0,none⟩) n c) n (i+1)) h ⟨own_sets mv (i*mv.length) h1,fun g2 c2 e2 q hq j hj=>?_⟩ hk (fun k r=>.inl r) hle,sep_below (l1:=[]) (o:=wtOb B e mv (.slice (some ⟨g,0,none⟩) n c) n i) h hk hle,hth⟩
  cases e2
  by_cases hq2:q=i
  ·subst hq2;have:=World.cell?_setCells_in g mv (q*mv.length) W (fun j hj=>(hth j hj).1) j hj;rw[this];simp[hj]
  ·rw[World.cell?_setCells_out g mv (i*mv.length) W _ (fun _ _=>.inl (by
    show q*mv.length+j<i*mv.length;have:(q+1)*mv.length≤i*mv.length:=Nat.mul_le_mul_right _ (by omega);rw[Nat.add_mul,Nat.one_mul]at this;omega))]
   exact h2 g c rfl q (by omega) j hj
def lsOb (B e k:Nat)(mk:Nat→List Value)(rows:List Value):Ob:=⟨fun b=>∃v∈rows,v.ownBlock=some b,fun W=>∀i (h:i<rows.length),∃m,m≤3000000∧W.ownsRow B e k rows[i] m (mks (mk (i/5*5)) m),fun _ h b q=>by
 obtain⟨v,hv,r⟩:=q;obtain⟨i,hi,rfl⟩:=List.getElem_of_mem hv;obtain⟨m,_,h1⟩:=h i hi;exact(h1.lt b r).2,fun _ _ _ h hk hd i hi=>by
 obtain⟨m,hm,h1⟩:=h i hi;exact⟨m,hm,own_keep h1 hk (fun b r=>hd b ⟨rows[i],List.getElem_mem hi,r⟩)⟩⟩
theorem sep_merge {o o1 o2:Ob}(h:Sep B W (o1::o2::l))(hi:o.In W)(hs:∀k,o.S k→o1.S k∨o2.S k):Sep B W (o::l):=by
 have h1:=List.pairwise_cons.1 h.dis;have h2:=List.pairwise_cons.1 h1.2;refine⟨fun p hp=>?_,List.pairwise_cons.2 ⟨fun p hp k r t=>?_,h2.2⟩,fun p hp k r=>?_⟩
 ·rcases List.mem_cons.1 hp with rfl|hp
  ·exact hi
  ·exact h.ins p (by simp[hp])
 ·rcases hs k r with q|q
  ·exact h1.1 p (by simp[hp]) k q t
  ·exact h2.1 p hp k q t
 ·rcases List.mem_cons.1 hp with rfl|hp
  ·rcases hs k r with q|q
   ·exact h.ge o1 (by simp) k q
   ·exact h.ge o2 (by simp) k q
  ·exact h.ge p (by simp[hp]) k r
theorem ls_merge {k:Nat}{mk:Nat→List Value}(hk:∀i,(mk i).length=k){rows:List Value}(v0 v1 v2 v3 v4:Value×Nat)(h5:rows.length%5=0)(h:Sep B W (lsOb B e k mk rows::gpOb B e (mk rows.length) [v0,v1,v2,v3,v4]::l))(hm:∀p∈[v0,v1,v2,v3,v4],p.2≤3000000):Sep B W (lsOb B e k mk (rows++[v0.1,v1.1,v2.1,v3.1,v4.1])::l):=by
 have hl:=h.ins (lsOb B e k mk rows) (by simp);have hg:=h.ins (gpOb B e (mk rows.length) [v0,v1,v2,v3,v4]) (by simp);refine sep_merge h (fun i hi=>?_) (fun b r=>?_)
 ·by_cases hlt:i<rows.length
  ·obtain⟨m,h1,h2⟩:=hl i hlt;exact⟨m,h1,by rw[List.getElem_append_left hlt];exact h2⟩
  ·have hi2:i<rows.length+5:=by simpa using hi
   have e5:i/5*5=rows.length:=by omega
   rw[e5];have fin:∀(p:Value×Nat) (hp:p∈[v0,v1,v2,v3,v4]) (u:Value),u=p.1→∃m,m≤3000000∧W.ownsRow B e k u m (mks (mk rows.length) m):=fun p hp u eu=>⟨p.2,hm p hp,by have:=hg p hp;rw[hk]at this;rw[eu];exact this⟩
   rcases(by omega:i=rows.length∨i=rows.length+1∨i=rows.length+2∨i=rows.length+3∨i=rows.length+4)with rfl|rfl|rfl|rfl|rfl
   ·exact fin v0 (by simp) _ (by simp)
   ·exact fin v1 (by simp) _ (by simp)
   ·exact fin v2 (by simp) _ (by simp)
   ·exact fin v3 (by simp) _ (by simp)
   ·exact fin v4 (by simp) _ (by simp)
 ·obtain⟨v,hv,r⟩:=r;rcases List.mem_append.1 hv with hv|hv
  ·exact .inl ⟨v,hv,r⟩
  ·simp only[List.mem_cons,List.not_mem_nil,or_false]at hv;rcases hv with rfl|rfl|rfl|rfl|rfl
   ·exact .inr ⟨v0,by simp,r⟩
   ·exact .inr ⟨v1,by simp,r⟩
   ·exact .inr ⟨v2,by simp,r⟩
   ·exact .inr ⟨v3,by simp,r⟩
   ·exact .inr ⟨v4,by simp,r⟩
end
def mW (i:Nat):List Value:=[.int .u64 (1000000+(i:Int))]
def mT (i:Nat):List Value:=[.bool false,.int .u64 (1000000+(i:Int)),.int .u64 0]
def bkO (B kb:Nat)(wv tv:Value)(rw rt:List Value):List Ob:=[boxOb kb #[wv,tv],rowOb B 26 1 wv rw.length rw,rowOb B 64 1 tv rt.length rt,lsOb B 51 1 mW rw,lsOb B 67 3 mT rt]
end Z
end Go.Proofs.YtdidjhillmgccaaGreat
