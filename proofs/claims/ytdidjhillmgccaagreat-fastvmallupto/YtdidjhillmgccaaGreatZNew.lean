import Derived.Test.YtdidjhillmgccaaGreatP20
import Derived.Test.YtdidjhillmgccaaGreatP16
namespace Go.Proofs.YtdidjhillmgccaaGreat
set_option maxRecDepth 100000
set_option maxHeartbeats 40000000
namespace Z
open Go.RowKit
open T (Sep Ob Kp Mf FlIn boxOb)
def mcV (c0 g0 i0:Option Addr)(c1 c2 g1 g2 i1 i2 mp:Nat)(d:Int)(f:Fr):List Value:=(.slice c0 c1 c2::.slice g0 g1 g2::.int .i64 d::.pointer (some ⟨mp,0,none⟩)::(Fr.vals f++[.slice none 0 0,.slice i0 i1 i2,.slice none 0 0,.slice none 0 0,.int .i64 0,.int .u64 0,.int .i64 0]))
theorem build_mc (c0 g0 i0:Option Addr)(c1 c2 g1 g2 i1 i2 mp:Nat)(d:Int)(f:Fr)(W:World):(Instr.build 86 #[(0,.slice c0 c1 c2),(1,.slice g0 g1 g2),(2,.int .i64 d),(3,.pointer (some ⟨mp,0,none⟩)),(4,.agg (Fr.vals f).toArray),(6,.slice i0 i1 i2)]).run Tryz.prog W=.ok (.agg (mcV c0 g0 i0 c1 c2 g1 g2 i1 i2 mp d f).toArray) W:=by kernel_rfl
theorem yields_mc {ops:Array Oper}{S:World→Prop}{op:Oper}{a:Act}(hw:Region.wanted op (yielded ops a.tmps)=true)(x0 x1 x2 x3 x4 x5:Operand)(ho:op.op=.build 86 #[(0,x0),(1,x1),(2,x2),(3,x3),(4,x4),(6,x5)])
 (c0 g0 i0:Option Addr)(c1 c2 g1 g2 i1 i2 mp:Nat)(d:Int)(f:Fr)(h0:a.eval x0=.slice c0 c1 c2)(h1:a.eval x1=.slice g0 g1 g2)(h2:a.eval x2=.int .i64 d)(h3:a.eval x3=.pointer (some ⟨mp,0,none⟩))(h4:a.eval x4=.agg (Fr.vals f).toArray)(h5:a.eval x5=.slice i0 i1 i2):
 YieldsIf Tryz.prog ops S op (.agg (mcV c0 g0 i0 c1 c2 g1 g2 i1 i2 mp d f).toArray) a:=
 .inl ⟨hw,fun w _=>by
  unfold execOp;simp only[ho,List.map_toArray,List.map_cons,List.map_nil,h0,h1,h2,h3,h4,h5,build_mc,Sem.run_bind,Sem.run_pure,Result.andThen_ok]⟩
theorem mc_bx {W:World}{a:Nat}{c0 g0 i0:Option Addr}{c1 c2 g1 g2 i1 i2 mp:Nat}{d:Int}{f:Fr}(h:At W a (mcV c0 g0 i0 c1 c2 g1 g2 i1 i2 mp d f).toArray):Bx W a ⟨.slice c0 c1 c2,.slice g0 g1 g2,d,mp,f.g,f.p,f.r,.slice none 0 0,.slice i0 i1 i2,.slice none 0 0,.slice none 0 0,0,0,0⟩:=by
 refine⟨h.1,fun j hj=>(h.2.1 j).trans ?_,h.2.2⟩;refine fx_cases (P:=fun j=>(mcV c0 g0 i0 c1 c2 g1 g2 i1 i2 mp d f).toArray[j]?=some (Fx.at _ j)) rfl rfl rfl rfl rfl rfl (fun i hi=>?_) rfl rfl rfl rfl rfl rfl rfl j hj;rw[Fx.reg _ i hi,List.getElem?_toArray,show 6+i=(i+2)+1+1+1+1 by omega];show(Fr.vals f++_)[i+2]?=_;rw[List.getElem?_append_left (by rw[Fr.len];omega),Nat.add_comm,Fr.reg f i hi]
def start (g:Fg)(gate n:Nat)(A:Nat→Int)(L:List Int)(mem:List UInt8):Fm:=
 ⟨gate,g.e,entR g n A,[],L,[],[],0,0,0,T.layB (fun _=>0) 0 (mem.take 65536) (mem.take 65536).length⟩
theorem nilOb (B e k:Nat)(W:World):(rowOb B e k (.slice none 0 0) 0 []).In W:=World.ownsRow_nil _ _ _ _
theorem Sep.void {B:Nat}{W:World}{l:List Ob}(h:Sep B W l)(e k:Nat)(hB:B≤W.heap.size):Sep B W (rowOb B e k (.slice none 0 0) 0 []::l):=
 h.add _ (nilOb B e k W) (fun _ q=>by cases q) (Below.refl _ _) hB
theorem gates_flat {w:World}{gb goff:Nat}{L:List Fg}(h:∀k (h:k<L.length),w.rangeAt gb (goff+k*19) L[k].vals):∀j u,(L.flatMap Fg.vals)[j]?=some u→w.cell? ⟨gb,goff+j,none⟩=some u:=fun j u q=>by
 have hl:=flat_len (f:=Fg.vals) Fg.len L;have hj:j<L.length*19:=by have:=(List.getElem?_eq_some_iff.1 q).1;rwa [hl]at this
 have hk:j/19<L.length:=by omega
 have e:j=j/19*19+j%19:=by omega
 have hf:=flat_at' (f:=Fg.vals) Fg.len L (j/19) hk (j%19) (by omega);rw[←e,q]at hf;have:=h (j/19) hk (j%19) u hf.symm
 rwa [show goff+j/19*19+j%19=goff+j by omega]at this
theorem own_gates {w:World}{lo:Nat}{v:Value}{L:List Fg}(h:w.ownsRow lo 70 19 v L.length (L.flatMap Fg.vals))(h0:0<L.length):∃g c,v=.slice (some ⟨g,0,none⟩) L.length c∧lo≤g∧g<w.heap.size∧∀k (hk:k<L.length),w.rangeAt g (k*19) L[k].vals:=by
 have hlt:=h.lt;rcases h.2 with⟨_,h9⟩|⟨g,cap,cur,rfl,hb,hg,hc1,hc2,hc3,hc4⟩
 ·omega
 ·refine⟨g,cap,rfl,hb,(hlt g rfl).2,fun k hk j u q=>?_⟩;have hj:j<19:=by have:=(List.getElem?_eq_some_iff.1 q).1;rwa [Fg.len]at this
  have hf:=flat_at' (f:=Fg.vals) Fg.len L k hk j hj;rw[q,←hc4,List.getElem?_take_of_lt (by
   have:(k+1)*19≤L.length*19:=Nat.mul_le_mul_right 19 hk;omega)]at hf
  have:w.cell? ⟨g,k*19+j,none⟩=cur[k*19+j]?:=by simp[World.cell?,hg]
  rw[this,←hf];simp
theorem rangZ {B:Nat}{V U:World}{b o:Nat}{cs:List Value}(hb:Below B V U)(h:b<B)(r:V.rangeAt b o cs):U.rangeAt b o cs:=fun j v q=>(T.cell_of_block (hb.block b h) _).trans (r j v q)
theorem own_iv {w:World}{lo:Nat}{v:Value}{L:List Int}(h:w.ownsRow lo 51 1 v L.length (L.map u64I)):IvIn w v L∧∀k,v.ownBlock=some k→lo≤k:=by
 have hlt:=h.lt;refine⟨⟨?_,fun k q=>(hlt k q).2,?_⟩,fun k q=>(hlt k q).1⟩
 ·rcases h.2 with⟨rfl,h9⟩|⟨g,cap,cur,rfl,hb,hg,hc1,hc2,hc3,hc4⟩
  ·exact⟨none,0,by rw[h9],by omega,.inl h9⟩
  ·refine⟨_,cap,rfl,hc1,.inr ⟨g,0,rfl,fun i hi=>?_⟩⟩;have:w.cell? ⟨g,0+i,none⟩=cur[i]?:=by simp[World.cell?,hg]
   rw[this];have h2:(L.map u64I)[i]?=some (.int .u64 L[i]):=by simp[hi,u64I]
   rw[←hc4,List.getElem?_take_of_lt (by omega)]at h2;rw[←h2];simp
 ·rcases h.2 with⟨rfl,h9⟩|⟨g,cap,cur,rfl,hb,hg,hc1,hc2,hc3,hc4⟩
  ·exact⟨none,0,by rw[h9],.inl ⟨rfl,rfl⟩⟩
  ·refine⟨_,cap,rfl,.inr ⟨g,0,rfl,fun j hj=>?_⟩⟩;have e1:w.cell? ⟨g,0+j,none⟩=cur[j]?:=by simp[World.cell?,hg]
   rw[e1];have hj2:j<cur.size:=by omega
   exact⟨by simp[hj2],by simp[World.frozen?,hg]⟩
theorem pg_of {U0 U1 U2:World}{g lo:Nat}{V:Nat→Value}{P:Pr}{gg gc:Nat}(hR:Rdy U0 U1 g P.code P.code.length V)(hb:Below U1.heap.size U1 U2)(hlo:U0.heap.size≤lo)(hg1:lo≤gg)(hg2:gg<U2.heap.size)(hg3:∀k (hk:k<P.gates.length),U2.rangeAt gg (k*19) P.gates[k].vals):
 PgIn (fun k=>U0.heap.size≤k∧k<U2.heap.size) U2 (.slice (some ⟨g,0,none⟩) P.code.length P.code.length) (.slice (some ⟨gg,0,none⟩) P.gates.length gc) P:=by
 refine⟨fun k q=>q.2,fun k hk=>?_,fun k hk=>⟨gg,gc,rfl,⟨by omega,hg2⟩,hg3 k hk⟩⟩;obtain⟨gk,e1,e2,e3,e4,e5⟩:=hR.done k hk hk;have hgl:=hR.row.lt;refine⟨g,gk,P.code.length,P.code[k].length,rfl,⟨hR.new,Nat.lt_of_lt_of_le hgl hb.size⟩,?_,⟨e2,Nat.lt_of_lt_of_le e4 hb.size⟩,fun j hj=>(T.cell_of_block (hb.block gk e4) _).trans (e5 j hj)⟩;rw[←e1];exact(T.cell_of_block (hb.block g hgl) _).trans (hR.row.at_ k hk)
theorem new_ok (P:Pr)(ca ga:Option Addr)(cc gc:Nat)(mem:List UInt8)(gate:Nat)(sa:Option Addr)(n sc:Nat)(A:Nat→Int)(ia:Option Addr)(ic:Nat)(L:List Int)(w:World)(hP:RwIn w ca ga P)(ok:P.Ok)(hm:mem.length≤65536)(hgl:gate<P.gates.length)(hna:n=P.gates[gate].a)(hsrc:n=0∨∃sb so,sa=some ⟨sb,so,none⟩∧sb<w.heap.size∧∀j,j<n→w.cell? ⟨sb,so+j,none⟩=some (.int .u64 (A j)))(hL:L.length≤2000000)(hI:(ia=none∧L=[]∧ic=0)∨∃b off,ia=some ⟨b,off,none⟩∧b<w.heap.size∧∀i (h:i<L.length),w.cell? ⟨b,off+i,none⟩=some (.int .u64 L[i])):
 Calls Tryz.prog 12 #[.agg #[.slice ca P.code.length cc,.slice ga P.gates.length gc,.string (T.str mem),.int .i64 P.dep],.int .i64 gate,.slice sa n sc,.slice ia L.length ic] w fun x w'=>∃a,x=.returned (.tuple #[.pointer (some ⟨a,0,none⟩),.int .i64 0])∧MIn w.heap.size w' a P (start P.gates[gate] gate n A L mem) []∧Below w.heap.size w w':=by
 have n1:=ok.n1;have hg0:0<P.gates.length:=by omega
 have hi:(gate:Int)<(P.gates.length:Int):=Int.ofNat_lt.2 hgl;have hi2:¬(P.gates.length:Int)≤(gate:Int):=by omega
 have hcl:gate<P.code.length:=by rw[ok.nc];exact hgl
 have hag:=(ok.gate gate hgl hcl).2.1;have hn:n≤15:=by omega
 have hrows:Hz (∀r∈P.code,r.length≤400∧∀i∈r,Named i.op):=ζ (fun r hr=>⟨(ok.row r hr).1.2,fun i hi=>((ok.row r hr).2 i hi).op⟩);have hone:Hz (∀u∈P.gates.flatMap Fg.vals,u.oneCell'=true):=ζ (fun u hu=>by
  obtain⟨g,_,hg⟩:=List.mem_flatMap.1 hu;exact Array.all_eq_true_iff_forall_mem.1 (Fg.one g) u (by simpa using hg))
 have hcode:P.code.length≤16:=by rw[ok.nc];omega
 obtain⟨gb,goff,rfl,hgb0,_⟩:=hP.gate gate hgl;have hgt0:∀k (hk:k<P.gates.length),w.rangeAt gb (goff+k*19) P.gates[k].vals:=fun k hk=>by
  obtain⟨b,off,e,_,r⟩:=hP.gate k hk;injection e with e;injection e with e1 e2;subst e1 e2;exact r
 have hin0:∀U,Below w.heap.size w U→Calls Tryz.prog 26 #[.slice ia L.length ic] U fun x U'=>∃vi,x=.returned vi∧IvIn U' vi L∧(∀k,vi.ownBlock=some k→U.heap.size≤k)∧Below U.heap.size U U':=fun U hb=>by
  rcases hI with⟨rfl,rfl,rfl⟩|⟨b,off,rfl,hbl,hc⟩
  ·refine(clnil_u64 U).mono ?_;rintro x U' ⟨rfl,rfl⟩;exact⟨_,rfl,⟨⟨none,0,rfl,Nat.le_refl _,.inl rfl⟩,fun k q=>(by cases q),⟨none,0,rfl,.inl ⟨rfl,rfl⟩⟩⟩,fun k q=>(by cases q),Below.refl _ _⟩
  ·refine(clone_u64 b off L.length ic (L.map u64I) U (Nat.lt_of_lt_of_le hbl hb.size) (by simp) (fun j u q=>?_) (fun u hu=>by obtain⟨y,_,rfl⟩:=List.mem_map.1 hu;rfl) hL).mono ?_
   ·have hj:j<L.length:=by have:=(List.getElem?_eq_some_iff.1 q).1;simpa using this
    rw[(T.cell_of_block (hb.block b hbl) _).trans (hc j hj),←q];simp[hj,u64I]
   ·rintro x U' ⟨v,rfl,h1,h2⟩;obtain⟨h3,h4⟩:=own_iv h1;exact⟨v,rfl,h3,h4,h2⟩
 have hmay:=ζ (fun U (q:Gr w U)=>mayBe_ok P ca (some ⟨gb,goff,none⟩) cc gc (T.str mem) U (hP.gr q) ok (by rw[T.str_size];exact hm));replace ok:=ζ ok;replace hI:=ζ hI;replace hna:=ζ hna;go_enter Tryz.func12,Tryz.ntmps12;go_upto_region 1 with fail
 refine wp_world (fun W=>At W w.heap.size #[.slice ca P.code.length cc,.slice (some ⟨gb,goff,none⟩) P.gates.length gc,.string (T.str mem),.int .i64 P.dep]∧Gr w W) ⟨At.new w _ _,(Gr.refl _).alloc _⟩ ?_;rintro W ⟨hA,G⟩;have hBw:Hz (w.heap.size≤w.heap.size):=ζ (Nat.le_refl _);generalize hkp:w.heap.size=kp at hA ⊢;have d0:W.cell? ⟨kp,0,none⟩=some (.slice ca P.code.length cc):=hA.2.1 0;have d1:W.cell? ⟨kp,1,none⟩=some (.slice (some ⟨gb,goff,none⟩) P.gates.length gc):=hA.2.1 1;have d2:W.cell? ⟨kp,2,none⟩=some (.string (T.str mem)):=hA.2.1 2;have d3:W.cell? ⟨kp,3,none⟩=some (.int .i64 P.dep):=hA.2.1 3;have hmy:=ζ (hmay.out W G);go_wp2_with fail;refine hmy.out.mono ?_;rintro r V ⟨rfl,gV⟩;replace hA:=hA.gr gV;replace G:=G.trans gV;clear d0 d1 d2 d3 hmy hmay gV;have d1:V.cell? ⟨kp,1,none⟩=some (.slice (some ⟨gb,goff,none⟩) P.gates.length gc):=hA.2.1 1;have hgt:Hz (∀k (hk:k<P.gates.length),V.rangeAt gb (goff+k*19) P.gates[k].vals):=ζ (fun k hk=>rangZ G.below hgb0 (hgt0 k hk))
 have d5:V.cell? ⟨gb,goff+gate*19+1,none⟩=some (.int .i64 P.gates[gate].a):=hgt.out gate hgl 1 _ rfl;rw[←hna.out]at d5;have hgb:gb<V.heap.size:=Nat.lt_of_lt_of_le hgb0 G.below.size;replace hP:=ζ (hP.gr G);have asrc:Hz (∀U,Below V.heap.size V U→n=0∨∃sb so,sa=some ⟨sb,so,none⟩∧sb<U.heap.size∧∀j,j<n→U.cell? ⟨sb,so+j,none⟩=some (.int .u64 (A j))):=ζ (fun U q=>by
  rcases hsrc with h0|⟨sb,so,e1,e2,e3⟩
  ·exact .inl h0
  ·have e4:=Nat.lt_of_lt_of_le e2 G.below.size;exact .inr ⟨sb,so,e1,Nat.lt_of_lt_of_le e4 q.size,fun j hj=>(T.cell_of_block (q.block sb e4) _).trans ((T.cell_of_block (G.below.block sb e2) _).trans (e3 j hj))⟩)
 have hin:=ζ (fun U (q:Below V.heap.size V U)=>hin0 U (G.below.trans (q.mono G.below.size)));have KS:Hz (∀U,Below V.heap.size V U→U.cell? ⟨kp,0,none⟩=some (.slice ca P.code.length cc)∧U.cell? ⟨kp,1,none⟩=some (.slice (some ⟨gb,goff,none⟩) P.gates.length gc)∧U.cell? ⟨kp,2,none⟩=some (.string (T.str mem))∧U.cell? ⟨kp,3,none⟩=some (.int .i64 P.dep)):=ζ (fun U q=>⟨(T.at_below hA q hA.1).2.1 0,(T.at_below hA q hA.1).2.1 1,(T.at_below hA q hA.1).2.1 2,(T.at_below hA q hA.1).2.1 3⟩);replace hA:=ζ hA;replace hgt0:=ζ hgt0;replace hin0:=ζ hin0;replace hsrc:=ζ hsrc;go_upto_region 5 with fail
 clear d1 d5;have b0:Below V.heap.size V V.drew:=(Below.refl _ V).drew;refine wp_region_held_drew (S:=(fun W=>W.cell? ⟨kp,0,none⟩=some (.slice ca P.code.length cc)∧W.cell? ⟨kp,1,none⟩=some (.slice (some ⟨gb,goff,none⟩) P.gates.length gc)∧W.cell? ⟨kp,2,none⟩=some (.string (T.str mem))∧W.cell? ⟨kp,3,none⟩=some (.int .i64 P.dep))) (by kernel_rfl) (KS.out _ b0) (fun hHeld=>?_);refine xz 0 rfl (h:=xz 1 rfl (h:=xz 3 rfl (h:=xz 4 rfl (h:=xz 6 rfl (h:=xz 7 rfl (h:=xz 8 rfl (h:=xz 9 rfl (h:=xz 11 rfl (h:=xz 12 rfl (h:=xz 13 rfl (h:=xz 14 rfl (h:=xz 16 rfl (h:=?_)))))))))))));try simp only[xap]
 refine xrd 2 rfl (fun K hK=>?_);go_simp;go_wp2_with(refine(readied_ok P.code ca cc _ (hP.out.gr ((Gr.refl V).drew)).code hrows.out (by omega)).mono ?_;rintro r U1 ⟨VV,rfl,hRd⟩;have b1:=b0.trans (hRd.gro.below.mono b0.size);clear hHeld);refine hK.out _ _ (KS.out _ b1) (fun hHeld=>?_);clear hK K;try simp only[xap]
 refine xrd 5 rfl (fun K hK=>?_);go_simp;go_wp2_with(refine(clone_gates gb goff P.gates.length gc (P.gates.flatMap Fg.vals) U1 (Nat.lt_of_lt_of_le hgb b1.size) (flat_len Fg.len _) (gates_flat (fun k hk=>rangZ b1 hgb (hgt.out k hk))) hone.out (by omega)).mono ?_;rintro r U2 ⟨vg,rfl,hGo,hb2⟩;have b2:=b1.trans (hb2.mono b1.size);obtain⟨gg,gk9,e8,hg1,hg2,hg3⟩:=own_gates hGo hg0;subst e8;clear hHeld);refine hK.out _ _ (KS.out _ b2) (fun hHeld=>?_);clear hK K;try simp only[xap]
 refine xrd 10 rfl (fun K hK=>?_);go_simp;go_wp2_with(refine(T.newFlat_any mem U2 (by omega)).mono ?_;rintro r U3 ⟨rfl,FF,hFl,hFs,hb3⟩;have b3:=b2.trans (hb3.mono b2.size);clear hHeld);refine hK.out _ _ (KS.out _ b3) (fun hHeld=>?_);clear hK K;try simp only[xap]
 refine xrd 15 rfl (fun K hK=>?_);go_simp;go_wp2_with(refine(entered_any P.gates[gate] gb goff P.gates.length gc gate sa n sc A U3 hgl (Nat.lt_of_lt_of_le hgb b3.size) (rangZ b3 hgb (hgt.out gate hgl)) hn (asrc.out _ b3)).mono ?_;rintro r U4 ⟨rfl,g4⟩;have b4:=b3.trans (g4.below.mono b3.size);clear hHeld);refine hK.out _ _ (KS.out _ b4) (fun hHeld=>?_);clear hK K;try simp only[xap]
 refine xrd 17 rfl (fun K hK=>?_);go_simp;go_wp2_with(refine(hin.out _ b4).mono ?_;rintro r U5 ⟨vi,rfl,hIv,hIn,hb5⟩;have b5:=b4.trans (hb5.mono b4.size);obtain⟨i0,i2,e9,e10,e11⟩:=hIv.go;subst e9;clear hHeld e10 e11);refine hK.out _ _ (KS.out _ b5) (fun hHeld=>?_);clear hK K;try simp only[xap]
 refine xtk 18 rfl (yields_mc (by rfl) _ _ _ _ _ _ rfl _ _ i0 _ _ _ _ _ _ _ _ ⟨gate,P.gates[gate].e,entR P.gates[gate] n A⟩ (by rfl) (by rfl) (by rfl) (by rfl) (by rfl) (by rfl)) ?_;try simp only[xap]
 refine xrd 19 rfl (fun K hK=>?_);go_simp;clear hHeld;refine hK.out _ _ (KS.out _ (b5.alloc b5.size _)) (fun hHeld=>?_);clear hK K;try simp only[xap]
 refine xz 20 rfl (h:=xz 21 rfl (h:=?_));try simp only[xap]
 refine xdn ?_ _;clear hHeld KS hin asrc hrows hone;have hw5:Hz (MIn w.heap.size (U5.alloc (.cells (List.toArray (mcV (some ⟨V.drew.heap.size,0,none⟩) (some ⟨gg,0,none⟩) i0 P.code.length P.code.length P.gates.length gk9 L.length i2 U2.heap.size P.dep ⟨gate,P.gates[gate].e,entR P.gates[gate] n A⟩)) 86)) U5.heap.size P (start P.gates[gate] gate n A L mem) []∧Below w.heap.size w (U5.alloc (.cells (List.toArray (mcV (some ⟨V.drew.heap.size,0,none⟩) (some ⟨gg,0,none⟩) i0 P.code.length P.code.length P.gates.length gk9 L.length i2 U2.heap.size P.dep ⟨gate,P.gates[gate].e,entR P.gates[gate] n A⟩)) 86))):=by
  have hV0:w.heap.size≤V.drew.heap.size:=Nat.le_trans G.below.size b0.size;have bU2:Below V.drew.heap.size V.drew U2:=hRd.gro.below.trans (hb2.mono hRd.gro.below.size);have q1:=(Sep.nil w.heap.size V.drew).add (pgOb (fun k=>V.drew.heap.size≤k∧k<U2.heap.size) (.slice (some ⟨V.drew.heap.size,0,none⟩) P.code.length P.code.length) (.slice (some ⟨gg,0,none⟩) P.gates.length gk9) P) (pg_of hRd hb2 hRd.gro.below.size hg1 hg2 hg3) (fun k r=>r.1) bU2 hV0;have l2:=Nat.le_trans hV0 bU2.size;have q2:=Sep.void (Sep.void q1 67 3 l2) 51 1 l2;have q3:=q2.add (flOb FF U2.heap.size _) hFl hFs hb3 l2;have l3:=Nat.le_trans l2 hb3.size;have q4:=q3.gr g4.below;have l4:=Nat.le_trans l3 g4.below.size;have q5:=Sep.void (q4.add (inOb (.slice i0 L.length i2) L) hIv hIn hb5 l4) 81 18 (Nat.le_trans l4 hb5.size);have l5:=Nat.le_trans l4 hb5.size;have hA6:=At.new U5 (List.toArray (mcV (some ⟨V.drew.heap.size,0,none⟩) (some ⟨gg,0,none⟩) i0 P.code.length P.code.length P.gates.length gk9 L.length i2 U2.heap.size P.dep ⟨gate,P.gates[gate].e,entR P.gates[gate] n A⟩)) 86
  have b6:Below U5.heap.size U5 (U5.alloc (.cells (List.toArray (mcV (some ⟨V.drew.heap.size,0,none⟩) (some ⟨gg,0,none⟩) i0 P.code.length P.code.length P.gates.length gk9 L.length i2 U2.heap.size P.dep ⟨gate,P.gates[gate].e,entR P.gates[gate] n A⟩)) 86)):=(Below.refl _ U5).alloc (Nat.le_refl _) _;have q6:=q5.add (bxOb U5.heap.size (bxOf P (start P.gates[gate] gate n A L mem) ⟨.slice (some ⟨V.drew.heap.size,0,none⟩) P.code.length P.code.length,.slice (some ⟨gg,0,none⟩) P.gates.length gk9,U2.heap.size,.slice none 0 0,.slice i0 L.length i2,.slice none 0 0,.slice none 0 0,FF,fun k=>V.drew.heap.size≤k∧k<U2.heap.size⟩)) (mc_bx hA6) (fun k r=>by have:k=U5.heap.size:=r;omega) b6 l5;exact ζ ⟨⟨⟨⟨.slice (some ⟨V.drew.heap.size,0,none⟩) P.code.length P.code.length,.slice (some ⟨gg,0,none⟩) P.gates.length gk9,U2.heap.size,.slice none 0 0,.slice i0 L.length i2,.slice none 0 0,.slice none 0 0,FF,fun k=>V.drew.heap.size≤k∧k<U2.heap.size⟩,sep_perm q6 (.cons _ (List.perm_middle (l₁:=[_,_])))⟩,Nat.le_trans l5 b6.size⟩,(G.below.trans ((b5.trans (b6.mono b5.size)).mono G.below.size))⟩
 go_wp2_with fail;go_ret2;exact⟨_,rfl,hw5.out⟩
end Z
end Go.Proofs.YtdidjhillmgccaaGreat
