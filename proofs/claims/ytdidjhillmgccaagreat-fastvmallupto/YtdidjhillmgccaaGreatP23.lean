import Derived.Test.YtdidjhillmgccaaGreatP22
import Derived.Test.YtdidjhillmgccaaGreatP15
import Derived.Test.YtdidjhillmgccaaGreatZNew
namespace Go.Proofs.YtdidjhillmgccaaGreat
set_option maxRecDepth 100000
set_option maxHeartbeats 40000000
namespace Z
open Go.RowKit
open T (Sep Ob Kp Mf FlIn boxOb)
structure Rp where
 code:List (List Ri)
 gates:List Rg
 dep:Int
structure Rp.Is (R:Rp):Prop where
 code:∀r∈R.code,∀i∈r,i.Is
def Rp.Gt (R:Rp)(k:Nat):Prop:=∃(h:k<R.gates.length) (h2:k<R.code.length),RowOk R.code[k] R.gates.length∧R.gates[k].Ok R.code[k].length
structure Rp.Ok (R:Rp)(m:Nat):Prop where
 n1:1≤R.gates.length∧R.gates.length≤16
 nc:R.code.length=R.gates.length
 dp:0≤R.dep∧R.dep≤16
 mm:m≤65536
 gt:∀k,k<R.gates.length→R.Gt k
def Rp.pr (R:Rp):Pr:=⟨R.code.map fun r=>r.map Ri.fi,R.gates.map Rg.fg,R.dep⟩
structure RpIn (w:World)(ca ga:Option Addr)(R:Rp):Prop where
 code:∀k (h:k<R.code.length),∃(b off:Nat) (ra:Option Addr) (rc:Nat),ca=some ⟨b,off,none⟩∧b<w.heap.size∧w.cell? ⟨b,off+k,none⟩=some (.slice ra R.code[k].length rc)∧T.EIn 5 Ri.vals w ra R.code[k]
 gate:∀k (h:k<R.gates.length),∃b off:Nat,ga=some ⟨b,off,none⟩∧b<w.heap.size∧w.rangeAt b (off+k*19) R.gates[k].vals
theorem RpIn.gr {w W:World}{ca ga:Option Addr}{R:Rp}(h:RpIn w ca ga R)(g:Gr w W):RpIn W ca ga R:=by
 refine⟨fun k hk=>?_,fun k hk=>?_⟩
 ·obtain⟨b,off,ra,rc,e1,e2,e3,e4⟩:=h.code k hk;exact⟨b,off,ra,rc,e1,Nat.lt_of_lt_of_le e2 g.below.size,(T.cell_of_block (g.below.block b e2) _).trans e3,e4.below g.below⟩
 ·obtain⟨b,off,e1,e2,e3⟩:=h.gate k hk;exact⟨b,off,e1,Nat.lt_of_lt_of_le e2 g.below.size,fun i v q=>(T.cell_of_block (g.below.block b e2) _).trans (e3 i v q)⟩
theorem Rg.one (g:Rg):g.vals.toArray.all (fun x=>x.oneCell')=true:=by
 rw[Array.all_eq_true_iff_forall_mem];intro u hu;simp only[List.mem_toArray,Rg.vals,List.mem_cons]at hu;rcases hu with rfl|rfl|rfl|hu
 ·rfl
 ·rfl
 ·rfl
 ·exact regs_one g.r u hu
theorem Rp.Ok.pr {R:Rp}{m:Nat}(h:R.Ok m)(hi:R.Is):R.pr.Ok:=by
 have hcl:R.pr.code.length=R.code.length:=by simp[Rp.pr]
 have hgl:R.pr.gates.length=R.gates.length:=by simp[Rp.pr]
 refine⟨by rw[hgl];exact h.n1,by rw[hcl,hgl];exact h.nc,h.dp,fun r hr=>?_,fun k h1 h2=>?_⟩
 ·rw[hgl];simp only[Rp.pr,List.mem_map]at hr;obtain⟨r0,hr0,rfl⟩:=hr;obtain⟨k,hk,rfl⟩:=List.getElem_of_mem hr0;obtain⟨_,_,hrow,_⟩:=h.gt k (by rw[←h.nc];exact hk);refine⟨by rw[List.length_map];exact hrow.1,fun i hi2=>?_⟩;rw[List.length_map];obtain⟨i0,hi0,rfl⟩:=List.mem_map.1 hi2;obtain⟨j,hj,rfl⟩:=List.getElem_of_mem hi0;exact((hrow.2 j hj).fi (hi.code _ hr0 _ hi0)).1
 ·obtain⟨q1,q2,hrow,hg⟩:=h.gt k (by rw[←hgl];exact h1);have e1:R.pr.gates[k]=R.gates[k].fg:=by simp[Rp.pr]
  have e2:R.pr.code[k].length=R.code[k].length:=by simp[Rp.pr]
  rw[e1,e2];obtain⟨a1,a2,a3⟩:=hg;refine⟨?_,?_,?_⟩
  ·show R.gates[k].e.toNat<_;omega
  ·show R.gates[k].a.toNat≤7;omega
  ·show R.gates[k].s.toNat≤7;omega
theorem Rp.Ok.rw {R:Rp}{m:Nat}(h:R.Ok m)(hi:R.Is){w:World}{ca ga:Option Addr}(hR:RpIn w ca ga R):RwIn w ca ga R.pr:=by
 have hcl:R.pr.code.length=R.code.length:=by simp[Rp.pr]
 have hgl:R.pr.gates.length=R.gates.length:=by simp[Rp.pr]
 refine⟨fun k hk=>?_,fun k hk=>?_⟩
 ·have hk2:k<R.code.length:=by rw[←hcl];exact hk
  obtain⟨b,off,ra,rc,e1,e2,e3,e4⟩:=hR.code k hk2;have e5:R.pr.code[k]=R.code[k].map Ri.fi:=by simp[Rp.pr]
  obtain⟨_,_,hrow,_⟩:=h.gt k (by rw[←h.nc];exact hk2);refine⟨b,off,ra,rc,e1,e2,by rw[e5,List.length_map];exact e3,?_⟩;rw[e5];intro j hj;have hj2:j<R.code[k].length:=by simpa using hj
  obtain⟨b2,off2,f1,f2,f3⟩:=e4 j hj2;refine⟨b2,off2,f1,f2,?_⟩;rw[List.getElem_map,((hrow.2 j hj2).fi (hi.code _ (List.getElem_mem hk2) _ (List.getElem_mem hj2))).2];exact f3
 ·have hk2:k<R.gates.length:=by rw[←hgl];exact hk
  obtain⟨b,off,e1,e2,e3⟩:=hR.gate k hk2;obtain⟨_,_,_,hg⟩:=h.gt k hk2;have e5:R.pr.gates[k]=R.gates[k].fg:=by simp[Rp.pr]
  refine⟨b,off,e1,e2,?_⟩;rw[e5,hg.vals];exact e3
theorem mayBe_any (R:Rp)(ca ga:Option Addr)(cc gc:Nat)(mem:ByteArray)(w:World)(hP:RpIn w ca ga R)(is:R.Is):
 Calls Tryz.prog 41 #[.agg #[.slice ca R.code.length cc,.slice ga R.gates.length gc,.string mem,.int .i64 R.dep]] w fun x w'=>Says (R.Ok mem.size) x∧Gr w w':=by
 replace is:=ζ is;go_enter Tryz.func41,Tryz.ntmps41;go_upto_region 1 with fail
 refine wp_world (fun W=>At W w.heap.size #[.slice ca R.code.length cc,.slice ga R.gates.length gc,.string mem,.int .i64 R.dep]∧Gr w W) ⟨At.new w _ _,(Gr.refl _).alloc _⟩ ?_;rintro W ⟨hA,G⟩;replace hP:=ζ (hP.gr G);generalize w.heap.size=kp at*;have c0:W.cell? ⟨kp,0,none⟩=some (.slice ca R.code.length cc):=hA.2.1 0;have c1:W.cell? ⟨kp,1,none⟩=some (.slice ga R.gates.length gc):=hA.2.1 1;have c2:W.cell? ⟨kp,2,none⟩=some (.string mem):=hA.2.1 2;have c3:W.cell? ⟨kp,3,none⟩=some (.int .i64 R.dep):=hA.2.1 3;replace hA:=ζ hA;by_cases n1:1≤(R.gates.length:Int)∧(R.gates.length:Int)≤16;rotate_left
 ·skip
  have z:Hz (Says (R.Ok mem.size) (.returned (.bool false))):=ζ ⟨false,rfl,iff_of_false (by decide) (fun q=>absurd q.n1 (by omega))⟩;go_wp2_with fail;refine(isWithin_no _ _ _ _ (by omega)).mono ?_;rintro r w1 ⟨rfl,e1⟩;subst e1;go_wp2_with fail;go_ret;exact⟨z.out,G⟩
 by_cases nc:R.code.length=R.gates.length;rotate_left
 ·have nci:((R.code.length:Int) != (R.gates.length:Int))=true:=by simp;omega
  have z:Hz (Says (R.Ok mem.size) (.returned (.bool false))):=ζ ⟨false,rfl,iff_of_false (by decide) (fun q=>absurd q.nc nc)⟩;clear nc;go_wp2_with fail;refine(isWithin_ok _ _ _ _ (by omega) (by omega)).mono ?_;rintro r w1 ⟨rfl,e1⟩;subst e1;go_wp2_with fail;go_ret;exact⟨z.out,G⟩
 have nci:((R.code.length:Int) != (R.gates.length:Int))=false:=by simp[nc]
 replace nc:=ζ nc;by_cases dp:0≤R.dep∧R.dep≤16;rotate_left
 ·skip
  have z:Hz (Says (R.Ok mem.size) (.returned (.bool false))):=ζ ⟨false,rfl,iff_of_false (by decide) (fun q=>absurd q.dp dp)⟩;go_wp2_with fail;refine(isWithin_ok _ _ _ _ (by omega) (by omega)).mono ?_;rintro r w1 ⟨rfl,e1⟩;subst e1;go_wp2_with fail;refine(isWithin_no _ _ _ _ (by omega)).mono ?_;rintro r w2 ⟨rfl,e1⟩;subst e1;go_wp2_with fail;go_ret;exact⟨z.out,G⟩
 by_cases hmi:(65536:Int)<(mem.size:Int)
 ·skip
  have z:Hz (Says (R.Ok mem.size) (.returned (.bool false))):=ζ ⟨false,rfl,iff_of_false (by decide) (fun q=>absurd q.mm (by omega))⟩;go_wp2_with fail;refine(isWithin_ok _ _ _ _ (by omega) (by omega)).mono ?_;rintro r w1 ⟨rfl,e1⟩;subst e1;go_wp2_with fail;refine(isWithin_ok _ _ _ _ (by omega) (by omega)).mono ?_;rintro r w2 ⟨rfl,e1⟩;subst e1;go_wp2_with fail;go_ret;exact⟨z.out,G⟩
 have hlen:R.gates.length≤1000000:=by omega
 go_wp2_with fail;refine(isWithin_ok _ _ _ _ (by omega) (by omega)).mono ?_;rintro r w1 ⟨rfl,e1⟩;subst e1;go_wp2_with fail;refine(isWithin_ok _ _ _ _ (by omega) (by omega)).mono ?_;rintro r w2 ⟨rfl,e1⟩;subst e1;go_upto_region 6 with fail
 clear c0 c1 c2 c3;go_loopw [32] (fun x wr=>∃k:Nat,x=.int .i64 k∧k≤R.gates.length∧Hz (∀m,m<k→R.Gt m)∧Hz (Gr w2 wr)) (fun x _=>R.gates.length - (intOf x).toNat)
 case atStart=>exact⟨0,rfl,Nat.zero_le _,ζ (fun m q=>absurd q (Nat.not_lt_zero _)),ζ (Gr.refl _)⟩
 case round=>
  obtain⟨k,rfl,hk,hbe,G2⟩:=hrel;by_cases hlt:k<R.gates.length
  ·have hk1:(k:Int)<(R.gates.length:Int):=Int.ofNat_lt.2 hlt;have hkc:k<R.code.length:=by rw[nc.out];exact hlt
   have hk2:(k:Int)<(R.code.length:Int):=Int.ofNat_lt.2 hkc;have his:=ζ (is.out.code _ (List.getElem_mem hkc));obtain⟨gb,goff,rfl,hgb,hgr⟩:=(hP.out.gr G2.out).gate k hlt;go_upto_region 7 with fail
   refine wp_region_lit ?_;iterate 2 (refine xp fun K hK=>?_;go_simp;with_reducible refine hK _ _ ?_;clear hK K;(try simp only[xap]))
   refine xp fun K hK=>?_
   refine wp_load_mid _ _ rfl _ (goff+k*19) rfl R.gates[k].vals _ hgr Tryz.underlying70 rfl (by rw[Rg.len];kernel_rfl) (hK _ _ ?_);clear hK K;try simp only[xap]
   refine xp fun K hK=>?_
   go_simp;with_reducible refine hK _ _ ?_
   clear hK K;try simp only[xap]
   have hA7:At (wr.alloc (.cells (List.toArray [Value.int .i64 0,.int .i64 0,.int .i64 0,.int .u64 0,.int .u64 0,.int .u64 0,.int .u64 0,.int .u64 0,.int .u64 0,.int .u64 0,.int .u64 0,.int .u64 0,.int .u64 0,.int .u64 0,.int .u64 0,.int .u64 0,.int .u64 0,.int .u64 0,.int .u64 0]) 70)) wr.heap.size (List.toArray [Value.int .i64 0,.int .i64 0,.int .i64 0,.int .u64 0,.int .u64 0,.int .u64 0,.int .u64 0,.int .u64 0,.int .u64 0,.int .u64 0,.int .u64 0,.int .u64 0,.int .u64 0,.int .u64 0,.int .u64 0,.int .u64 0,.int .u64 0,.int .u64 0,.int .u64 0]):=At.new wr _ _;have hth:=ζ (At.there hA7 0 19 (by decide));have hA8:=ζ (At.setAll hA7 R.gates[k].vals (by rw[Rg.len];rfl));have g8:=ζ (Gr.setCells ((Gr.refl wr).alloc (.cells (List.toArray [Value.int .i64 0,.int .i64 0,.int .i64 0,.int .u64 0,.int .u64 0,.int .u64 0,.int .u64 0,.int .u64 0,.int .u64 0,.int .u64 0,.int .u64 0,.int .u64 0,.int .u64 0,.int .u64 0,.int .u64 0,.int .u64 0,.int .u64 0,.int .u64 0,.int .u64 0]) 70)) wr.heap.size (Nat.le_refl _) R.gates[k].vals 0)
   rw[←Rg.len R.gates[k]]at hth;clear hA7;refine xp fun K hK=>?_
   go_simp;with_reducible refine hK _ _ ?_
   clear hK K;try simp only[xap]
   refine xp fun K hK=>?_
   refine wp_store_mid _ _ _ rfl _ _ (List.toArray R.gates[k].vals) rfl rfl (by simpa using hth.out) (by rw[List.size_toArray,Rg.len];kernel_rfl) (Rg.one _) (hK _ _ ?_);clear hK K;try simp only[Act.put]
   generalize World.setCells _ _ _ _=V at*;have hA9:=hA8;have G3:=ζ (G2.out.trans g8.out);clear hA8 g8 hth hgr hgb;generalize wr.heap.size=kg at*;clear G2;have hAp:=ζ (hA.out.gr G3.out);obtain⟨b,off,ra,rc,e9,hb9,hcc,hE⟩:=(hP.out.gr G3.out).code k hkc;subst e9;replace hE:=ζ hE;have KS:Hz (∀U,Gr V U→U.cell? ⟨kp,0,none⟩=some (.slice (some ⟨b,off,none⟩) R.code.length cc)∧U.cell? ⟨kp,1,none⟩=some (.slice (some ⟨gb,goff,none⟩) R.gates.length gc)∧U.cell? ⟨b,off+k,none⟩=some (.slice ra R.code[k].length rc)∧U.rangeAt kg 0 R.gates[k].vals):=ζ (fun U g=>⟨(hAp.out.gr g).2.1 0,(hAp.out.gr g).2.1 1,(T.cell_of_block (g.below.block b hb9) _).trans hcc,(hA9.out.gr g).range⟩);have g0:Gr V V.drew:=(Gr.refl V).drew;clear hb9 hcc;by_cases hrow:RowOk R.code[k] R.gates.length;rotate_left
   ·skip
    have z:Hz (Says (R.Ok mem.size) (.returned (.bool false))):=ζ ⟨false,rfl,iff_of_false (by decide) (fun q=>absurd (q.gt k hlt) (fun⟨_,_,a,_⟩=>hrow a))⟩;replace hrow:=ζ hrow;go_upto_region 8 with fail
    refine wp_region_held_drew (S:=(fun W=>W.cell? ⟨kp,0,none⟩=some (.slice (some ⟨b,off,none⟩) R.code.length cc)∧W.cell? ⟨kp,1,none⟩=some (.slice (some ⟨gb,goff,none⟩) R.gates.length gc)∧W.cell? ⟨b,off+k,none⟩=some (.slice ra R.code[k].length rc)∧W.rangeAt kg 0 R.gates[k].vals)) (by kernel_rfl) (KS.out _ g0) (fun hHeld=>?_);refine xz 0 rfl (h:=xz 1 rfl (h:=xz 2 rfl (h:=xz 3 rfl (h:=xz 4 rfl (h:=xz 5 rfl (h:=xz 6 rfl (h:=xz 7 rfl (h:=?_))))))));try simp only[xap]
    refine xrd 8 rfl (fun K hK=>?_);go_simp;go_wp2_with(refine(row_any R.code[k] ra rc R.gates.length _ (hE.out.below g0.below) his.out (by omega)).mono ?_;rintro r U1 ⟨⟨b8,rfl,hb8⟩,gg⟩;obtain rfl:b8=false:=(by cases b8;rfl;exact absurd (hb8.1 rfl) hrow.out);clear hb8;have g1:=g0.trans gg;clear gg g0 hHeld);refine hK.out _ _ (KS.out _ g1) (fun hHeld=>?_);clear hK K;try simp only[xap]
    refine xz 9 rfl (h:=xz 10 rfl (h:=?_));try simp only[xap]
    refine xtk 11 (v:=undef) rfl (Or.inr ⟨by rfl,rfl⟩) ?_;try simp only[xap]
    refine xtk 12 (v:=undef) rfl (Or.inr ⟨by rfl,rfl⟩) ?_;try simp only[xap]
    refine xtk 13 (v:=undef) rfl (Or.inr ⟨by rfl,rfl⟩) ?_;try simp only[xap]
    refine xtk 14 (v:=undef) rfl (Or.inr ⟨by rfl,rfl⟩) ?_;try simp only[xap]
    refine xtk 15 (v:=undef) rfl (Or.inr ⟨by rfl,rfl⟩) ?_;try simp only[xap]
    refine xtk 16 (v:=undef) rfl (Or.inr ⟨by rfl,rfl⟩) ?_;try simp only[xap]
    refine xtk 17 (v:=undef) rfl (Or.inr ⟨by rfl,rfl⟩) ?_;try simp only[xap]
    refine xtk 18 (v:=undef) rfl (Or.inr ⟨by rfl,rfl⟩) ?_;try simp only[xap]
    refine xtk 19 (v:=undef) rfl (Or.inr ⟨by rfl,rfl⟩) ?_;try simp only[xap]
    refine xz 20 rfl (h:=?_);try simp only[xap]
    refine xdn ?_ _;clear hHeld KS;have G4:=ζ (G.trans (G3.out.trans g1));clear G3 g1 hE hAp hA9;go_wp2_with fail;go_ret;exact⟨z.out,G4.out⟩
   have hr4:=hrow.1;replace hrow:=ζ hrow;by_cases hga:R.gates[k].Ok R.code[k].length;rotate_left
   ·skip
    have z:Hz (Says (R.Ok mem.size) (.returned (.bool false))):=ζ ⟨false,rfl,iff_of_false (by decide) (fun q=>absurd (q.gt k hlt) (fun⟨_,_,_,a⟩=>hga a))⟩;replace hga:=ζ hga;go_upto_region 8 with fail
    refine wp_region_held_drew (S:=(fun W=>W.cell? ⟨kp,0,none⟩=some (.slice (some ⟨b,off,none⟩) R.code.length cc)∧W.cell? ⟨kp,1,none⟩=some (.slice (some ⟨gb,goff,none⟩) R.gates.length gc)∧W.cell? ⟨b,off+k,none⟩=some (.slice ra R.code[k].length rc)∧W.rangeAt kg 0 R.gates[k].vals)) (by kernel_rfl) (KS.out _ g0) (fun hHeld=>?_);refine xz 0 rfl (h:=xz 1 rfl (h:=xz 2 rfl (h:=xz 3 rfl (h:=xz 4 rfl (h:=xz 5 rfl (h:=xz 6 rfl (h:=xz 7 rfl (h:=?_))))))));try simp only[xap]
    refine xrd 8 rfl (fun K hK=>?_);go_simp;go_wp2_with(refine(row_any R.code[k] ra rc R.gates.length _ (hE.out.below g0.below) his.out (by omega)).mono ?_;rintro r U1 ⟨⟨b8,rfl,hb8⟩,gg⟩;obtain rfl:b8=true:=hb8.2 hrow.out;clear hb8;have g1:=g0.trans gg;clear gg g0 hHeld);refine hK.out _ _ (KS.out _ g1) (fun hHeld=>?_);clear hK K;try simp only[xap]
    refine xz 9 rfl (h:=xz 10 rfl (h:=?_));try simp only[xap]
    refine xtk 11 rfl (yieldsIf_load_mid (by rfl) _ _ rfl _ _ rfl _ _ (fun _ h=>h.2.2.2) Tryz.underlying70 rfl (by rw[Rg.len];kernel_rfl)) ?_;try simp only[xap]
    refine xz 12 rfl (h:=?_);try simp only[xap]
    refine xz 13 rfl (h:=?_);try simp only[xap]
    refine xz 14 rfl (h:=?_);try simp only[xap]
    refine xz 15 rfl (h:=?_);try simp only[xap]
    refine xz 16 rfl (h:=?_);try simp only[xap]
    refine xz 17 rfl (h:=?_);try simp only[xap]
    refine xrd 18 rfl (fun K hK=>?_);go_simp;go_wp2_with(refine(rgate_any R.gates[k] R.code[k].length _ (by omega)).mono ?_;rintro r U2 ⟨⟨b9,rfl,hb9⟩,gg⟩;obtain rfl:b9=false:=(by cases b9;rfl;exact absurd (hb9.1 rfl) hga.out);clear hb9;have g2:=g1.trans gg;clear gg g1 hHeld);refine hK.out _ _ (KS.out _ g2) (fun hHeld=>?_);clear hK K;try simp only[xap]
    refine xz 19 rfl (h:=xz 20 rfl (h:=?_));try simp only[xap]
    refine xdn ?_ _;clear hHeld KS;have G4:=ζ (G.trans (G3.out.trans g2));clear G3 g2 hE hAp hA9;go_wp2_with fail;go_ret;exact⟨z.out,G4.out⟩
   replace hga:=ζ hga;have hbe2:Hz (∀m,m<k+1→R.Gt m):=ζ (fun m q=>by
    by_cases e:m<k
    ·exact hbe.out m e
    ·obtain rfl:m=k:=by omega
     exact⟨hlt,hkc,hrow.out,hga.out⟩)
   go_upto_region 8 with fail;refine wp_region_held_drew (S:=(fun W=>W.cell? ⟨kp,0,none⟩=some (.slice (some ⟨b,off,none⟩) R.code.length cc)∧W.cell? ⟨kp,1,none⟩=some (.slice (some ⟨gb,goff,none⟩) R.gates.length gc)∧W.cell? ⟨b,off+k,none⟩=some (.slice ra R.code[k].length rc)∧W.rangeAt kg 0 R.gates[k].vals)) (by kernel_rfl) (KS.out _ g0) (fun hHeld=>?_);refine xz 0 rfl (h:=xz 1 rfl (h:=xz 2 rfl (h:=xz 3 rfl (h:=xz 4 rfl (h:=xz 5 rfl (h:=xz 6 rfl (h:=xz 7 rfl (h:=?_))))))));try simp only[xap]
   refine xrd 8 rfl (fun K hK=>?_);go_simp;go_wp2_with(refine(row_any R.code[k] ra rc R.gates.length _ (hE.out.below g0.below) his.out (by omega)).mono ?_;rintro r U1 ⟨⟨b8,rfl,hb8⟩,gg⟩;obtain rfl:b8=true:=hb8.2 hrow.out;clear hb8;have g1:=g0.trans gg;clear gg g0 hHeld);refine hK.out _ _ (KS.out _ g1) (fun hHeld=>?_);clear hK K;try simp only[xap]
   refine xz 9 rfl (h:=xz 10 rfl (h:=?_));try simp only[xap]
   refine xtk 11 rfl (yieldsIf_load_mid (by rfl) _ _ rfl _ _ rfl _ _ (fun _ h=>h.2.2.2) Tryz.underlying70 rfl (by rw[Rg.len];kernel_rfl)) ?_;try simp only[xap]
   refine xz 12 rfl (h:=?_);try simp only[xap]
   refine xz 13 rfl (h:=?_);try simp only[xap]
   refine xz 14 rfl (h:=?_);try simp only[xap]
   refine xz 15 rfl (h:=?_);try simp only[xap]
   refine xz 16 rfl (h:=?_);try simp only[xap]
   refine xz 17 rfl (h:=?_);try simp only[xap]
   refine xrd 18 rfl (fun K hK=>?_);go_simp;go_wp2_with(refine(rgate_any R.gates[k] R.code[k].length _ (by omega)).mono ?_;rintro r U2 ⟨⟨b9,rfl,hb9⟩,gg⟩;obtain rfl:b9=true:=hb9.2 hga.out;clear hb9;have g2:=g1.trans gg;clear gg g1 hHeld);refine hK.out _ _ (KS.out _ g2) (fun hHeld=>?_);clear hK K;try simp only[xap]
   refine xz 19 rfl (h:=xz 20 rfl (h:=?_));try simp only[xap]
   refine xdn ?_ _;clear hHeld KS;have G4:=ζ (G3.out.trans g2);clear G3 g2 hE hAp hA9 hbe;go_wp2_with fail;refine⟨⟨k+1,?_,hlt,hbe2,G4⟩,?_⟩
   ·first|rfl|rw[next_wY hlt hlen]|go_num
   ·first|exact next_mY hlt|(rw[next_wY hlt hlen];exact next_mY hlt)
  ·have hk1:¬(k:Int)<(R.gates.length:Int):=fun q=>hlt (Int.ofNat_lt.1 q)
   have z:Hz (Says (R.Ok mem.size) (.returned (.bool true))):=ζ ⟨true,rfl,iff_of_true rfl ⟨by omega,nc.out,dp,by omega,fun m q=>hbe.out m (by omega)⟩⟩;go_wp2_with fail;go_ret;exact⟨z.out,G.trans G2.out⟩
theorem new_no70 (R:Rp)(ca ga:Option Addr)(cc gc:Nat)(mem:List UInt8)(gate:Int)(sa:Option Addr)(n sc:Nat)(vi:Value)(w:World)(hP:RpIn w ca ga R)(is:R.Is)(h:¬(R.Ok (T.str mem).size∧0≤gate∧gate<(R.gates.length:Int))):
 Calls Tryz.prog 12 #[.agg #[.slice ca R.code.length cc,.slice ga R.gates.length gc,.string (T.str mem),.int .i64 R.dep],.int .i64 gate,.slice sa n sc,vi] w fun x w'=>x=.returned (.tuple #[.pointer none,.int .i64 70])∧Gr w w':=by
 go_enter Tryz.func12,Tryz.ntmps12;go_upto_region 1 with fail
 refine wp_world (fun W=>At W w.heap.size #[.slice ca R.code.length cc,.slice ga R.gates.length gc,.string (T.str mem),.int .i64 R.dep]∧Gr w W) ⟨At.new w _ _,(Gr.refl _).alloc _⟩ ?_;rintro W ⟨hA,G⟩;generalize w.heap.size=kp at*;have d0:W.cell? ⟨kp,0,none⟩=some (.slice ca R.code.length cc):=hA.2.1 0;have d1:W.cell? ⟨kp,1,none⟩=some (.slice ga R.gates.length gc):=hA.2.1 1;have d2:W.cell? ⟨kp,2,none⟩=some (.string (T.str mem)):=hA.2.1 2;have d3:W.cell? ⟨kp,3,none⟩=some (.int .i64 R.dep):=hA.2.1 3;have hmy:=ζ (mayBe_any R ca ga cc gc (T.str mem) W (hP.gr G) is);replace hP:=ζ (hP.gr G);go_wp2_with fail;refine hmy.out.mono ?_;rintro r V ⟨⟨b,rfl,hb⟩,gV⟩;replace hA:=hA.gr gV;replace G:=G.trans gV;replace hP:=ζ (hP.out.gr gV);clear d0 d1 d2 d3 hmy gV;have d1:V.cell? ⟨kp,1,none⟩=some (.slice ga R.gates.length gc):=hA.2.1 1;replace hA:=ζ hA
 cases b
 ·clear h hb;go_wp2_with fail;go_ret2;exact⟨rfl,G⟩
 ·have ok:=ζ (hb.1 rfl);clear hb;by_cases h0:gate<0
  ·clear h;go_wp2_with fail;go_ret2;exact⟨rfl,G⟩
  ·have h1:(R.gates.length:Int)≤gate:=by
    by_cases q:gate<(R.gates.length:Int)
    ·exact absurd ⟨ok.out,by omega,q⟩ h
    ·omega
   clear h;go_wp2_with fail;go_ret2;exact⟨rfl,G⟩
theorem new_raw (R:Rp)(ca ga:Option Addr)(cc gc:Nat)(mem:List UInt8)(gate:Nat)(sa:Option Addr)(n sc:Nat)(A:Nat→Int)(ia:Option Addr)(ic:Nat)(L:List Int)(w:World)(hP:RpIn w ca ga R)(is:R.Is)(ok:R.Ok mem.length)(hgl:gate<R.gates.length)(hna:(n:Int)=R.gates[gate].a)(hsrc:n=0∨∃sb so,sa=some ⟨sb,so,none⟩∧sb<w.heap.size∧∀j,j<n→w.cell? ⟨sb,so+j,none⟩=some (.int .u64 (A j)))(hL:L.length≤2000000)(hI:(ia=none∧L=[]∧ic=0)∨∃b off,ia=some ⟨b,off,none⟩∧b<w.heap.size∧∀i (h:i<L.length),w.cell? ⟨b,off+i,none⟩=some (.int .u64 L[i])):
 Calls Tryz.prog 12 #[.agg #[.slice ca R.code.length cc,.slice ga R.gates.length gc,.string (T.str mem),.int .i64 R.dep],.int .i64 gate,.slice sa n sc,.slice ia L.length ic] w fun x w'=>∃a,x=.returned (.tuple #[.pointer (some ⟨a,0,none⟩),.int .i64 0])∧MIn w.heap.size w' a R.pr (start R.gates[gate].fg gate n A L mem) []∧Below w.heap.size w w':=by
 have e1:R.pr.code.length=R.code.length:=by simp[Rp.pr]
 have e2:R.pr.gates.length=R.gates.length:=by simp[Rp.pr]
 have hg2:gate<R.pr.gates.length:=by rw[e2];exact hgl
 have e3:R.pr.gates[gate]=R.gates[gate].fg:=by simp[Rp.pr]
 have hs:n=R.pr.gates[gate].a:=by
  rw[e3];show n=R.gates[gate].a.toNat;omega
 have h:=new_ok R.pr ca ga cc gc mem gate sa n sc A ia ic L w (ok.rw is hP) (ok.pr is) ok.mm hg2 hs hsrc hL hI;rw[e1,e2,e3]at h;exact h
theorem start_ok (R:Rp)(m:Nat)(gate n:Nat)(A:Nat→Int)(L:List Int)(mem:List UInt8)(ok:R.Ok m)(rr:∀k (h:k<R.gates.length) j,0≤R.gates[k].r j∧R.gates[k].r j<18446744073709551616)(hg:gate<R.gates.length)(hA:∀j,0≤A j∧A j<18446744073709551616):(start R.gates[gate].fg gate n A L mem).g<R.pr.code.length∧(start R.gates[gate].fg gate n A L mem).p≤400∧∀j,0≤(start R.gates[gate].fg gate n A L mem).r j∧(start R.gates[gate].fg gate n A L mem).r j<18446744073709551616:=by
 obtain⟨_,h2,hrow,hgt⟩:=ok.gt gate hg;refine⟨?_,?_,fun j=>?_⟩
 ·show gate<(R.code.map _).length;simpa using h2
 ·show R.gates[gate].e.toNat≤400;have h3:=hgt.1;have h4:=hrow.1;omega
 ·show 0≤entR R.gates[gate].fg n A j∧entR R.gates[gate].fg n A j<18446744073709551616;unfold entR
  split
  ·exact hA _
  ·exact rr gate hg j
structure Rp.Wds (R:Rp):Prop where
 code:R.Is
 root:∀g∈R.gates,∀j,Wd (g.r j)
theorem Rp.Wds.rr {R:Rp}(h:R.Wds):R.pr.Rr:=by
 intro k j;unfold Pr.gate;by_cases hk:k<R.gates.length
 ·have e:R.pr.gates.getD k ⟨0,0,0,fun _=>0⟩=R.gates[k].fg:=by simp[Rp.pr,hk]
  rw[e];exact h.root _ (List.getElem_mem hk) j
 ·have e:R.pr.gates.getD k ⟨0,0,0,fun _=>0⟩=⟨0,0,0,fun _=>0⟩:=by
   have:R.pr.gates.length≤k:=by simp[Rp.pr];omega
   simp[this]
  rw[e];exact wd0
theorem start_okn (R:Rp)(m:Nat)(gate n:Nat)(A:Nat→Int)(L:List Int)(mem:List UInt8)(h:R.Wds)(ok:R.Ok m)(hg:gate<R.gates.length)(hA:∀j,Wd (A j))(hL:∀x∈L,Wd x)(hl:L.length≤2000000):(start R.gates[gate].fg gate n A L mem).Okn R.pr 0:=by
 obtain⟨h1,h2,h3⟩:=start_ok R m gate n A L mem ok (fun k hk j=>h.root _ (List.getElem_mem hk) j) hg hA;refine⟨h1,h2,h3,?_,fun f hf=>?_,hL,?_,fun x hx=>?_,Nat.le_refl _,Nat.le_refl _,wd0⟩
 ·show((0:Nat):Int)≤R.dep;have:=ok.dp;omega
 ·cases hf
 ·show L.length≤_;omega
 ·cases hx
theorem stepsM_end (P:Pr)(s:Fm)(n:Nat)(h:s.e≠0):stepsM P s n=s:=by
 have:=stepsM_over P s 0 n h
 rwa [Nat.zero_add]at this
def WIn (w:World)(a:Option Addr)(L:List Int):Prop:=∀i (h:i<L.length),∃b off:Nat,a=some ⟨b,off,none⟩∧b<w.heap.size∧w.cell? ⟨b,off+i,none⟩=some (.int .u64 L[i])
theorem WIn.gr {w W:World}{a:Option Addr}{L:List Int}(h:WIn w a L)(g:Gr w W):WIn W a L:=fun i hi=>by
 obtain⟨b,off,e1,e2,e3⟩:=h i hi;exact⟨b,off,e1,Nat.lt_of_lt_of_le e2 g.below.size,(T.cell_of_block (g.below.block b e2) _).trans e3⟩
theorem sameWords_any (A B:List Int)(sa sb:Option Addr)(ca cb:Nat)(w:World)(hA:WIn w sa A)(hB:WIn w sb B)(hl:A.length≤1000000):
 Calls Tryz.prog 32 #[.slice sa A.length ca,.slice sb B.length cb] w fun x w'=>Says (A=B) x∧Gr w w':=by
 by_cases hn:A.length=B.length;rotate_left
 ·have hni:((A.length:Int) != (B.length:Int))=true:=by simp;omega
  have z:Hz (Says (A=B) (.returned (.bool false))):=ζ ⟨false,rfl,iff_of_false (by decide) (fun q=>hn (by rw[q]))⟩;clear hn;go_enter Tryz.func32,Tryz.ntmps32;go_wp2_with fail;go_ret;exact⟨z.out,Gr.refl _⟩
 have hni:((A.length:Int) != (B.length:Int))=false:=by simp;omega
 replace hA:=ζ hA;replace hB:=ζ hB;replace hn:=ζ hn;go_enter Tryz.func32,Tryz.ntmps32;go_upto_region 4 with fail
 go_loopw [5] (fun x wr=>∃j:Nat,x=.int .i64 j∧j≤A.length∧Hz (∀m (h:m<A.length) (h2:m<B.length),m<j→A[m]=B[m])∧Hz (Gr w wr)) (fun x _=>A.length - (intOf x).toNat)
 case atStart=>exact⟨0,rfl,Nat.zero_le _,ζ (fun m _ _ q=>absurd q (Nat.not_lt_zero _)),ζ (Gr.refl _)⟩
 case round=>
  obtain⟨j,rfl,hjl,hbe,G⟩:=hrel;by_cases hj:j<A.length
  ·have hj2:j<B.length:=by rw[←hn.out];exact hj
   have hj1:(j:Int)<(A.length:Int):=Int.ofNat_lt.2 hj;have hj3:(j:Int)<(B.length:Int):=Int.ofNat_lt.2 hj2;obtain⟨b1,o1,rfl,k1,c1⟩:=(hA.out.gr G.out) j hj;obtain⟨b2,o2,rfl,k2,c2⟩:=(hB.out.gr G.out) j hj2;have GD:Gr wr wr.drew:=(Gr.refl wr).drew;by_cases he:A[j]=B[j];rotate_left
   ·have hei:(A[j] != B[j])=true:=by simpa using he
    have z:Hz (Says (A=B) (.returned (.bool false))):=ζ ⟨false,rfl,iff_of_false (by decide) (fun q=>he (by subst q;rfl))⟩;clear he;go_upto_region 6 with fail
    refine wp_region_held_drew (S:=(fun W=>W.cell? ⟨b1,o1+j,none⟩=some (.int .u64 (A[j]'hj))∧W.cell? ⟨b2,o2+j,none⟩=some (.int .u64 (B[j]'hj2)))) (by kernel_rfl) (⟨(T.cell_of_block (GD.below.block b1 k1) _).trans c1,(T.cell_of_block (GD.below.block b2 k2) _).trans c2⟩) (fun hHeld=>?_);refine xz 0 rfl (h:=xz 1 rfl (h:=xz 2 rfl (h:=xz 3 rfl (h:=xz 4 rfl (h:=xz 5 rfl (h:=xz 6 rfl (h:=xz 7 rfl (h:=xz 8 rfl (h:=?_)))))))));try simp only[xap]
    refine xdn ?_ _;clear hHeld;go_wp2_with fail;go_ret;exact⟨z.out,G.out.trans GD⟩
   have hei:(A[j] != B[j])=false:=by simpa using he
   have hbe2:Hz (∀m (h:m<A.length) (h2:m<B.length),m<j+1→A[m]=B[m]):=ζ (fun m h h2 q=>by
    by_cases e:m<j
    ·exact hbe.out m h h2 e
    ·obtain rfl:m=j:=by omega
     exact he)
   replace he:=ζ he;go_upto_region 6 with fail
   refine wp_region_held_drew (S:=(fun W=>W.cell? ⟨b1,o1+j,none⟩=some (.int .u64 (A[j]'hj))∧W.cell? ⟨b2,o2+j,none⟩=some (.int .u64 (B[j]'hj2)))) (by kernel_rfl) (⟨(T.cell_of_block (GD.below.block b1 k1) _).trans c1,(T.cell_of_block (GD.below.block b2 k2) _).trans c2⟩) (fun hHeld=>?_);refine xz 0 rfl (h:=xz 1 rfl (h:=xz 2 rfl (h:=xz 3 rfl (h:=xz 4 rfl (h:=xz 5 rfl (h:=xz 6 rfl (h:=xz 7 rfl (h:=xz 8 rfl (h:=?_)))))))));try simp only[xap]
   refine xdn ?_ _;clear hHeld;have G4:=ζ (G.out.trans GD);clear hbe G GD he;go_wp2_with fail;refine⟨⟨j+1,?_,hj,hbe2,G4⟩,?_⟩
   ·first|rfl|(rw[show wrap64 ((j:Int)+1)=((j+1:Nat):Int)by unfold wrap64;omega])|go_num
   ·first|(simp[intOf];omega)|(rw[show wrap64 ((j:Int)+1)=((j+1:Nat):Int)by unfold wrap64;omega];simp[intOf];omega)
  ·have hj1:¬(j:Int)<(A.length:Int):=fun q=>hj (Int.ofNat_lt.1 q)
   have z:Hz (Says (A=B) (.returned (.bool true))):=ζ ⟨true,rfl,iff_of_true rfl (List.ext_getElem hn.out (fun m h h2=>hbe.out m h h2 (by omega)))⟩;go_wp2_with fail;go_ret;exact⟨z.out,G.out⟩
theorem entry_none (R:Rp)(ca ga:Option Addr)(cc gc:Nat)(mem:ByteArray)(gate:Int)(v:Value)(w:World)(h:R.gates.length=0∨gate<0):
 Calls Tryz.prog 5 #[.agg #[.slice ca R.code.length cc,.slice ga R.gates.length gc,.string mem,.int .i64 R.dep],.int .i64 gate,v] w fun x w'=>x=.returned (.tuple #[.int .i64 gate,v])∧Gr w w':=by
 go_enter Tryz.func5,Tryz.ntmps5;go_upto_region 1 with fail
 refine wp_world (fun W=>At W w.heap.size #[.slice ca R.code.length cc,.slice ga R.gates.length gc,.string mem,.int .i64 R.dep]∧Gr w W) ⟨At.new w _ _,(Gr.refl _).alloc _⟩ ?_;rintro W ⟨hQ,G⟩;have hks:Hz (w.heap.size<W.heap.size):=ζ hQ.1;have d1:W.cell? ⟨w.heap.size,1,none⟩=some (.slice ga R.gates.length gc):=hQ.2.1 1;generalize w.heap.size=kp at*;by_cases h0:R.gates.length=0
 ·have hz:((R.gates.length:Int)==0)=true:=by simp[h0]
  clear h h0;go_wp2_with fail;go_ret2;exact⟨rfl,G⟩
 ·have hz:((R.gates.length:Int)==0)=false:=beq_false_of_ne (by omega);have hg:gate<0:=by
   rcases h with q|q
   ·exact absurd q h0
   ·exact q
  clear h h0;go_wp2_with fail;go_ret2;exact⟨rfl,G⟩
theorem own_monoZ {w:World}{lo lo2 e s n:Nat}{v:Value}{xs:List Value}(h:w.ownsRow lo e s v n xs)(hl:lo2≤lo):w.ownsRow lo2 e s v n xs:=by
 refine⟨h.1,?_⟩;rcases h.2 with q|⟨g,cap,cur,e1,e2,e3⟩
 ·exact .inl q
 ·exact .inr ⟨g,cap,cur,e1,Nat.le_trans hl e2,e3⟩
def entL (A:List Int)(n:Nat):List Int:=(List.range n).map fun i=>A.getD i (i:Int)
theorem entL_len (A:List Int)(n:Nat):(entL A n).length=n:=by simp[entL]
theorem entL_succ (A:List Int)(n:Nat):entL A (n+1)=entL A n++[A.getD n (n:Int)]:=by simp[entL,List.range_succ]
theorem entry_any (R:Rp)(ca ga:Option Addr)(cc gc:Nat)(mem:ByteArray)(gate g:Nat)(A:List Int)(sa:Option Addr)(sc:Nat)(w:World)(hP:RpIn w ca ga R)(hA:WIn w sa A)(h0:0<R.gates.length)(hg:g=gate%R.gates.length)(hgl:g<R.gates.length)(n:Nat)(hn:n≤20)(hn2:(n:Int)=R.gates[g].a∨(R.gates[g].a<0∧n=0)∨(20<R.gates[g].a∧n=20)):
 Calls Tryz.prog 5 #[.agg #[.slice ca R.code.length cc,.slice ga R.gates.length gc,.string mem,.int .i64 R.dep],.int .i64 gate,.slice sa A.length sc] w fun x w'=>∃v,x=.returned (.tuple #[.int .i64 g,v])∧w'.ownsRow w.heap.size 51 1 v n ((entL A n).map u64I)∧Below w.heap.size w w':=by
 have hz:((R.gates.length:Int)==0)=false:=beq_false_of_ne (by omega);have hrm:Int.tmod (gate:Int) (R.gates.length:Int)=(g:Int):=by rw[hg];rfl
 have hgi:(g:Int)<(R.gates.length:Int):=Int.ofNat_lt.2 hgl;go_enter Tryz.func5,Tryz.ntmps5;go_upto_region 1 with fail
 refine wp_world (fun W=>At W w.heap.size #[.slice ca R.code.length cc,.slice ga R.gates.length gc,.string mem,.int .i64 R.dep]∧Gr w W) ⟨At.new w _ _,(Gr.refl _).alloc _⟩ ?_;rintro W ⟨hQ,G⟩;have hks:Hz (w.heap.size<W.heap.size):=ζ hQ.1;have d1:W.cell? ⟨w.heap.size,1,none⟩=some (.slice ga R.gates.length gc):=hQ.2.1 1;obtain⟨gb,goff,rfl,hgb,hgr⟩:=(hP.gr G).gate g hgl;have d5:W.cell? ⟨gb,goff+g*19+1,none⟩=some (.int .i64 R.gates[g].a):=hgr 1 _ rfl;obtain⟨ga0,hga⟩:∃z,R.gates[g].a=z:=⟨_,rfl⟩;rw[hga]at d5 hn2;replace hA:=ζ (hA.gr G);replace hg:=ζ hg;replace hgr:=ζ hgr;clear hP hga;go_upto_region 6 with fail
 replace d1:=ζ d1;replace d5:=ζ d5;go_loopw [9,10] (fun v x wr=>∃(la:Option Addr) (lc j:Nat),v=.slice la j lc∧x=.int .i64 j∧j≤n∧Hz (wr.ownsRow W.heap.size 51 1 (.slice la j lc) j ((entL A j).map u64I))∧Hz (Below W.heap.size W wr)) (fun _ x _=>n - (intOf x).toNat)
 case atStart=>exact⟨none,0,0,rfl,rfl,Nat.zero_le _,ζ (World.ownsRow_nil _ _ _ _),ζ (Below.refl _ _)⟩
 case round=>
  obtain⟨la,lc,j,rfl,rfl,hj,hown,hB⟩:=hrel;have e1:=(T.cell_of_block (hB.out.block w.heap.size hks.out) 1).trans d1.out;have e5:=(T.cell_of_block (hB.out.block gb hgb) _).trans d5.out;by_cases hlt:j<n
  ·have q1:(j:Int)<ga0:=by omega
   have q2:(j:Int)<20:=by omega
   by_cases hja:j<A.length
   ·have hji:(j:Int)<(A.length:Int):=Int.ofNat_lt.2 hja;obtain⟨ab,ao,rfl,hab,hac⟩:=hA.out j hja;have e7:=(T.cell_of_block (hB.out.block ab hab) _).trans hac;have hvl:Hz (A.getD j (j:Int)=A[j]):=ζ (by simp[hja]);go_upto_region 11 with fail
    clear e7;refine wp_region_lit ?_;iterate 3 (refine xp fun K hK=>?_;go_simp;with_reducible refine hK _ _ ?_;clear hK K;(try simp only[xap]))
    have hX:At (wr.alloc (.cells #[.int .u64 (A[j]'hja)] 51)) wr.heap.size #[.int .u64 (A[j]'hja)]:=At.new wr _ _;have ho2:(wr.alloc (.cells #[.int .u64 (A[j]'hja)] 51)).ownsRow W.heap.size 51 1 (.slice la j lc) j ((entL A j).map u64I):=hown.out.alloc _;have hB2:Hz (Below W.heap.size W (wr.alloc (.cells #[.int .u64 (A[j]'hja)] 51))):=ζ (hB.out.alloc hB.out.size _);generalize hVV:wr.alloc (.cells #[.int .u64 (A[j]'hja)] 51)=V at*;clear hVV;generalize wr.heap.size=kX at*;refine xp fun K hK=>?_
    refine wp_append_z _ _ 26 51 (.int .u64 0) 1 8 rfl Tryz.underlying26 (by kernel_rfl) (by kernel_rfl) (by decide) (by decide) W.heap.size (.slice la j lc) j ((entL A j).map u64I) [.int .u64 (A[j]'hja)] (by rfl) ho2 kX (by rfl) hX rfl (by simp[Value.oneCell']) (by omega) hB2.out.size ?_;intro g9 cap w9 k1 k2 k3;have hB3:Hz (Below W.heap.size W w9):=ζ (hB2.out.trans ⟨k2.os,k2.tape,k2.output,k2.size,fun k hk=>k2.block k (Nat.lt_of_lt_of_le hk hB2.out.size) (fun e=>by have:=(ho2.lt k e.symm).1;omega)⟩);have k4:Hz (w9.ownsRow W.heap.size 51 1 (.slice (some ⟨g9,0,none⟩) (j+1) cap) (j+1) ((entL A (j+1)).map u64I)):=ζ (by rw[entL_succ,List.map_append,hvl.out];exact k1);clear k1 k2 k3 ho2 hX hB2 hB hown e1 e5;refine hK _ _ ?_;clear hK K;try simp only[xap]
    go_wp2_with fail;refine⟨⟨_,_,j+1,rfl,?_,hlt,k4,hB3⟩,?_⟩
    ·first|rfl|(rw[show wrap64 ((j:Int)+1)=((j+1:Nat):Int)by unfold wrap64;omega])|go_num
    ·first|(simp[intOf];omega)|(rw[show wrap64 ((j:Int)+1)=((j+1:Nat):Int)by unfold wrap64;omega];simp[intOf];omega)
   ·have hji:¬(j:Int)<(A.length:Int):=fun q=>hja (Int.ofNat_lt.1 q)
    have hwr:IntKind.u64.wrap (j:Int)=(j:Int):=by rw[IntKind.wrap_u64];omega
    have hvl:Hz (A.getD j (j:Int)=(j:Int)):=ζ (by simp[hja]);go_upto_region 11 with fail
    refine wp_region_lit ?_;iterate 3 (refine xp fun K hK=>?_;go_simp;with_reducible refine hK _ _ ?_;clear hK K;(try simp only[xap]))
    have hX:At (wr.alloc (.cells #[.int .u64 (j:Int)] 51)) wr.heap.size #[.int .u64 (j:Int)]:=At.new wr _ _;have ho2:(wr.alloc (.cells #[.int .u64 (j:Int)] 51)).ownsRow W.heap.size 51 1 (.slice la j lc) j ((entL A j).map u64I):=hown.out.alloc _;have hB2:Hz (Below W.heap.size W (wr.alloc (.cells #[.int .u64 (j:Int)] 51))):=ζ (hB.out.alloc hB.out.size _);generalize hVV:wr.alloc (.cells #[.int .u64 (j:Int)] 51)=V at*;clear hVV;generalize wr.heap.size=kX at*;refine xp fun K hK=>?_
    refine wp_append_z _ _ 26 51 (.int .u64 0) 1 8 rfl Tryz.underlying26 (by kernel_rfl) (by kernel_rfl) (by decide) (by decide) W.heap.size (.slice la j lc) j ((entL A j).map u64I) [.int .u64 (j:Int)] (by rfl) ho2 kX (by rfl) hX rfl (by simp[Value.oneCell']) (by omega) hB2.out.size ?_;intro g9 cap w9 k1 k2 k3;have hB3:Hz (Below W.heap.size W w9):=ζ (hB2.out.trans ⟨k2.os,k2.tape,k2.output,k2.size,fun k hk=>k2.block k (Nat.lt_of_lt_of_le hk hB2.out.size) (fun e=>by have:=(ho2.lt k e.symm).1;omega)⟩);have k4:Hz (w9.ownsRow W.heap.size 51 1 (.slice (some ⟨g9,0,none⟩) (j+1) cap) (j+1) ((entL A (j+1)).map u64I)):=ζ (by rw[entL_succ,List.map_append,hvl.out];exact k1);clear k1 k2 k3 ho2 hX hB2 hB hown e1 e5;refine hK _ _ ?_;clear hK K;try simp only[xap]
    go_wp2_with fail;refine⟨⟨_,_,j+1,rfl,?_,hlt,k4,hB3⟩,?_⟩
    ·first|rfl|(rw[show wrap64 ((j:Int)+1)=((j+1:Nat):Int)by unfold wrap64;omega])|go_num
    ·first|(simp[intOf];omega)|(rw[show wrap64 ((j:Int)+1)=((j+1:Nat):Int)by unfold wrap64;omega];simp[intOf];omega)
  ·obtain rfl:j=n:=by omega
   have hres:=ζ (And.intro (own_monoZ hown.out G.below.size) ((G.below.trans (hB.out.mono G.below.size))));by_cases q1:(j:Int)<ga0
   ·have q2:¬(j:Int)<20:=by omega
    go_wp2_with fail;go_ret2;exact⟨_,rfl,hres.out⟩
   ·go_wp2_with fail;go_ret2;exact⟨_,rfl,hres.out⟩
theorem sep_same {B B':Nat}{W:World}{l l':List Ob}(h:Sep B W l)(hS:l'.map Ob.S=l.map Ob.S)(hin:∀o∈l',o.In W)(hB:B'≤B):Sep B' W l':=by
 refine⟨hin,?_,fun o ho k q=>?_⟩
 ·have h1:(l.map Ob.S).Pairwise (fun s t=>∀k,s k→¬t k):=List.pairwise_map.2 h.dis;rw[←hS]at h1;exact List.pairwise_map.1 h1
 ·have h1:o.S∈l'.map Ob.S:=List.mem_map_of_mem ho;rw[hS]at h1;obtain⟨p,hp,e⟩:=List.mem_map.1 h1;exact Nat.le_trans hB (h.ge p hp k (by rw[e];exact q))
theorem sep_append {B:Nat}{W:World}{l l':List Ob}(h:Sep B W l)(h':Sep B W l')(hd:∀o∈l,∀p∈l',∀k,o.S k→¬p.S k):Sep B W (l++l'):=by
 refine⟨fun o ho=>?_,List.pairwise_append.2 ⟨h.dis,h'.dis,hd⟩,fun o ho=>?_⟩
 ·rcases List.mem_append.1 ho with r|r
  ·exact h.ins o r
  ·exact h'.ins o r
 ·rcases List.mem_append.1 ho with r|r
  ·exact h.ge o r
  ·exact h'.ge o r
section
variable {B B':Nat} {W W':World} {a b:Nat} {P P':Pr} {s s':Fm} {l:List Ob} {q:Pt}
theorem obs_low (h1:Sep B W (obs B a P s q++l))(hB:B'≤B):Sep B' W (obs B' a P s q++l):=by
 refine sep_same h1 rfl (fun o ho=>?_) hB;rcases List.mem_append.1 ho with r|r
 ·simp only[obs,List.mem_cons,List.not_mem_nil,or_false]at r;rcases r with rfl|rfl|rfl|rfl|rfl|rfl|rfl
  ·exact h1.ins _ (by simp[obs])
  ·exact h1.ins _ (by simp[obs])
  ·exact own_monoZ (h1.ins (stOb B q.sv s.st) (by simp[obs])) hB
  ·exact h1.ins _ (by simp[obs])
  ·exact own_monoZ (h1.ins (ouOb B q.ov_ s.out) (by simp[obs])) hB
  ·exact own_monoZ (h1.ins (tcOb B q.tv s.tc) (by simp[obs])) hB
  ·exact h1.ins _ (by simp[obs])
 ·exact h1.ins o (by simp[r])
end
theorem stepI_cases (P:Pr)(i:Fi)(s:Fm)(C:Fm→Prop)
 (h0:i.op=0→C (stp0 s))
 (h1:i.op=1→C (stp1 i s))
 (h2:i.op=2→C (stp2 i s))
 (h3:i.op=3→C (stp3 i s))
 (h4:i.op=4→C (stp4 i s))
 (h5:i.op=5→C (stp5 i s))
 (h6:i.op=6→C (stp6 i s))
 (h7:i.op=7→C (stp7 i s))
 (h8:i.op=8→C (stp8 i s))
 (h9:i.op=9→C (stp9 i s))
 (h10:i.op=10→C (stp10 i s))
 (h11:i.op=11→C (stp11 i s))
 (h12:i.op=12→C (stp12 i s))
 (h13:i.op=13→C (stp13 i s))
 (h20:i.op=20→C (stp20 i s))
 (h21:i.op=21→C (stp21 i s))
 (h22:i.op=22→C (stp22 i s))
 (h23:i.op=23→C (stp23 i s))
 (h24:i.op=24→C (stp24 i s))
 (h27:i.op=27→C (stp27 i s))
 (h28:i.op=28→C (stp28 i s))
 (h29:i.op=29→C (stp29 i s))
 (h30:i.op=30→C (stp30 i s))
 (h31:i.op=31→C (stp31 P i s))
 (h32:i.op=32→C (stp32 P s))
 (h60:i.op=60→C (stp60 i s))
 (h61:i.op=61→C (stp61 i s))
 (h62:i.op=62→C (stp62 i s))
 (h63:i.op=63→C (stp63 i s))
 (h64:i.op=64→C (stp64 i s))
 (h65:i.op=65→C (stp65 i s))
 (h70:i.op=70→C (stp70 i s))
 (h71:i.op=71→C (stp71 i s))
 (h72:i.op=72→C (stp72 i s))
 (hl:C (s)):C (stepI P i s):=by
 unfold stepI;by_cases q0:i.op=0
 ·rw[if_pos q0];exact h0 q0
 rw[if_neg q0];by_cases q1:i.op=1
 ·rw[if_pos q1];exact h1 q1
 rw[if_neg q1];by_cases q2:i.op=2
 ·rw[if_pos q2];exact h2 q2
 rw[if_neg q2];by_cases q3:i.op=3
 ·rw[if_pos q3];exact h3 q3
 rw[if_neg q3];by_cases q4:i.op=4
 ·rw[if_pos q4];exact h4 q4
 rw[if_neg q4];by_cases q5:i.op=5
 ·rw[if_pos q5];exact h5 q5
 rw[if_neg q5];by_cases q6:i.op=6
 ·rw[if_pos q6];exact h6 q6
 rw[if_neg q6];by_cases q7:i.op=7
 ·rw[if_pos q7];exact h7 q7
 rw[if_neg q7];by_cases q8:i.op=8
 ·rw[if_pos q8];exact h8 q8
 rw[if_neg q8];by_cases q9:i.op=9
 ·rw[if_pos q9];exact h9 q9
 rw[if_neg q9];by_cases q10:i.op=10
 ·rw[if_pos q10];exact h10 q10
 rw[if_neg q10];by_cases q11:i.op=11
 ·rw[if_pos q11];exact h11 q11
 rw[if_neg q11];by_cases q12:i.op=12
 ·rw[if_pos q12];exact h12 q12
 rw[if_neg q12];by_cases q13:i.op=13
 ·rw[if_pos q13];exact h13 q13
 rw[if_neg q13];by_cases q20:i.op=20
 ·rw[if_pos q20];exact h20 q20
 rw[if_neg q20];by_cases q21:i.op=21
 ·rw[if_pos q21];exact h21 q21
 rw[if_neg q21];by_cases q22:i.op=22
 ·rw[if_pos q22];exact h22 q22
 rw[if_neg q22];by_cases q23:i.op=23
 ·rw[if_pos q23];exact h23 q23
 rw[if_neg q23];by_cases q24:i.op=24
 ·rw[if_pos q24];exact h24 q24
 rw[if_neg q24];by_cases q27:i.op=27
 ·rw[if_pos q27];exact h27 q27
 rw[if_neg q27];by_cases q28:i.op=28
 ·rw[if_pos q28];exact h28 q28
 rw[if_neg q28];by_cases q29:i.op=29
 ·rw[if_pos q29];exact h29 q29
 rw[if_neg q29];by_cases q30:i.op=30
 ·rw[if_pos q30];exact h30 q30
 rw[if_neg q30];by_cases q31:i.op=31
 ·rw[if_pos q31];exact h31 q31
 rw[if_neg q31];by_cases q32:i.op=32
 ·rw[if_pos q32];exact h32 q32
 rw[if_neg q32];by_cases q60:i.op=60
 ·rw[if_pos q60];exact h60 q60
 rw[if_neg q60];by_cases q61:i.op=61
 ·rw[if_pos q61];exact h61 q61
 rw[if_neg q61];by_cases q62:i.op=62
 ·rw[if_pos q62];exact h62 q62
 rw[if_neg q62];by_cases q63:i.op=63
 ·rw[if_pos q63];exact h63 q63
 rw[if_neg q63];by_cases q64:i.op=64
 ·rw[if_pos q64];exact h64 q64
 rw[if_neg q64];by_cases q65:i.op=65
 ·rw[if_pos q65];exact h65 q65
 rw[if_neg q65];by_cases q70:i.op=70
 ·rw[if_pos q70];exact h70 q70
 rw[if_neg q70];by_cases q71:i.op=71
 ·rw[if_pos q71];exact h71 q71
 rw[if_neg q71];by_cases q72:i.op=72
 ·rw[if_pos q72];exact h72 q72
 rw[if_neg q72];exact hl
end Z
end Go.Proofs.YtdidjhillmgccaaGreat
