import Derived.Test.YtkhbiaaangnkdaaGreatDoorJ11
import Derived.Test.YtkhbiaaangnkdaaGreatDoorJ09
import Derived.Test.YtkhbiaaangnkdaaGreatDoorJ07
import Derived.Laws.MakeOwn
namespace Go.Proofs.YtkhbiaaangnkdaaGreatDoor
set_option maxRecDepth 100000
set_option maxHeartbeats 40000000
namespace Bd
open Go.RowKit
open T (Kp)
open F (thB nxtI folB IOwn own_slice own_nin rchB boolA NIn NilOk)
def imA (m:PImg)(ra:Option Addr)(rc:Nat)(ca:Option Addr)(cc:Nat)(ga:Option Addr)(gc:Nat):Value:=.agg #[.slice ra m.regs.length rc,.slice ca m.comps.length cc,.slice ga m.gates.length gc,.int .i64 m.depth]
noncomputable def calB (L:List Ins) (e:Int) (pc:Nat):Bool:=rchB L [e] (-1) pc&&(match L[pc]? with|none=>false|some k=>k.op==31)
def imF (L:List Ins)(pc:Nat):Nat:=match L[pc]? with|none=>0|some k=>k.m.toNat
noncomputable def calL (L:List Ins) (e:Int):List Nat:=((List.range L.length).filter (calB L e)).map (imF L)
theorem calL_in {L:List Ins}{e:Int}{n:Nat}(h:CallOk L n):∀g∈calL L e,g<n:=by
 intro g hg;unfold calL at hg;obtain⟨pc,h1,rfl⟩:=List.mem_map.1 hg;obtain⟨h2,h3⟩:=List.mem_filter.1 h1;rw[List.mem_range]at h2;unfold calB at h3;unfold imF;rw[List.getElem?_eq_getElem h2]at h3 ⊢;simp only[Bool.and_eq_true,beq_iff_eq]at h3;have:=h _ (List.getElem_mem h2) h3.2;show L[pc].m.toNat<n;omega
theorem calL_len (L:List Ins)(e:Int):(calL L e).length≤L.length:=by
 unfold calL;rw[List.length_map];have:=List.length_filter_le (calB L e) (List.range L.length)
 rwa [List.length_range]at this
theorem codeOf_any (B:Nat)(m:PImg)(ra ca ga:Option Addr)(rc cc gc:Nat)(g k:Nat)(hg:g<m.gates.length)(hk:k<m.comps.length)(hc:m.gates[g].c=k)(w:World)(hm:ImgIn B w ra ca ga m)(hB:B≤w.heap.size):
 Calls Tryz.prog 23 #[imA m ra rc ca cc ga gc,.int .i64 g] w fun e w'=>∃ka kc,e=.returned (.slice ka m.comps[k].code.length kc)∧LIn B w' ka m.comps[k].code∧Below w.heap.size w w':=by
 obtain⟨b,off,xa,xc,ya,yc,rfl,h1,h2,c0,c1, -⟩:=hm.gates g hg;obtain⟨b2,off2,ra2,rc2,ka,kc,rfl,h3,h4,d0,d1,hr,hl⟩:=hm.comps k hk;rw[hc]at c0;have i1:(g:Int)<(m.gates.length:Int):=by omega
 have i2:(k:Int)<(m.comps.length:Int):=by omega
 have hl':=ζ hl;clear hl hm hc c1 d0 hr;unfold imA;generalize m.comps[k].code=L at*;go_enter Tryz.func23,Tryz.ntmps23;go_wp2_with fail;go_quiet (fail)
 all_goals
  go_wp2_with fail;go_ret;refine⟨ka,kc,rfl,hl'.out.below (Below.mono ?_ hB),?_⟩<;>exact Below.trans (Below.alloc (Below.refl _ _) (Nat.le_refl _) _) ((drewNb _ _).mono (by simp))
theorem calB_step (L:List Ins)(e:Int)(j:Nat):((List.range (j+1)).filter (calB L e)).map (imF L)=((List.range j).filter (calB L e)).map (imF L)++(if calB L e j then [imF L j]else []):=by
 rw[List.range_succ,List.filter_append,List.map_append]
 congr 1
 cases h:calB L e j<;>simp[h]
theorem calK_len (L:List Ins)(e:Int)(j:Nat):(((List.range j).filter (calB L e)).map (imF L)).length≤j:=by
 rw[List.length_map];have:=List.length_filter_le (calB L e) (List.range j)
 rwa [List.length_range]at this
theorem bool_at {w:World}{g n:Nat}{f:Nat→Bool}(h:At w g (boolA n f))(k:Nat)(hk:k<n):w.cell? ⟨g,k,none⟩=some (.bool (f k)):=by
 rw[h.2.1];simp[boolA,hk]
theorem calledBy_any (m:PImg)(ra ca ga:Option Addr)(rc cc gc:Nat)(g k:Nat)(hg:g<m.gates.length)(hk:k<m.comps.length)(hc:m.gates[g].c=k)(hn:m.comps[k].code.length<1000)(hok:CallOk m.comps[k].code m.gates.length)(w:World)(hm:ImgIn w.heap.size w ra ca ga m):
 Calls Tryz.prog 24 #[imA m ra rc ca cc ga gc,.int .i64 g] w fun e w'=>∃v,e=.returned v∧IOwn w' w.heap.size v ((calL m.comps[k].code m.gates[g].e).map (fun q:Nat=>(q:Int)))∧Below w.heap.size w w':=by
 have hC:=ζ (fun W (q:Below w.heap.size w W)=>codeOf_any W.heap.size m ra ca ga rc cc gc g k hg hk hc W ((hm.below q).mono q.size) (Nat.le_refl _));obtain⟨b,off,xa,xc,ya,yc,rfl,h1,h2,c0,c1, -⟩:=hm.gates g hg;have i1:(g:Int)<(m.gates.length:Int):=by omega
 have hR:=ζ (fun W cc2 ka (q:LIn W.heap.size W ka m.comps[k].code) ea ec (hE:NIn W.heap.size W ea [m.gates[g].e]) (hni:NilOk ea 1 ec)=>F.Reached_any m.comps[k].code [m.gates[g].e] cc2 ec ka ea W q hE hni (by omega) (by simp));clear hm hc c0;unfold imA at*;generalize m.comps[k].code=L at*;generalize m.gates[g].e=e0 at*;have hcl:Hz ((calL L e0).map (fun q:Nat=>(q:Int))=(((List.range L.length).filter (calB L e0)).map (imF L)).map (fun q:Nat=>(q:Int))):=ζ rfl;generalize (calL L e0).map (fun q:Nat=>(q:Int))=cl at*;replace hok:=ζ hok;go_enter Tryz.func24,Tryz.ntmps24;go_upto_region 1 with fail
 refine wp_world (fun W=>At W w.heap.size #[.slice ra m.regs.length rc,.slice ca m.comps.length cc,.slice (some ⟨b,off,none⟩) m.gates.length gc,.int .i64 m.depth]∧Below w.heap.size w W) ⟨At.new w _ _,(Below.refl _ _).alloc (Nat.le_refl _) _⟩ ?_;rintro W ⟨A0,hB⟩;have k0:W.cell? ⟨w.heap.size,0,none⟩=some (.slice ra m.regs.length rc):=A0.2.1 0;have k1:W.cell? ⟨w.heap.size,1,none⟩=some (.slice ca m.comps.length cc):=A0.2.1 1;have k2:W.cell? ⟨w.heap.size,2,none⟩=some (.slice (some ⟨b,off,none⟩) m.gates.length gc):=A0.2.1 2;have k3:W.cell? ⟨w.heap.size,3,none⟩=some (.int .i64 m.depth):=A0.2.1 3;replace A0:=ζ A0;replace hB:=ζ hB;go_upto_region 3 with(go_at_call 23;refine(hC.out _ hB.out).mono ?_;rintro r W1 ⟨ka,kc,rfl,l1,hB1⟩;replace l1:=ζ l1;replace hB1:=ζ hB1)
 clear k0 k1 k2 k3;have A1:=at_keep A0.out (Kp.of_below (S:=fun _=>False) hB1.out) id;have k2:W1.cell? ⟨w.heap.size,2,none⟩=some (.slice (some ⟨b,off,none⟩) m.gates.length gc):=A1.2.1 2;have hB2:Below w.heap.size w W1:=hB.out.trans (hB1.out.mono hB.out.size);have g1:W1.cell? ⟨b,off+g*4+1,none⟩=some (.int .i64 e0):=(hB2.cell (p:=⟨b,_,none⟩) h1).trans c1;have g2:b<W1.heap.size:=Nat.lt_of_lt_of_le h2 hB2.size;have hB2s:=hB2.size;have l1':=ζ (l1.out.mono hB1.out.size);replace hB2:=ζ hB2;clear A0 hB hB1 l1 A1 c1 hC;go_upto_region 4 with(go_at_call 42;refine(hR.out _ kc ka ((l1'.out.below ((Below.refl _ _).alloc (Nat.le_refl _) _)).mono (by simp)) _ _ (F.nin_one W1 e0) (fun h=>by cases h)).mono ?_;rintro r W2 ⟨gb,rfl,hgb,aB,hB3⟩;replace aB:=ζ aB;replace hB3:=ζ hB3)
 have hB4:Below w.heap.size w W2:=hB2.out.trans ((((Below.refl W1.heap.size W1).alloc (Nat.le_refl _) _).trans (hB3.out.mono (by simp))).mono hB2s);have l2:LIn W2.heap.size W2 ka L:=(((l1'.out.below ((Below.refl _ _).alloc (Nat.le_refl _) _)).mono (by simp)).below hB3.out).mono hB3.out.size;have ltb:=aB.out.1;have hlo:=hB4.size;replace hB4:=ζ hB4;replace l2:=ζ l2;clear k2 g1 g2 hB2 l1' hB3 hgb hR;go_loopw [6,22] (fun rv iv wr=>∃j:Nat,iv=.int .i64 j∧j≤L.length∧Hz (IOwn wr W2.heap.size rv ((((List.range j).filter (calB L e0)).map (imF L)).map (fun q:Nat=>(q:Int)))∧Below W2.heap.size W2 wr)) (fun _ iv _=>L.length - (intOf iv).toNat)
 case atStart=>exact⟨0,rfl,by omega,ζ ⟨⟨rfl,.inl ⟨rfl,rfl⟩⟩,Below.refl _ _⟩⟩
 case round=>
  obtain⟨j,rfl,hj,⟨h1,h2⟩⟩:=hrel;by_cases hlt:j<L.length
  ·have hi1:(j:Int)<L.length:=by omega
   have hst:=calB_step L e0 j;have hle:=calK_len L e0 j;have hzb:=(h2.cell (p:=⟨gb,j,none⟩) ltb).trans (bool_at aB.out j hlt);have hij:IntKind.i64.wrap ((j:Int)+1)=((j+1:Nat):Int):=by rw[IntKind.wrap_i64];omega
   have hij2:wrap64 ((j:Int)+1)=((j+1:Nat):Int):=by unfold wrap64;omega
   have hgl:gb<wr.heap.size:=Nat.lt_of_lt_of_le ltb h2.size;obtain⟨bb,oo,rfl,_,hbb,five⟩:=l2.out j hlt;have hbr:bb<wr.heap.size:=Nat.lt_of_lt_of_le hbb h2.size;have f0:=(h2.cell (p:=⟨bb,_,none⟩) hbb).trans five.1;have f4:=(h2.cell (p:=⟨bb,_,none⟩) hbb).trans five.2.2.2.2;have heg:L[j]?=some L[j]:=List.getElem?_eq_getElem hlt;have hsz:=h2.size;clear five
   cases hr:rchB L [e0] (-1) j with
   |false=>
    have hcb:calB L e0 j=false:=by unfold calB;rw[hr];rfl
    rw[hr]at hzb;rw[hcb,if_neg Bool.false_ne_true,List.append_nil]at hst;rw[←hst]at h1;generalize L[j]=ins at*;have hnew:=ζ (And.intro h1 h2);replace hok:=hok;replace h1:=ζ h1;replace h2:=ζ h2;replace hst:=ζ hst;replace heg:=ζ heg;replace hr:=ζ hr;replace hcb:=ζ hcb;replace hle:=ζ hle;go_wp2_with fail;clear hij hij2;go_roundw
    case rel=>exact⟨j+1,by simp,by omega,hnew⟩
    case measure=>simp only[intOf];omega
   |true=>
    rw[hr]at hzb;by_cases ho:L[j].op=31
    ·have hcb:calB L e0 j=true:=by unfold calB;rw[hr,heg];show(true&&L[j].op==31)=true;rw[ho];rfl
     have him:imF L j=L[j].m.toNat:=by unfold imF;rw[heg]
     have hmm:L[j].m=(L[j].m.toNat:Int):=by
      have:=hok.out L[j] (List.getElem_mem hlt) ho;omega
     rw[hcb,if_pos rfl,him]at hst;rw[ho]at f0;rw[hmm]at f4;generalize L[j].m.toNat=mm at*;obtain⟨va,vc,rfl⟩:=own_slice h1;have hlk:=fun k r=>(World.ownsRow.lt h1 k r).1
     have hll:((((List.range j).filter (calB L e0)).map (imF L)).map (fun q:Nat=>(q:Int))).length≤j:=by rw[List.length_map];exact hle
     have hs2:(((List.range (j+1)).filter (calB L e0)).map (imF L)).map (fun q:Nat=>(q:Int))=(((List.range j).filter (calB L e0)).map (imF L)).map (fun q:Nat=>(q:Int))++[(mm:Int)]:=by rw[hst,List.map_append];rfl
     generalize (((List.range j).filter (calB L e0)).map (imF L)).map (fun q:Nat=>(q:Int))=l at*;have hrow:=fun W (q:Below wr.heap.size wr W)=>(show IOwn W W2.heap.size (.slice va l.length vc) l from own_below h1 q)
     clear hmm him ho;replace hrow:=ζ hrow;replace h1:=ζ h1;replace h2:=ζ h2;replace hst:=ζ hst;replace hs2:=ζ hs2;replace heg:=ζ heg;replace hr:=ζ hr;replace hcb:=ζ hcb;replace hlk:=ζ hlk;replace hle:=ζ hle;have hWl:=hrow.out _ ((Below.refl _ _).alloc (Nat.le_refl _) (.cells #[.int .i64 (mm:Int)] 3));have hWl:=ζ hWl;have hl8:l.length≤8000000:=by clear hij hij2;omega
     have hbs:W2.heap.size≤(wr.alloc (Obj.cells #[Value.int IntKind.i64 (mm:Int)] 3)).heap.size:=Nat.le_trans hsz (by simp);go_wp2_with(at_builtin;refine F.wpList_append_int rfl (.tmp 36) (.tmp 42) rfl W2.heap.size (.slice va l.length vc) l (mm:Int) rfl hWl.out wr.heap.size rfl (At.new wr _ _) hl8 hbs ?_;intro gn cap w2 g1 g2 g3 g4;replace g2:=ζ g2;replace g1:=ζ g1);have hnew:Hz (IOwn w2 W2.heap.size (.slice (some ⟨gn,0,none⟩) (l.length+1) cap) ((((List.range (j+1)).filter (calB L e0)).map (imF L)).map (fun q:Nat=>(q:Int)))∧Below W2.heap.size W2 w2):=ζ ⟨by rw[hs2.out];exact g1.out,(h2.out.trans ((Below.refl _ _).alloc hsz _)).trans (Below.of_grown g2.out hbs (fun k r=>hlk.out k r))⟩;clear hij hij2;go_roundw
     case rel=>exact⟨j+1,by simp,by omega,hnew⟩
     case measure=>simp only[intOf];omega
    ·have hcb:calB L e0 j=false:=by unfold calB;rw[hr,heg];show(true&&L[j].op==31)=false;simpa using ho
     have e1:(L[j].op==31)=false:=by simpa using ho
     rw[hcb,if_neg Bool.false_ne_true,List.append_nil]at hst;rw[←hst]at h1;generalize L[j]=ins at*;have hnew:=ζ (And.intro h1 h2);replace h1:=ζ h1;replace h2:=ζ h2;replace hst:=ζ hst;replace heg:=ζ heg;replace hr:=ζ hr;replace hcb:=ζ hcb;replace hle:=ζ hle;clear ho;go_wp2_with fail;clear hij hij2;go_roundw
     case rel=>exact⟨j+1,by simp,by omega,hnew⟩
     case measure=>simp only[intOf];omega
  ·have hi1:¬(j:Int)<L.length:=by omega
   have hje:j=L.length:=by omega
   subst hje;rw[←hcl.out]at h1;obtain⟨va,vc,rfl⟩:=own_slice h1;have h1':=ζ h1;replace h2:=ζ h2;clear h1;go_wp2_with fail;go_ret;exact⟨.slice va cl.length vc,rfl,F.own_lower h1'.out hlo,hB4.out.trans (h2.out.mono hlo)⟩
def tupi:Option Int→Value
 |some v=>.tuple #[.int .i64 v,.bool true]
 |none=>.tuple #[.int .i64 0,.bool false]
def enci:Option Int→Value
 |some v=>.agg #[.int .i64 v,.bool true]
 |none=>.agg #[.int .i64 0,.bool false]
theorem hiti_some (p:Pl)(hp:p.qf=41)(n:Nat)(hn:n<4611686018427387904)(M:Nat→Option (Option Int))(nn:Nat)(v:Int)(hM:M n=some (some v))(w:World)(hR:Rem p enci w nn M)(Q:World→Prop)(hQ:∀w',Rem p enci w' nn M→Kp (fun k=>k=p.b) w w'→Q w'):
 Calls Tryz.prog p.qf #[.int .i64 n,pv p.kA,pv p.kF,pv p.kQ] w fun r w'=>r=.returned (tupi (some v))∧Q w':=by
 have hl0:(Instr.lookup 112 (.map (some p.b)) (.int .i64 n) true).run Tryz.prog w=.ok (.tuple #[.agg #[.int .i64 v,.bool true],.bool true]) w:=by
  have:=hR.m.look (t:=112) (e:=114) (by kernel_rfl) (z:=.agg #[.int .i64 0,.bool false]) (by kernel_rfl) n hn;rw[hM]at this;exact this
 have a0:w.cell? ⟨p.kA,0,none⟩=some (.map (some p.b)):=hR.a.2.1 0;have lta:=hR.a.1;replace hR:=ζ hR;clear hM hn;rw[hp];unfold pv tupi;go_enter Tryz.func41,Tryz.ntmps41;go_wp2_with fail;go_quiet (fail)
 all_goals
  go_wp2_with fail;refine bodyPost_ret (v:=.tuple #[.int .i64 v,.bool true]) (by simp[results,Tryz.results41,go_sem]) rfl ?_;refine⟨rfl,?_⟩;refine hQ _ (hR.out.below ?_) (Kp.of_below ?_)<;>exact Below.trans (Below.alloc (Below.refl _ _) (Nat.le_refl _) _) ((drewNb _ _).mono (by simp))
theorem hiti_none (p:Pl)(hp:p.qf=41)(n:Nat)(hn:n<4611686018427387904)(M:Nat→Option (Option Int))(nn:Nat)(hM:M n=some (none))(w:World)(hR:Rem p enci w nn M)(Q:World→Prop)(hQ:∀w',Rem p enci w' nn M→Kp (fun k=>k=p.b) w w'→Q w'):
 Calls Tryz.prog p.qf #[.int .i64 n,pv p.kA,pv p.kF,pv p.kQ] w fun r w'=>r=.returned (tupi (none))∧Q w':=by
 have hl0:(Instr.lookup 112 (.map (some p.b)) (.int .i64 n) true).run Tryz.prog w=.ok (.tuple #[.agg #[.int .i64 0,.bool false],.bool true]) w:=by
  have:=hR.m.look (t:=112) (e:=114) (by kernel_rfl) (z:=.agg #[.int .i64 0,.bool false]) (by kernel_rfl) n hn;rw[hM]at this;exact this
 have a0:w.cell? ⟨p.kA,0,none⟩=some (.map (some p.b)):=hR.a.2.1 0;have lta:=hR.a.1;replace hR:=ζ hR;clear hM hn;rw[hp];unfold pv tupi;go_enter Tryz.func41,Tryz.ntmps41;go_wp2_with fail;go_quiet (fail)
 all_goals
  go_wp2_with fail;refine bodyPost_ret (v:=.tuple #[.int .i64 0,.bool false]) (by simp[results,Tryz.results41,go_sem]) rfl ?_;refine⟨rfl,?_⟩;refine hQ _ (hR.out.below ?_) (Kp.of_below ?_)<;>exact Below.trans (Below.alloc (Below.refl _ _) (Nat.le_refl _) _) ((drewNb _ _).mono (by simp))
theorem missi_some (km:Nat)(p:Pl)(hp:p.qf=41)(hf:p.fv=.func (.func 20) #[] #[pv km])(nx:Nat→List Nat)(f:Nat→List Int→Option Int)(U:List Nat)(S:Nat→Prop)(n:Nat)(hn:n<4611686018427387904)(M:Nat→Option (Option Int))(nn:Nat)(v:Int)(hM:M n=none)(w:World)(hR:Rem p enci w nn M)(hnn:nn+1+2*left U (setM M n none)≤1000000)
 (hfd:∀W,Rem p enci W (nn+1) (setM M n none)→Kp (fun k=>k=p.b) w W→Calls Tryz.prog 20 (#[.int .i64 n,p.qv]++#[pv km]) W fun r w'=>r=.returned (tupi (some v))∧Aft p enci nx f U S (setM M n none) (nn+1) W w'):
 Calls Tryz.prog p.qf #[.int .i64 n,pv p.kA,pv p.kF,pv p.kQ] w fun r w'=>r=.returned (tupi (some v))∧∃M' nn',Rem p enci w' (nn'+1) (setM M' n (some v))∧Memo nx f U S M'∧More (setM M n none) M'∧nn'+2*left U M'≤nn+1+2*left U (setM M n none)∧Kp (fun k=>k=p.b) w w':=by
 have hl0:(Instr.lookup 112 (.map (some p.b)) (.int .i64 n) true).run Tryz.prog w=.ok (.tuple #[.agg #[.int .i64 0,.bool false],.bool false]) w:=by
  have:=hR.m.look (t:=112) (e:=114) (by kernel_rfl) (z:=.agg #[.int .i64 0,.bool false]) (by kernel_rfl) n hn;rw[hM]at this;exact this
 have a0:w.cell? ⟨p.kA,0,none⟩=some (.map (some p.b)):=hR.a.2.1 0;have lta:=hR.a.1;replace hR:=ζ hR;replace hfd:=ζ hfd;replace hf:=ζ hf;replace hnn:=ζ hnn;clear hM;rw[hp];unfold pv tupi;go_enter Tryz.func41,Tryz.ntmps41;go_upto_region 4 with fail
 refine wp_world (fun W=>Below w.heap.size w W) (by repeat(first|exact Below.refl _ _|refine Below.alloc ?_ (by simp<;>omega) _|refine Below.setCell ?_ (by simp<;>omega) _)) ?_;intro W hB;clear hl0 a0;have hR1:=hR.out.below hB;have a0:W.cell? ⟨p.kA,0,none⟩=some (.map (some p.b)):=hR1.a.2.1 0;have hm1:=ζ hR1.m;replace hR1:=ζ hR1;replace hB:=ζ hB;go_upto_region 5 with(at_mapUpdate;refine wpList_put rfl _ _ _ _ 114 rfl (by kernel_rfl) p.b nn enci M rfl hm1.out (by have:=hnn.out;unfold maxLen;omega) n hn none rfl rfl ?_;intro W2 hm2 hk2)
 clear a0;have hR2:=hR1.out.turn hk2 hm2;have a0:W2.cell? ⟨p.kA,0,none⟩=some (.map (some p.b)):=hR2.a.2.1 0;have f0:W2.cell? ⟨p.kF,0,none⟩=some p.fv:=hR2.f.2.1 0;have q0:W2.cell? ⟨p.kQ,0,none⟩=some p.qv:=hR2.q.2.1 0;rw[hf.out]at f0;have hkw:Kp (fun k=>k=p.b) w W2:=(Kp.of_below hB.out).trans hk2 (fun k q=>.inl q);have hc:=hfd.out W2 hR2 hkw;replace hc:Calls Tryz.prog 20 #[.int .i64 n,p.qv,.pointer (some ⟨km,0,none⟩)] W2 _:=hc;unfold tupi at hc;replace hkw:=ζ hkw;replace hR2:=ζ hR2;replace hc:=ζ hc;clear hm1 hm2 hk2 hR1;unfold pv at f0;go_upto_region 6 with(go_at_call 20;refine hc.out.mono ?_;rintro r W3 ⟨rfl,M',nn',hR3,hS3,hmo,hle,hk3⟩)
 clear a0 f0 q0;have a0:W3.cell? ⟨p.kA,0,none⟩=some (.map (some p.b)):=hR3.a.2.1 0;have hm3:=ζ hR3.m;replace hR3:=ζ hR3;replace hle:=ζ hle;replace hS3:=ζ hS3;replace hmo:=ζ hmo;replace hk3:=ζ (hkw.out.trans hk3 (fun k q=>.inl q));go_wp2_with(at_mapUpdate;refine wpList_put rfl _ _ _ _ 114 rfl (by kernel_rfl) p.b nn' enci M' rfl hm3.out (by have:=hnn.out;have:=hle.out;unfold maxLen;omega) n hn (some v) rfl rfl ?_;intro W4 hm4 hk4);refine bodyPost_ret (v:=.tuple #[.int .i64 v,.bool true]) (by simp[results,Tryz.results41,go_sem]) rfl ?_;exact⟨rfl,M',nn',hR3.out.turn hk4 hm4,hS3.out,hmo.out,hle.out,hk3.out.trans hk4 (fun k q=>.inl q)⟩
theorem missi_none (km:Nat)(p:Pl)(hp:p.qf=41)(hf:p.fv=.func (.func 20) #[] #[pv km])(nx:Nat→List Nat)(f:Nat→List Int→Option Int)(U:List Nat)(S:Nat→Prop)(n:Nat)(hn:n<4611686018427387904)(M:Nat→Option (Option Int))(nn:Nat)(hM:M n=none)(w:World)(hR:Rem p enci w nn M)(hnn:nn+1+2*left U (setM M n none)≤1000000)
 (hfd:∀W,Rem p enci W (nn+1) (setM M n none)→Kp (fun k=>k=p.b) w W→Calls Tryz.prog 20 (#[.int .i64 n,p.qv]++#[pv km]) W fun r w'=>r=.returned (tupi (none))∧Aft p enci nx f U S (setM M n none) (nn+1) W w'):
 Calls Tryz.prog p.qf #[.int .i64 n,pv p.kA,pv p.kF,pv p.kQ] w fun r w'=>r=.returned (tupi (none))∧∃M' nn',Rem p enci w' (nn'+1) (setM M' n (none))∧Memo nx f U S M'∧More (setM M n none) M'∧nn'+2*left U M'≤nn+1+2*left U (setM M n none)∧Kp (fun k=>k=p.b) w w':=by
 have hl0:(Instr.lookup 112 (.map (some p.b)) (.int .i64 n) true).run Tryz.prog w=.ok (.tuple #[.agg #[.int .i64 0,.bool false],.bool false]) w:=by
  have:=hR.m.look (t:=112) (e:=114) (by kernel_rfl) (z:=.agg #[.int .i64 0,.bool false]) (by kernel_rfl) n hn;rw[hM]at this;exact this
 have a0:w.cell? ⟨p.kA,0,none⟩=some (.map (some p.b)):=hR.a.2.1 0;have lta:=hR.a.1;replace hR:=ζ hR;replace hfd:=ζ hfd;replace hf:=ζ hf;replace hnn:=ζ hnn;clear hM;rw[hp];unfold pv tupi;go_enter Tryz.func41,Tryz.ntmps41;go_upto_region 4 with fail
 refine wp_world (fun W=>Below w.heap.size w W) (by repeat(first|exact Below.refl _ _|refine Below.alloc ?_ (by simp<;>omega) _|refine Below.setCell ?_ (by simp<;>omega) _)) ?_;intro W hB;clear hl0 a0;have hR1:=hR.out.below hB;have a0:W.cell? ⟨p.kA,0,none⟩=some (.map (some p.b)):=hR1.a.2.1 0;have hm1:=ζ hR1.m;replace hR1:=ζ hR1;replace hB:=ζ hB;go_upto_region 5 with(at_mapUpdate;refine wpList_put rfl _ _ _ _ 114 rfl (by kernel_rfl) p.b nn enci M rfl hm1.out (by have:=hnn.out;unfold maxLen;omega) n hn none rfl rfl ?_;intro W2 hm2 hk2)
 clear a0;have hR2:=hR1.out.turn hk2 hm2;have a0:W2.cell? ⟨p.kA,0,none⟩=some (.map (some p.b)):=hR2.a.2.1 0;have f0:W2.cell? ⟨p.kF,0,none⟩=some p.fv:=hR2.f.2.1 0;have q0:W2.cell? ⟨p.kQ,0,none⟩=some p.qv:=hR2.q.2.1 0;rw[hf.out]at f0;have hkw:Kp (fun k=>k=p.b) w W2:=(Kp.of_below hB.out).trans hk2 (fun k q=>.inl q);have hc:=hfd.out W2 hR2 hkw;replace hc:Calls Tryz.prog 20 #[.int .i64 n,p.qv,.pointer (some ⟨km,0,none⟩)] W2 _:=hc;unfold tupi at hc;replace hkw:=ζ hkw;replace hR2:=ζ hR2;replace hc:=ζ hc;clear hm1 hm2 hk2 hR1;unfold pv at f0;go_upto_region 6 with(go_at_call 20;refine hc.out.mono ?_;rintro r W3 ⟨rfl,M',nn',hR3,hS3,hmo,hle,hk3⟩)
 clear a0 f0 q0;have a0:W3.cell? ⟨p.kA,0,none⟩=some (.map (some p.b)):=hR3.a.2.1 0;have hm3:=ζ hR3.m;replace hR3:=ζ hR3;replace hle:=ζ hle;replace hS3:=ζ hS3;replace hmo:=ζ hmo;replace hk3:=ζ (hkw.out.trans hk3 (fun k q=>.inl q));go_wp2_with(at_mapUpdate;refine wpList_put rfl _ _ _ _ 114 rfl (by kernel_rfl) p.b nn' enci M' rfl hm3.out (by have:=hnn.out;have:=hle.out;unfold maxLen;omega) n hn (none) rfl rfl ?_;intro W4 hm4 hk4);refine bodyPost_ret (v:=.tuple #[.int .i64 0,.bool false]) (by simp[results,Tryz.results41,go_sem]) rfl ?_;exact⟨rfl,M',nn',hR3.out.turn hk4 hm4,hS3.out,hmo.out,hle.out,hk3.out.trans hk4 (fun k q=>.inl q)⟩
theorem hiti_any (p:Pl)(hp:p.qf=41)(n:Nat)(hn:n<4611686018427387904)(M:Nat→Option (Option Int))(nn:Nat)(e:Option Int)(hM:M n=some e)(w:World)(hR:Rem p enci w nn M)(Q:World→Prop)(hQ:∀w',Rem p enci w' nn M→Kp (fun k=>k=p.b) w w'→Q w'):
 Calls Tryz.prog p.qf #[.int .i64 n,pv p.kA,pv p.kF,pv p.kQ] w fun r w'=>r=.returned (tupi e)∧Q w':=by
 cases e with
 |some v=>exact hiti_some p hp n hn M nn v hM w hR Q hQ
 |none=>exact hiti_none p hp n hn M nn hM w hR Q hQ
theorem aski_any (km:Nat)(E:World→Prop)(p:Pl)(hp:p.qf=41)(hf:p.fv=.func (.func 20) #[] #[pv km])(hE:∀w w',E w→Kp (fun k=>k=p.b) w w'→E w')(nx:Nat→List Nat)(f:Nat→List Int→Option Int)(U:List Nat)(hU:∀n∈U,n<4611686018427387904)
 (hfind:∀d,AskC E p enci tupi nx f U d→FindC 20 #[pv km] E p enci tupi nx f U d):∀d,AskC E p enci tupi nx f U d:=by
 have hhit:∀(w:World) (n:Nat) (S:Nat→Prop) (M:Nat→Option (Option Int)) (nn:Nat) (e:Option Int),M n=some e→Rem p enci w nn M→Memo nx f U S M→(∀q,S q→Anc nx f q n)→n∈U→
  Calls Tryz.prog p.qf #[.int .i64 n,pv p.kA,pv p.kF,pv p.kQ] w fun r w'=>r=.returned (tupi (ev nx f U n))∧Aft p enci nx f U S M nn w w':=by
  intro w n S M nn e hM hR hS hA hn;rw[←hS.at_ hA hM];exact hiti_any p hp n (hU n hn) M nn e hM w hR _ (fun w' hR' hk=>⟨M,nn,hR',hS,More.refl M,Nat.le_refl _,hk⟩)
 intro d
 induction d with
 |zero=>
  intro w n S M nn hEw hR hS hA hn hl hb
  cases hM:M n with
  |some e=>exact hhit w n S M nn e hM hR hS hA hn
  |none=>exact absurd (left_set hn hM none) (by omega)
 |succ d ih=>
  intro w n S M nn hEw hR hS hA hn hl hb
  cases hM:M n with
  |some e=>exact hhit w n S M nn e hM hR hS hA hn
  |none=>
   have hlt:=left_set hn hM none;have hfd:=fun W (h2:Rem p enci W (nn+1) (setM M n none)) (h1:Kp (fun k=>k=p.b) w W)=>hfind d ih W n S (setM M n none) (nn+1) (hE w W hEw h1) h2 (hS.begin n) hA hn (by omega) (by omega)
   have hh:Calls Tryz.prog p.qf #[.int .i64 n,pv p.kA,pv p.kF,pv p.kQ] w fun r w'=>r=.returned (tupi (ev nx f U n))∧∃M' nn',Rem p enci w' (nn'+1) (setM M' n (ev nx f U n))∧Memo nx f U (fun x=>S x∨x=n) M'∧More (setM M n none) M'∧nn'+2*left U M'≤nn+1+2*left U (setM M n none)∧Kp (fun k=>k=p.b) w w':=by
    revert hfd
    cases ev nx f U n with
    |some v=>exact fun hfd=>missi_some km p hp hf nx f U _ n (hU n hn) M nn v hM w hR (by omega) hfd
    |none=>exact fun hfd=>missi_none km p hp hf nx f U _ n (hU n hn) M nn hM w hR (by omega) hfd
   refine hh.mono ?_;rintro r w' ⟨e1,M',nn',h1,h2,h3,h4,h5⟩;refine⟨e1,setM M' n (ev nx f U n),nn'+1,h1,h2.done _ rfl,((More.set M n none).trans h3).trans (More.set _ _ _),?_,h5⟩;have:=left_more (U:=U) (More.set M' n (ev nx f U n));omega
theorem remi_any (km:Nat)(w:World):
 Calls Tryz.prog 19 #[.func (.func 20) #[] #[.pointer (some ⟨km,0,none⟩)]] w fun e w'=>∃p:Pl,e=.returned p.qv∧p.qf=41∧p.fv=.func (.func 20) #[] #[pv km]∧Rem p enci w' 0 (fun _=>none)∧Below w.heap.size w w'∧w.heap.size≤p.b:=by
 have hmm:= @run_makeMap Tryz.prog;have b1:Below w.heap.size w (w.alloc (.cells #[.func (.func 20) #[] #[.pointer (some ⟨km,0,none⟩)]] 88)):=(Below.refl _ w).alloc (Nat.le_refl _) _;have b2:=b1.alloc b1.size (.map #[] 0);have b3:=b2.alloc b2.size (.cells #[.map (some (w.heap.size+1))] 112);have b4:=b3.alloc b3.size (.cells #[.nilFunc] 85);have aF:=(((At.new w #[.func (.func 20) #[] #[.pointer (some ⟨km,0,none⟩)]] 88).alloc (.map #[] 0)).alloc (.cells #[.map (some (w.heap.size+1))] 112)).alloc (.cells #[.nilFunc] 85);have aA:=(At.new ((w.alloc (.cells #[.func (.func 20) #[] #[.pointer (some ⟨km,0,none⟩)]] 88)).alloc (.map #[] 0)) #[.map (some (w.heap.size+1))] 112).alloc (.cells #[.nilFunc] 85);have aQ:=At.new (((w.alloc (.cells #[.func (.func 20) #[] #[.pointer (some ⟨km,0,none⟩)]] 88)).alloc (.map #[] 0)).alloc (.cells #[.map (some (w.heap.size+1))] 112)) #[.nilFunc] 85;have aM:MpIn ((((w.alloc (.cells #[.func (.func 20) #[] #[.pointer (some ⟨km,0,none⟩)]] 88)).alloc (.map #[] 0)).alloc (.cells #[.map (some (w.heap.size+1))] 112)).alloc (.cells #[.nilFunc] 85)) (w.heap.size+1) 0 enci (fun _=>none):=by
  have m0:=mp_made (w.alloc (.cells #[.func (.func 20) #[] #[.pointer (some ⟨km,0,none⟩)]] 88)) enci;have e:(w.alloc (.cells #[.func (.func 20) #[] #[.pointer (some ⟨km,0,none⟩)]] 88)).heap.size=w.heap.size+1:=by simp
  rw[e]at m0;exact(m0.below ((Below.refl _ _).alloc (Nat.le_refl _) _)).below ((Below.refl _ _).alloc (Nat.le_refl _) _)
 have e2:((w.alloc (.cells #[.func (.func 20) #[] #[.pointer (some ⟨km,0,none⟩)]] 88)).alloc (.map #[] 0)).heap.size=w.heap.size+1+1:=by simp
 have e3:(((w.alloc (.cells #[.func (.func 20) #[] #[.pointer (some ⟨km,0,none⟩)]] 88)).alloc (.map #[] 0)).alloc (.cells #[.map (some (w.heap.size+1))] 112)).heap.size=w.heap.size+1+1+1:=by simp
 rw[e2]at aA;rw[e3]at aQ;replace aM:=ζ aM;replace aA:=ζ aA;replace aQ:=ζ aQ;replace aF:=ζ aF;replace b4:=ζ b4;clear b1 b2 b3 e2 e3;go_enter Tryz.func19,Tryz.ntmps19;go_upto_region 3 with fail
 refine wp_world (fun W=>At W w.heap.size #[.func (.func 20) #[] #[.pointer (some ⟨km,0,none⟩)]]∧At W (w.heap.size+1+1) #[.map (some (w.heap.size+1))]∧At W (w.heap.size+1+1+1) #[.nilFunc]∧MpIn W (w.heap.size+1) 0 enci (fun _=>none)∧Below w.heap.size w W) ⟨aF.out,aA.out,aQ.out,aM.out,b4.out⟩ ?_;clear aF aA aQ aM b4 hmm;rintro W ⟨aF,aA,aQ,aM,hB⟩;have⟨l3,p3,f3⟩:=aQ;have hk:=kp_sets W (w.heap.size+1+1+1) [.func (.func 41) #[] #[.pointer (some ⟨w.heap.size+1+1,0,none⟩),.pointer (some ⟨w.heap.size,0,none⟩),.pointer (some ⟨w.heap.size+1+1+1,0,none⟩)]] 0;have hfin:=ζ (At.setAll (cs:=[.nilFunc]) aQ [.func (.func 41) #[] #[.pointer (some ⟨w.heap.size+1+1,0,none⟩),.pointer (some ⟨w.heap.size,0,none⟩),.pointer (some ⟨w.heap.size+1+1+1,0,none⟩)]] rfl);have gF:=ζ (at_keep aF hk (by omega));have gA:=ζ (at_keep aA hk (by omega));have gM:=ζ (aM.keep hk (by omega));have gB:=ζ (hB.trans (hk.below hB.size (fun k q=>by omega)))
 clear hk aF aA aM;replace hB:=ζ hB;have hmf:∀(fn:Fn) (first cap:Array Value) (w:World),(Instr.makeFunc fn first cap).run Tryz.prog w=.ok (.func fn first cap) w:=fun _ _ _ _=>rfl
 go_wp2_with fail;have⟨_,q3,_⟩:=hfin.out;go_ret;exact⟨⟨w.heap.size+1+1,w.heap.size,w.heap.size+1+1+1,w.heap.size+1,.func (.func 20) #[] #[.pointer (some ⟨km,0,none⟩)],41⟩,rfl,rfl,rfl,⟨gA.out,gF.out,hfin.out,gM.out⟩,gB.out,by show w.heap.size≤w.heap.size+1;omega⟩
open F (thB nxtI folB IOwn own_slice own_nin)
def gcode (m:PImg)(g:Nat):List Ins:=match m.gates[g]? with
 |none=>[]
 |some x=>match m.comps[x.c.toNat]? with
  |none=>[]
  |some k=>k.code
def gent (m:PImg)(g:Nat):Int:=match m.gates[g]? with
 |none=>0
 |some x=>x.e
noncomputable def nxG (m:PImg) (g:Nat):List Nat:=calL (gcode m g) (gent m g)
theorem gcode_of {m:PImg}{g k:Nat}(hg:g<m.gates.length)(hk:k<m.comps.length)(hc:m.gates[g].c=k):gcode m g=m.comps[k].code:=by
 unfold gcode;rw[List.getElem?_eq_getElem hg];show(match m.comps[m.gates[g].c.toNat]? with|none=>[]|some k=>k.code)=_;rw[hc,Int.toNat_natCast,List.getElem?_eq_getElem hk]
theorem gent_of {m:PImg}{g:Nat}(hg:g<m.gates.length):gent m g=m.gates[g].e:=by
 unfold gent;rw[List.getElem?_eq_getElem hg]
theorem nxG_of {m:PImg}{g k:Nat}(hg:g<m.gates.length)(hk:k<m.comps.length)(hc:m.gates[g].c=k):nxG m g=calL m.comps[k].code m.gates[g].e:=by
 unfold nxG;rw[gcode_of hg hk hc,gent_of hg]
theorem nxG_in {m:PImg}(hb:BOk m):∀g∈List.range m.gates.length,∀c∈nxG m g,c∈List.range m.gates.length:=by
 intro g hg c hc;rw[List.mem_range]at hg ⊢;obtain⟨k,hk,h1,_⟩:=hb.gates g hg;rw[nxG_of hg hk h1]at hc;exact calL_in (hb.code k hk).2 c hc
structure IEnv (B km:Nat)(m:PImg)(ra:Option Addr)(rc:Nat)(ca:Option Addr)(cc:Nat)(ga:Option Addr)(gc:Nat)(w:World):Prop where
 i:At w km #[.slice ra m.regs.length rc,.slice ca m.comps.length cc,.slice ga m.gates.length gc,.int .i64 m.depth]
 m:ImgIn B w ra ca ga m
 le:B≤w.heap.size
section
variable {B km:Nat} {m:PImg} {ra:Option Addr} {rc:Nat} {ca:Option Addr} {cc:Nat} {ga:Option Addr} {gc:Nat} {w w':World}
theorem IEnv.keep {b:Nat}(h:IEnv B km m ra rc ca cc ga gc w)(hk:Kp (fun k=>k=b) w w')(hb:B≤b)(h1:km≠b):IEnv B km m ra rc ca cc ga gc w':=by
 have hB:Below B w w':=hk.below h.le (fun k q=>by omega);exact⟨at_keep h.i hk h1,h.m.below hB,Nat.le_trans h.le hB.size⟩
theorem IEnv.below (h:IEnv B km m ra rc ca cc ga gc w)(hk:Below w.heap.size w w'):IEnv B km m ra rc ca cc ga gc w':=
 ⟨at_keep h.i (Kp.of_below (S:=fun _=>False) hk) id,h.m.below (hk.mono h.le),Nat.le_trans h.le hk.size⟩
end
def dpL (l:List Int):Int:=l.foldl (fun a d=>max a (wrap64 (d+1))) 0
theorem dpL_snoc (l:List Int)(x:Int):dpL (l++[x])=max (dpL l) (wrap64 (x+1)):=by unfold dpL;rw[List.foldl_append];rfl
def dpF (_:Nat)(vs:List Int):Option Int:=some (dpL vs)
theorem deepOf_any (B km:Nat)(m:PImg)(ra:Option Addr)(rc:Nat)(ca:Option Addr)(cc:Nat)(ga:Option Addr)(gc:Nat)(hok:BOk m)(p:Pl)(hp:p.qf=41)(hbB:B≤p.b)(hkm:km≠p.b)(d:Nat)
 (hask:AskC (IEnv B km m ra rc ca cc ga gc) p enci tupi (nxG m) dpF (List.range m.gates.length) d)
 (w:World)(n:Nat)(S:Nat→Prop)(M:Nat→Option (Option Int))(nn:Nat)(hE:IEnv B km m ra rc ca cc ga gc w)(hR:Rem p enci w nn M)(hS:Memo (nxG m) dpF (List.range m.gates.length) (fun x=>S x∨x=n) M)(hA:∀q,S q→Anc (nxG m) dpF q n)(hn:n∈List.range m.gates.length)(hl:left (List.range m.gates.length) M≤d)(hb:nn+2*left (List.range m.gates.length) M≤1000000):
 Calls Tryz.prog 21 #[imA m ra rc ca cc ga gc,.int .i64 n,p.qv] w fun r w'=>r=.returned (tupi (ev (nxG m) dpF (List.range m.gates.length) n))∧Aft p enci (nxG m) dpF (List.range m.gates.length) (fun x=>S x∨x=n) M nn w w':=by
 have hU:=nxG_in hok;have hqv:p.qv=.func (.func 41) #[] #[.pointer (some ⟨p.kA,0,none⟩),.pointer (some ⟨p.kF,0,none⟩),.pointer (some ⟨p.kQ,0,none⟩)]:=by unfold Pl.qv pv;rw[hp]
 rw[hqv];have hn2:=List.mem_range.1 hn;obtain⟨k,hk,hgc,hgr⟩:=hok.gates n hn2;obtain⟨hcl,hco⟩:=hok.code k hk;have hNx:=ζ (fun W (q:Below w.heap.size w W)=>calledBy_any m ra ca ga rc cc gc n k hn2 hk hgc (by omega) hco W (((hE.m.mono hE.le).below q).mono q.size));have hNl:(nxG m n).length≤2000:=by
  rw[nxG_of hn2 hk hgc];have:=calL_len m.comps[k].code m.gates[n].e;omega
 rw[←nxG_of hn2 hk hgc]at hNx;have hq:=ζ (fun W (e:IEnv B km m ra rc ca cc ga gc W) (M':Nat→Option (Option Int)) (nn':Nat) (h1:Rem p enci W nn' M') (h2:Memo (nxG m) dpF (List.range m.gates.length) (fun x=>S x∨x=n) M') (h3:More M M') (h4:nn'+2*left (List.range m.gates.length) M'≤nn+2*left (List.range m.gates.length) M) (c:Nat) (hc:c∈nxG m n)=>hask W c (fun x=>S x∨x=n) M' nn' e h1 h2 (fun q hq=>by
  rcases hq with hq|hq
  ·exact(hA q hq).trans (anc_child hc)
  ·subst hq;exact anc_child hc) (hU n hn c hc) (Nat.le_trans (left_more h3) hl) (by omega))
 rw[hp]at hq;unfold pv at hq;have evd:∀vs:List Int,(nxG m n).map (ev (nxG m) dpF (List.range m.gates.length))=vs.map some→ev (nxG m) dpF (List.range m.gates.length) n=some (dpL vs):=fun vs h=>ev_known hU hn h
 have evn:∀c,c∈nxG m n→ev (nxG m) dpF (List.range m.gates.length) c=none→ev (nxG m) dpF (List.range m.gates.length) n=none:=fun c hc h=>ev_none hU hn hc h
 have hstart:Aft p enci (nxG m) dpF (List.range m.gates.length) (fun x=>S x∨x=n) M nn w w:=⟨M,nn,hR,hS,More.refl M,Nat.le_refl _,Kp.refl _ _⟩;have hEk:=ζ (fun W (q:Kp (fun k=>k=p.b) w W)=>hE.keep q hbB hkm);have hpb:=hR.m.lt;replace hE:=ζ hE;replace hS:=ζ hS;replace hR:=ζ hR;replace hA:=ζ hA;replace hU:=ζ hU;replace hn:=ζ hn;replace hstart:=ζ hstart;replace evd:=ζ evd;replace evn:=ζ evn;clear hask hqv hb hl hgc hcl hco hgr hk hok;generalize hN:nxG m n=N at*;generalize hev:ev (nxG m) dpF (List.range m.gates.length)=evv at*;generalize List.range m.gates.length=U at*;unfold imA at*;go_enter Tryz.func21,Tryz.ntmps21;go_upto_region 1 with fail
 refine wp_world (fun W=>At W w.heap.size #[.slice ra m.regs.length rc,.slice ca m.comps.length cc,.slice ga m.gates.length gc,.int .i64 m.depth]∧Below w.heap.size w W) ⟨At.new w _ _,(Below.refl _ _).alloc (Nat.le_refl _) _⟩ ?_;rintro W ⟨A0,hB⟩;have k0:W.cell? ⟨w.heap.size,0,none⟩=some (.slice ra m.regs.length rc):=A0.2.1 0;have k1:W.cell? ⟨w.heap.size,1,none⟩=some (.slice ca m.comps.length cc):=A0.2.1 1;have k2:W.cell? ⟨w.heap.size,2,none⟩=some (.slice ga m.gates.length gc):=A0.2.1 2;have k3:W.cell? ⟨w.heap.size,3,none⟩=some (.int .i64 m.depth):=A0.2.1 3;have hWs:=hB.size;replace hB:=ζ hB;clear A0;go_upto_region 3 with(go_at_call 24;refine(hNx.out _ hB.out).mono ?_;rintro r W1 ⟨v,rfl,y1,y2⟩;obtain⟨va,vc,rfl⟩:=own_slice y1;rw[List.length_map]at y1;replace y1:=ζ y1;replace y2:=ζ y2)
 clear k0 k1 k2 k3;have hBB:Hz (Below w.heap.size w W1):=ζ (hB.out.trans (y2.out.mono hWs));have hlo:p.b<W.heap.size:=by omega
 go_loopw [8,17] (fun rv iv wr=>∃(j:Nat) (vs:List Int),rv=.int .i64 (dpL vs)∧iv=.int .i64 j∧j≤N.length∧Hz (Asked p enci (nxG m) dpF U (fun x=>S x∨x=n) M nn N W.heap.size (.slice va N.length vc) w j vs wr)) (fun _ iv _=>N.length - (intOf iv).toNat)
 case atStart=>exact⟨0,[],rfl,rfl,by omega,ζ ⟨aft_below hstart.out hBB.out,rfl,y1.out⟩⟩
 case round=>
  obtain⟨j,vs,rfl,rfl,hj,hk⟩:=hrel;have hkp:=hk.out.kp;have hEr:=hEk.out wr hkp;by_cases hlt:j<N.length
  ·obtain⟨b,off,ena,_,hb2,hc⟩:=own_nin hk.out.v j (by rw[List.length_map];exact hlt);subst ena;rw[List.getElem_map]at hc;have hi1:(j:Int)<N.length:=by omega
   obtain⟨M',nn',r1,r2,r3,r4,r5⟩:=hk.out.a;have hmem:N[j]∈N:=List.getElem_mem hlt;have hcall:=hq.out wr hEr M' nn' r1 r2 r3 r4 N[j] hmem;have hnx:=fun x (hx:ev (nxG m) dpF U N[j]=some x) w2 (g:Aft p enci (nxG m) dpF U (fun x=>S x∨x=n) M' nn' wr w2)=>hk.out.next hlt x hx hlo r3 r4 r5 g
   have hn2:=fun w2 (g:Aft p enci (nxG m) dpF U (fun x=>S x∨x=n) M' nn' wr w2)=>(show Aft p enci (nxG m) dpF U (fun x=>S x∨x=n) M nn w w2 by
    obtain⟨M2,n2,g1,g2,g3,g4,g5⟩:=g;exact⟨M2,n2,g1,g2,r3.trans g3,by omega,r5.trans g5 (fun k q=>.inl q)⟩)
   have hev2:ev (nxG m) dpF U N[j]=evv N[j]:=by rw[hev]
   (try rw[hev2]at hcall)
   rw[hev2]at hnx;have hno:=evn.out N[j] hmem;clear hev2 hmem r1 r2 r5;generalize N[j]=c at*;replace hnx:=ζ hnx;replace hn2:=ζ hn2;replace hk:=ζ hk.out;replace hkp:=ζ hkp;replace hEr:=ζ hEr;replace r3:=ζ r3;replace r4:=ζ r4;have hij:IntKind.i64.wrap ((j:Int)+1)=((j+1:Nat):Int):=by rw[IntKind.wrap_i64];omega
   have hij2:wrap64 ((j:Int)+1)=((j+1:Nat):Int):=by unfold wrap64;omega
   cases hcv:evv c with
   |none=>
    have hem:=hno hcv;rw[hcv]at hcall;unfold tupi at hcall;replace hno:=ζ hno;replace hcall:=ζ hcall;go_wp2_with(go_at_call 41;refine hcall.out.mono ?_;rintro r w2 ⟨rfl,g⟩;replace g:=ζ g);refine bodyPost_ret (v:=.tuple #[.int .i64 0,.bool false]) (by simp[results,Tryz.results21,go_sem]) rfl ?_;refine⟨?_,hn2.out _ g.out⟩;rw[hem];rfl
   |some x=>
    rw[hcv]at hcall;unfold tupi at hcall;replace hno:=ζ hno;replace hcall:=ζ hcall;replace hcv:=ζ hcv;go_wp2_with(go_at_call 41;refine hcall.out.mono ?_;rintro r w2 ⟨rfl,g⟩;replace g:=ζ g);clear hij hij2;go_roundw
    case rel=>exact⟨j+1,vs++[x],by rw[dpL_snoc],by simp,by omega,ζ (hnx.out x hcv.out _ g.out)⟩
    case measure=>simp only[intOf];omega
  ·have hje:j=N.length:=by omega
   subst hje;have hi2:¬(N.length:Int)<N.length:=by omega
   have hres:=evd.out vs (by rw[←hk.out.e,List.take_of_length_le (Nat.le_refl _),←hev]);generalize dpL vs=mv at*;have haf:=ζ hk.out.a;replace hk:=ζ hk.out;replace hEr:=ζ hEr;replace hkp:=ζ hkp;replace hres:=ζ hres;go_wp2_with fail;refine bodyPost_ret (v:=.tuple #[.int .i64 mv,.bool true]) (by simp[results,Tryz.results21,go_sem]) rfl ?_;refine⟨?_,haf.out⟩;rw[hres.out];rfl
theorem findi_any (B km:Nat)(m:PImg)(ra:Option Addr)(rc:Nat)(ca:Option Addr)(cc:Nat)(ga:Option Addr)(gc:Nat)(hok:BOk m)(p:Pl)(hp:p.qf=41)(hbB:B≤p.b)(hkm:km≠p.b)(d:Nat):
 AskC (IEnv B km m ra rc ca cc ga gc) p enci tupi (nxG m) dpF (List.range m.gates.length) d→FindC 20 #[pv km] (IEnv B km m ra rc ca cc ga gc) p enci tupi (nxG m) dpF (List.range m.gates.length) d:=by
 intro hask w n S M nn hE hR hS hA hm hl hb;have hD:=deepOf_any B km m ra rc ca cc ga gc hok p hp hbB hkm d hask w n S M nn hE hR hS hA hm hl hb;have hqv:p.qv=.func (.func 41) #[] #[.pointer (some ⟨p.kA,0,none⟩),.pointer (some ⟨p.kF,0,none⟩),.pointer (some ⟨p.kQ,0,none⟩)]:=by unfold Pl.qv pv;rw[hp]
 show Calls Tryz.prog 20 #[.int .i64 n,p.qv,.pointer (some ⟨km,0,none⟩)] w _;rw[hqv]at hD ⊢;have k0:w.cell? ⟨km,0,none⟩=some (.slice ra m.regs.length rc):=hE.i.2.1 0;have k1:w.cell? ⟨km,1,none⟩=some (.slice ca m.comps.length cc):=hE.i.2.1 1;have k2:w.cell? ⟨km,2,none⟩=some (.slice ga m.gates.length gc):=hE.i.2.1 2;have k3:w.cell? ⟨km,3,none⟩=some (.int .i64 m.depth):=hE.i.2.1 3;unfold imA at hD;clear hask hE hR hS hA hm hl hb hqv hok;generalize ev (nxG m) dpF (List.range m.gates.length) n=res at*;generalize List.range m.gates.length=U at*
 cases res with
 |some v=>
  unfold tupi at hD ⊢;replace hD:=ζ hD;go_enter Tryz.func20,Tryz.ntmps20;go_wp2_with(go_at_call 21;refine hD.out.mono ?_;rintro r W2 ⟨rfl,g⟩;replace g:=ζ g);refine bodyPost_ret (v:=.tuple #[.int .i64 v,.bool true]) (by simp[results,Tryz.results20,go_sem]) rfl ?_;exact⟨rfl,g.out⟩
 |none=>
  unfold tupi at hD ⊢;replace hD:=ζ hD;go_enter Tryz.func20,Tryz.ntmps20;go_wp2_with(go_at_call 21;refine hD.out.mono ?_;rintro r W2 ⟨rfl,g⟩;replace g:=ζ g);refine bodyPost_ret (v:=.tuple #[.int .i64 0,.bool false]) (by simp[results,Tryz.results20,go_sem]) rfl ?_;exact⟨rfl,g.out⟩
structure Cst where
 s:Int
 c:Int
 i:Int
def tupc:Option Cst→Value
 |some v=>.tuple #[.agg #[.bool true,.int .u64 v.s,.int .u64 v.c,.int .u64 v.i],.bool true]
 |none=>.tuple #[.agg #[.bool false,.int .u64 0,.int .u64 0,.int .u64 0],.bool false]
def encc:Option Cst→Value
 |some v=>.agg #[.bool true,.int .u64 v.s,.int .u64 v.c,.int .u64 v.i,.bool true]
 |none=>.agg #[.bool false,.int .u64 0,.int .u64 0,.int .u64 0,.bool false]
theorem hitc_some (p:Pl)(hp:p.qf=22)(n:Nat)(hn:n<4611686018427387904)(M:Nat→Option (Option Cst))(nn:Nat)(v:Cst)(hM:M n=some (some v))(w:World)(hR:Rem p encc w nn M)(Q:World→Prop)(hQ:∀w',Rem p encc w' nn M→Kp (fun k=>k=p.b) w w'→Q w'):
 Calls Tryz.prog p.qf #[.int .i64 n,pv p.kA,pv p.kF,pv p.kQ] w fun r w'=>r=.returned (tupc (some v))∧Q w':=by
 have hR0:=hR.below ((Below.refl _ w).alloc (Nat.le_refl _) (.cells #[.bool false,.int .u64 0,.int .u64 0,.int .u64 0] 42));have hl0:(Instr.lookup 89 (.map (some p.b)) (.int .i64 n) true).run Tryz.prog (w.alloc (.cells #[.bool false,.int .u64 0,.int .u64 0,.int .u64 0] 42))=.ok (.tuple #[.agg #[.bool true,.int .u64 v.s,.int .u64 v.c,.int .u64 v.i,.bool true],.bool true]) (w.alloc (.cells #[.bool false,.int .u64 0,.int .u64 0,.int .u64 0] 42)):=by
  have:=hR0.m.look (t:=89) (e:=91) (by kernel_rfl) (z:=.agg #[.bool false,.int .u64 0,.int .u64 0,.int .u64 0,.bool false]) (by kernel_rfl) n hn;rw[hM]at this;exact this
 have a0:w.cell? ⟨p.kA,0,none⟩=some (.map (some p.b)):=hR.a.2.1 0;have lta:=hR.a.1;replace hR:=ζ hR;clear hM hn hR0;rw[hp];unfold pv tupc;go_enter Tryz.func22,Tryz.ntmps22;go_wp2_with fail;go_region
 all_goals
  go_wp2_with fail;refine bodyPost_ret (v:=.tuple #[.agg #[.bool true,.int .u64 v.s,.int .u64 v.c,.int .u64 v.i],.bool true]) (by simp[results,Tryz.results22,go_sem]) rfl ?_;refine⟨rfl,?_⟩;refine hQ _ (hR.out.below ?_) (Kp.of_below ?_)<;>repeat(first|exact Below.refl _ _|refine Below.alloc ?_ (by simp<;>omega) _|refine Below.setCell ?_ (by simp<;>omega) _|refine Below.drew ?_)
theorem hitc_none (p:Pl)(hp:p.qf=22)(n:Nat)(hn:n<4611686018427387904)(M:Nat→Option (Option Cst))(nn:Nat)(hM:M n=some (none))(w:World)(hR:Rem p encc w nn M)(Q:World→Prop)(hQ:∀w',Rem p encc w' nn M→Kp (fun k=>k=p.b) w w'→Q w'):
 Calls Tryz.prog p.qf #[.int .i64 n,pv p.kA,pv p.kF,pv p.kQ] w fun r w'=>r=.returned (tupc (none))∧Q w':=by
 have hR0:=hR.below ((Below.refl _ w).alloc (Nat.le_refl _) (.cells #[.bool false,.int .u64 0,.int .u64 0,.int .u64 0] 42));have hl0:(Instr.lookup 89 (.map (some p.b)) (.int .i64 n) true).run Tryz.prog (w.alloc (.cells #[.bool false,.int .u64 0,.int .u64 0,.int .u64 0] 42))=.ok (.tuple #[.agg #[.bool false,.int .u64 0,.int .u64 0,.int .u64 0,.bool false],.bool true]) (w.alloc (.cells #[.bool false,.int .u64 0,.int .u64 0,.int .u64 0] 42)):=by
  have:=hR0.m.look (t:=89) (e:=91) (by kernel_rfl) (z:=.agg #[.bool false,.int .u64 0,.int .u64 0,.int .u64 0,.bool false]) (by kernel_rfl) n hn;rw[hM]at this;exact this
 have a0:w.cell? ⟨p.kA,0,none⟩=some (.map (some p.b)):=hR.a.2.1 0;have lta:=hR.a.1;replace hR:=ζ hR;clear hM hn hR0;rw[hp];unfold pv tupc;go_enter Tryz.func22,Tryz.ntmps22;go_wp2_with fail;go_region
 all_goals
  go_wp2_with fail;refine bodyPost_ret (v:=.tuple #[.agg #[.bool false,.int .u64 0,.int .u64 0,.int .u64 0],.bool false]) (by simp[results,Tryz.results22,go_sem]) rfl ?_;refine⟨rfl,?_⟩;refine hQ _ (hR.out.below ?_) (Kp.of_below ?_)<;>repeat(first|exact Below.refl _ _|refine Below.alloc ?_ (by simp<;>omega) _|refine Below.setCell ?_ (by simp<;>omega) _|refine Below.drew ?_)
theorem missc_some (km:Nat)(p:Pl)(hp:p.qf=22)(hf:p.fv=.func (.func 13) #[] #[pv km])(nx:Nat→List Nat)(f:Nat→List Cst→Option Cst)(U:List Nat)(S:Nat→Prop)(n:Nat)(hn:n<4611686018427387904)(M:Nat→Option (Option Cst))(nn:Nat)(v:Cst)(hM:M n=none)(w:World)(hR:Rem p encc w nn M)(hnn:nn+1+2*left U (setM M n none)≤1000000)
 (hfd:∀W,Rem p encc W (nn+1) (setM M n none)→Kp (fun k=>k=p.b) w W→Calls Tryz.prog 13 (#[.int .i64 n,p.qv]++#[pv km]) W fun r w'=>r=.returned (tupc (some v))∧Aft p encc nx f U S (setM M n none) (nn+1) W w'):
 Calls Tryz.prog p.qf #[.int .i64 n,pv p.kA,pv p.kF,pv p.kQ] w fun r w'=>r=.returned (tupc (some v))∧∃M' nn',Rem p encc w' (nn'+1) (setM M' n (some v))∧Memo nx f U S M'∧More (setM M n none) M'∧nn'+2*left U M'≤nn+1+2*left U (setM M n none)∧Kp (fun k=>k=p.b) w w':=by
 have hR0:=hR.below ((Below.refl _ w).alloc (Nat.le_refl _) (.cells (List.toArray [Value.bool false,.int .u64 0,.int .u64 0,.int .u64 0]) 42));have hl0:(Instr.lookup 89 (.map (some p.b)) (.int .i64 n) true).run Tryz.prog (w.alloc (.cells (List.toArray [Value.bool false,.int .u64 0,.int .u64 0,.int .u64 0]) 42))=.ok (.tuple #[.agg #[.bool false,.int .u64 0,.int .u64 0,.int .u64 0,.bool false],.bool false]) (w.alloc (.cells (List.toArray [Value.bool false,.int .u64 0,.int .u64 0,.int .u64 0]) 42)):=by
  have:=hR0.m.look (t:=89) (e:=91) (by kernel_rfl) (z:=.agg #[.bool false,.int .u64 0,.int .u64 0,.int .u64 0,.bool false]) (by kernel_rfl) n hn;rw[hM]at this;exact this
 have a0:w.cell? ⟨p.kA,0,none⟩=some (.map (some p.b)):=hR.a.2.1 0;have lta:=hR.a.1;have hbb:=hR.m.lt;replace hR:=ζ hR;replace hfd:=ζ hfd;replace hf:=ζ hf;replace hnn:=ζ hnn;clear hM hR0;rw[hp];unfold pv tupc;go_enter Tryz.func22,Tryz.ntmps22;go_upto_region 4 with fail
 refine wp_world (fun W=>Below (w.alloc (.cells (List.toArray [Value.bool false,.int .u64 0,.int .u64 0,.int .u64 0]) 42)).heap.size (w.alloc (.cells (List.toArray [Value.bool false,.int .u64 0,.int .u64 0,.int .u64 0]) 42)) W) (by repeat(first|exact Below.refl _ _|refine Below.alloc ?_ (by simp<;>omega) _|refine Below.setCell ?_ (by simp<;>omega) _)) ?_;intro W hB0;have hB:Below w.heap.size w W:=Below.trans (Below.alloc (Below.refl _ _) (Nat.le_refl _) _) (hB0.mono (by simp));have r0:=at_keep (At.new w (List.toArray [Value.bool false,.int .u64 0,.int .u64 0,.int .u64 0]) 42) (Kp.of_below (S:=fun _=>False) hB0) id;clear hl0 a0 hB0;have hR1:=hR.out.below hB;have a0:W.cell? ⟨p.kA,0,none⟩=some (.map (some p.b)):=hR1.a.2.1 0;have hm1:=ζ hR1.m;replace hR1:=ζ hR1;replace hB:=ζ hB;have hne:Hz (¬w.heap.size=p.b):=ζ (by omega);replace r0:=ζ r0;go_upto_region 5 with(at_mapUpdate;refine wpList_put rfl _ _ _ _ 91 rfl (by kernel_rfl) p.b nn encc M rfl hm1.out (by have:=hnn.out;unfold maxLen;omega) n hn none rfl rfl ?_;intro W2 hm2 hk2)
 clear a0;have hR2:=hR1.out.turn hk2 hm2;have a0:W2.cell? ⟨p.kA,0,none⟩=some (.map (some p.b)):=hR2.a.2.1 0;have f0:W2.cell? ⟨p.kF,0,none⟩=some p.fv:=hR2.f.2.1 0;have q0:W2.cell? ⟨p.kQ,0,none⟩=some p.qv:=hR2.q.2.1 0;rw[hf.out]at f0;have hkw:Kp (fun k=>k=p.b) w W2:=(Kp.of_below hB.out).trans hk2 (fun k q=>.inl q);have hc:=hfd.out W2 hR2 hkw;replace hc:Calls Tryz.prog 13 #[.int .i64 n,p.qv,.pointer (some ⟨km,0,none⟩)] W2 _:=hc;unfold tupc at hc;replace r0:=ζ (at_keep r0.out hk2 hne.out);replace hkw:=ζ hkw;replace hR2:=ζ hR2;replace hc:=ζ hc;clear hm1 hm2 hk2 hR1;unfold pv at f0;go_upto_region 6 with(go_at_call 13;refine hc.out.mono ?_;rintro r W3 ⟨rfl,M',nn',hR3,hS3,hmo,hle,hk3⟩)
 clear a0 f0 q0;have r3:=at_keep r0.out hk3 hne.out;have hk33:=hkw.out.trans hk3 (fun k q=>.inl q);have hw3:=hk33.size;refine wp_world (fun X=>Below W3.heap.size W3 X∧At X W3.heap.size (List.toArray [Value.bool true,.int .u64 v.s,.int .u64 v.c,.int .u64 v.i])) ⟨(by repeat(first|exact Below.refl _ _|refine Below.alloc ?_ (by simp<;>omega) _|refine Below.setCell ?_ (by simp<;>omega) _)),At.new W3 (List.toArray [Value.bool true,.int .u64 v.s,.int .u64 v.c,.int .u64 v.i]) 42⟩ ?_;rintro X ⟨hB3,r9⟩;replace r3:=at_keep r3 (Kp.of_below (S:=fun _=>False) hB3) id;have hRX:=hR3.below hB3;have hkX:=hk33.trans (Kp.of_below (S:=fun k=>k=p.b) hB3) (fun k q=>.inl q);have hne9:Hz (¬W3.heap.size=p.b):=ζ (by omega);clear hk3 hk33 hR3 r0 hB3;generalize W3.heap.size=k9 at*;have a0:X.cell? ⟨p.kA,0,none⟩=some (.map (some p.b)):=hRX.a.2.1 0;have⟨_,p9,_⟩:=r9;have hm3:=ζ hRX.m;replace hRX:=ζ hRX;replace hle:=ζ hle
 replace hS3:=ζ hS3;replace hmo:=ζ hmo;replace hkX:=ζ hkX;replace r3:=ζ r3;replace r9:=ζ r9;go_upto_region 7 with(at_mapUpdate;refine wpList_put rfl _ _ _ _ 91 rfl (by kernel_rfl) p.b nn' encc M' rfl hm3.out (by have:=hnn.out;have:=hle.out;unfold maxLen;omega) n hn (some v) rfl rfl ?_;intro W4 hm4 hk4)
 clear a0 p9;have hR4:=hRX.out.turn hk4 hm4;have r4:=at_keep r3.out hk4 hne.out;have r94:=at_keep r9.out hk4 hne9.out;have hk44:=hkX.out.trans hk4 (fun k q=>.inl q);have⟨l4,p4,f4⟩:=r4;have⟨_,p9,_⟩:=r94;have hfin:=ζ (At.setAll (cs:=[Value.bool false,.int .u64 0,.int .u64 0,.int .u64 0]) r4 [Value.bool true,.int .u64 v.s,.int .u64 v.c,.int .u64 v.i] rfl);have hkf:Kp (fun k=>k=w.heap.size) W4 (W4.setCells w.heap.size 0 [Value.bool true,.int .u64 v.s,.int .u64 v.c,.int .u64 v.i]):=kp_sets W4 w.heap.size [Value.bool true,.int .u64 v.s,.int .u64 v.c,.int .u64 v.i] 0;have hRf:=ζ (hR4.above hR.out hkf (fun k q=>by omega));have hKf:=ζ (hk44.trans hkf (fun k q=>.inr (by omega)));clear hkf hk44 r4 r94 hR4 hk4 hm4;go_wp2_with fail;have⟨_,q4,_⟩:=hfin.out;simp only[World.setCells]at q4;refine bodyPost_ret (v:=.tuple #[.agg #[.bool true,.int .u64 v.s,.int .u64 v.c,.int .u64 v.i],.bool true]) (by simp[results,Tryz.results22,go_sem,q4]) rfl ?_
 exact⟨rfl,M',nn',hRf.out,hS3.out,hmo.out,hle.out,hKf.out⟩
theorem missc_none (km:Nat)(p:Pl)(hp:p.qf=22)(hf:p.fv=.func (.func 13) #[] #[pv km])(nx:Nat→List Nat)(f:Nat→List Cst→Option Cst)(U:List Nat)(S:Nat→Prop)(n:Nat)(hn:n<4611686018427387904)(M:Nat→Option (Option Cst))(nn:Nat)(hM:M n=none)(w:World)(hR:Rem p encc w nn M)(hnn:nn+1+2*left U (setM M n none)≤1000000)
 (hfd:∀W,Rem p encc W (nn+1) (setM M n none)→Kp (fun k=>k=p.b) w W→Calls Tryz.prog 13 (#[.int .i64 n,p.qv]++#[pv km]) W fun r w'=>r=.returned (tupc (none))∧Aft p encc nx f U S (setM M n none) (nn+1) W w'):
 Calls Tryz.prog p.qf #[.int .i64 n,pv p.kA,pv p.kF,pv p.kQ] w fun r w'=>r=.returned (tupc (none))∧∃M' nn',Rem p encc w' (nn'+1) (setM M' n (none))∧Memo nx f U S M'∧More (setM M n none) M'∧nn'+2*left U M'≤nn+1+2*left U (setM M n none)∧Kp (fun k=>k=p.b) w w':=by
 have hR0:=hR.below ((Below.refl _ w).alloc (Nat.le_refl _) (.cells (List.toArray [Value.bool false,.int .u64 0,.int .u64 0,.int .u64 0]) 42));have hl0:(Instr.lookup 89 (.map (some p.b)) (.int .i64 n) true).run Tryz.prog (w.alloc (.cells (List.toArray [Value.bool false,.int .u64 0,.int .u64 0,.int .u64 0]) 42))=.ok (.tuple #[.agg #[.bool false,.int .u64 0,.int .u64 0,.int .u64 0,.bool false],.bool false]) (w.alloc (.cells (List.toArray [Value.bool false,.int .u64 0,.int .u64 0,.int .u64 0]) 42)):=by
  have:=hR0.m.look (t:=89) (e:=91) (by kernel_rfl) (z:=.agg #[.bool false,.int .u64 0,.int .u64 0,.int .u64 0,.bool false]) (by kernel_rfl) n hn;rw[hM]at this;exact this
 have a0:w.cell? ⟨p.kA,0,none⟩=some (.map (some p.b)):=hR.a.2.1 0;have lta:=hR.a.1;have hbb:=hR.m.lt;replace hR:=ζ hR;replace hfd:=ζ hfd;replace hf:=ζ hf;replace hnn:=ζ hnn;clear hM hR0;rw[hp];unfold pv tupc;go_enter Tryz.func22,Tryz.ntmps22;go_upto_region 4 with fail
 refine wp_world (fun W=>Below (w.alloc (.cells (List.toArray [Value.bool false,.int .u64 0,.int .u64 0,.int .u64 0]) 42)).heap.size (w.alloc (.cells (List.toArray [Value.bool false,.int .u64 0,.int .u64 0,.int .u64 0]) 42)) W) (by repeat(first|exact Below.refl _ _|refine Below.alloc ?_ (by simp<;>omega) _|refine Below.setCell ?_ (by simp<;>omega) _)) ?_;intro W hB0;have hB:Below w.heap.size w W:=Below.trans (Below.alloc (Below.refl _ _) (Nat.le_refl _) _) (hB0.mono (by simp));have r0:=at_keep (At.new w (List.toArray [Value.bool false,.int .u64 0,.int .u64 0,.int .u64 0]) 42) (Kp.of_below (S:=fun _=>False) hB0) id;clear hl0 a0 hB0;have hR1:=hR.out.below hB;have a0:W.cell? ⟨p.kA,0,none⟩=some (.map (some p.b)):=hR1.a.2.1 0;have hm1:=ζ hR1.m;replace hR1:=ζ hR1;replace hB:=ζ hB;have hne:Hz (¬w.heap.size=p.b):=ζ (by omega);replace r0:=ζ r0;go_upto_region 5 with(at_mapUpdate;refine wpList_put rfl _ _ _ _ 91 rfl (by kernel_rfl) p.b nn encc M rfl hm1.out (by have:=hnn.out;unfold maxLen;omega) n hn none rfl rfl ?_;intro W2 hm2 hk2)
 clear a0;have hR2:=hR1.out.turn hk2 hm2;have a0:W2.cell? ⟨p.kA,0,none⟩=some (.map (some p.b)):=hR2.a.2.1 0;have f0:W2.cell? ⟨p.kF,0,none⟩=some p.fv:=hR2.f.2.1 0;have q0:W2.cell? ⟨p.kQ,0,none⟩=some p.qv:=hR2.q.2.1 0;rw[hf.out]at f0;have hkw:Kp (fun k=>k=p.b) w W2:=(Kp.of_below hB.out).trans hk2 (fun k q=>.inl q);have hc:=hfd.out W2 hR2 hkw;replace hc:Calls Tryz.prog 13 #[.int .i64 n,p.qv,.pointer (some ⟨km,0,none⟩)] W2 _:=hc;unfold tupc at hc;replace r0:=ζ (at_keep r0.out hk2 hne.out);replace hkw:=ζ hkw;replace hR2:=ζ hR2;replace hc:=ζ hc;clear hm1 hm2 hk2 hR1;unfold pv at f0;go_upto_region 6 with(go_at_call 13;refine hc.out.mono ?_;rintro r W3 ⟨rfl,M',nn',hR3,hS3,hmo,hle,hk3⟩)
 clear a0 f0 q0;have r3:=at_keep r0.out hk3 hne.out;have hk33:=hkw.out.trans hk3 (fun k q=>.inl q);have hw3:=hk33.size;refine wp_world (fun X=>Below W3.heap.size W3 X∧At X W3.heap.size (List.toArray [Value.bool false,.int .u64 0,.int .u64 0,.int .u64 0])) ⟨(by repeat(first|exact Below.refl _ _|refine Below.alloc ?_ (by simp<;>omega) _|refine Below.setCell ?_ (by simp<;>omega) _)),At.new W3 (List.toArray [Value.bool false,.int .u64 0,.int .u64 0,.int .u64 0]) 42⟩ ?_;rintro X ⟨hB3,r9⟩;replace r3:=at_keep r3 (Kp.of_below (S:=fun _=>False) hB3) id;have hRX:=hR3.below hB3;have hkX:=hk33.trans (Kp.of_below (S:=fun k=>k=p.b) hB3) (fun k q=>.inl q);have hne9:Hz (¬W3.heap.size=p.b):=ζ (by omega);clear hk3 hk33 hR3 r0 hB3;generalize W3.heap.size=k9 at*;have a0:X.cell? ⟨p.kA,0,none⟩=some (.map (some p.b)):=hRX.a.2.1 0;have⟨_,p9,_⟩:=r9;have hm3:=ζ hRX.m;replace hRX:=ζ hRX;replace hle:=ζ hle;replace hS3:=ζ hS3
 replace hmo:=ζ hmo;replace hkX:=ζ hkX;replace r3:=ζ r3;replace r9:=ζ r9;go_upto_region 7 with(at_mapUpdate;refine wpList_put rfl _ _ _ _ 91 rfl (by kernel_rfl) p.b nn' encc M' rfl hm3.out (by have:=hnn.out;have:=hle.out;unfold maxLen;omega) n hn (none) rfl rfl ?_;intro W4 hm4 hk4)
 clear a0 p9;have hR4:=hRX.out.turn hk4 hm4;have r4:=at_keep r3.out hk4 hne.out;have r94:=at_keep r9.out hk4 hne9.out;have hk44:=hkX.out.trans hk4 (fun k q=>.inl q);have⟨l4,p4,f4⟩:=r4;have⟨_,p9,_⟩:=r94;have hfin:=ζ (At.setAll (cs:=[Value.bool false,.int .u64 0,.int .u64 0,.int .u64 0]) r4 [Value.bool false,.int .u64 0,.int .u64 0,.int .u64 0] rfl);have hkf:Kp (fun k=>k=w.heap.size) W4 (W4.setCells w.heap.size 0 [Value.bool false,.int .u64 0,.int .u64 0,.int .u64 0]):=kp_sets W4 w.heap.size [Value.bool false,.int .u64 0,.int .u64 0,.int .u64 0] 0;have hRf:=ζ (hR4.above hR.out hkf (fun k q=>by omega));have hKf:=ζ (hk44.trans hkf (fun k q=>.inr (by omega)));clear hkf hk44 r4 r94 hR4 hk4 hm4;go_wp2_with fail;have⟨_,q4,_⟩:=hfin.out;simp only[World.setCells]at q4;refine bodyPost_ret (v:=.tuple #[.agg #[.bool false,.int .u64 0,.int .u64 0,.int .u64 0],.bool false]) (by simp[results,Tryz.results22,go_sem,q4]) rfl ?_
 exact⟨rfl,M',nn',hRf.out,hS3.out,hmo.out,hle.out,hKf.out⟩
theorem hitc_any (p:Pl)(hp:p.qf=22)(n:Nat)(hn:n<4611686018427387904)(M:Nat→Option (Option Cst))(nn:Nat)(e:Option Cst)(hM:M n=some e)(w:World)(hR:Rem p encc w nn M)(Q:World→Prop)(hQ:∀w',Rem p encc w' nn M→Kp (fun k=>k=p.b) w w'→Q w'):
 Calls Tryz.prog p.qf #[.int .i64 n,pv p.kA,pv p.kF,pv p.kQ] w fun r w'=>r=.returned (tupc e)∧Q w':=by
 cases e with
 |some v=>exact hitc_some p hp n hn M nn v hM w hR Q hQ
 |none=>exact hitc_none p hp n hn M nn hM w hR Q hQ
theorem askc_any (km:Nat)(E:World→Prop)(p:Pl)(hp:p.qf=22)(hf:p.fv=.func (.func 13) #[] #[pv km])(hE:∀w w',E w→Kp (fun k=>k=p.b) w w'→E w')(nx:Nat→List Nat)(f:Nat→List Cst→Option Cst)(U:List Nat)(hU:∀n∈U,n<4611686018427387904)
 (hfind:∀d,AskC E p encc tupc nx f U d→FindC 13 #[pv km] E p encc tupc nx f U d):∀d,AskC E p encc tupc nx f U d:=by
 have hhit:∀(w:World) (n:Nat) (S:Nat→Prop) (M:Nat→Option (Option Cst)) (nn:Nat) (e:Option Cst),M n=some e→Rem p encc w nn M→Memo nx f U S M→(∀q,S q→Anc nx f q n)→n∈U→
  Calls Tryz.prog p.qf #[.int .i64 n,pv p.kA,pv p.kF,pv p.kQ] w fun r w'=>r=.returned (tupc (ev nx f U n))∧Aft p encc nx f U S M nn w w':=by
  intro w n S M nn e hM hR hS hA hn;rw[←hS.at_ hA hM];exact hitc_any p hp n (hU n hn) M nn e hM w hR _ (fun w' hR' hk=>⟨M,nn,hR',hS,More.refl M,Nat.le_refl _,hk⟩)
 intro d
 induction d with
 |zero=>
  intro w n S M nn hEw hR hS hA hn hl hb
  cases hM:M n with
  |some e=>exact hhit w n S M nn e hM hR hS hA hn
  |none=>exact absurd (left_set hn hM none) (by omega)
 |succ d ih=>
  intro w n S M nn hEw hR hS hA hn hl hb
  cases hM:M n with
  |some e=>exact hhit w n S M nn e hM hR hS hA hn
  |none=>
   have hlt:=left_set hn hM none;have hfd:=fun W (h2:Rem p encc W (nn+1) (setM M n none)) (h1:Kp (fun k=>k=p.b) w W)=>hfind d ih W n S (setM M n none) (nn+1) (hE w W hEw h1) h2 (hS.begin n) hA hn (by omega) (by omega)
   have hh:Calls Tryz.prog p.qf #[.int .i64 n,pv p.kA,pv p.kF,pv p.kQ] w fun r w'=>r=.returned (tupc (ev nx f U n))∧∃M' nn',Rem p encc w' (nn'+1) (setM M' n (ev nx f U n))∧Memo nx f U (fun x=>S x∨x=n) M'∧More (setM M n none) M'∧nn'+2*left U M'≤nn+1+2*left U (setM M n none)∧Kp (fun k=>k=p.b) w w':=by
    revert hfd
    cases ev nx f U n with
    |some v=>exact fun hfd=>missc_some km p hp hf nx f U _ n (hU n hn) M nn v hM w hR (by omega) hfd
    |none=>exact fun hfd=>missc_none km p hp hf nx f U _ n (hU n hn) M nn hM w hR (by omega) hfd
   refine hh.mono ?_;rintro r w' ⟨e1,M',nn',h1,h2,h3,h4,h5⟩;refine⟨e1,setM M' n (ev nx f U n),nn'+1,h1,h2.done _ rfl,((More.set M n none).trans h3).trans (More.set _ _ _),?_,h5⟩;have:=left_more (U:=U) (More.set M' n (ev nx f U n));omega
theorem remc_any (km:Nat)(w:World):
 Calls Tryz.prog 12 #[.func (.func 13) #[] #[.pointer (some ⟨km,0,none⟩)]] w fun e w'=>∃p:Pl,e=.returned p.qv∧p.qf=22∧p.fv=.func (.func 13) #[] #[pv km]∧Rem p encc w' 0 (fun _=>none)∧Below w.heap.size w w'∧w.heap.size≤p.b:=by
 have hmm:= @run_makeMap Tryz.prog;have b1:Below w.heap.size w (w.alloc (.cells #[.func (.func 13) #[] #[.pointer (some ⟨km,0,none⟩)]] 62)):=(Below.refl _ w).alloc (Nat.le_refl _) _;have b2:=b1.alloc b1.size (.map #[] 0);have b3:=b2.alloc b2.size (.cells #[.map (some (w.heap.size+1))] 89);have b4:=b3.alloc b3.size (.cells #[.nilFunc] 58);have aF:=(((At.new w #[.func (.func 13) #[] #[.pointer (some ⟨km,0,none⟩)]] 62).alloc (.map #[] 0)).alloc (.cells #[.map (some (w.heap.size+1))] 89)).alloc (.cells #[.nilFunc] 58);have aA:=(At.new ((w.alloc (.cells #[.func (.func 13) #[] #[.pointer (some ⟨km,0,none⟩)]] 62)).alloc (.map #[] 0)) #[.map (some (w.heap.size+1))] 89).alloc (.cells #[.nilFunc] 58);have aQ:=At.new (((w.alloc (.cells #[.func (.func 13) #[] #[.pointer (some ⟨km,0,none⟩)]] 62)).alloc (.map #[] 0)).alloc (.cells #[.map (some (w.heap.size+1))] 89)) #[.nilFunc] 58;have aM:MpIn ((((w.alloc (.cells #[.func (.func 13) #[] #[.pointer (some ⟨km,0,none⟩)]] 62)).alloc (.map #[] 0)).alloc (.cells #[.map (some (w.heap.size+1))] 89)).alloc (.cells #[.nilFunc] 58)) (w.heap.size+1) 0 encc (fun _=>none):=by
  have m0:=mp_made (w.alloc (.cells #[.func (.func 13) #[] #[.pointer (some ⟨km,0,none⟩)]] 62)) encc;have e:(w.alloc (.cells #[.func (.func 13) #[] #[.pointer (some ⟨km,0,none⟩)]] 62)).heap.size=w.heap.size+1:=by simp
  rw[e]at m0;exact(m0.below ((Below.refl _ _).alloc (Nat.le_refl _) _)).below ((Below.refl _ _).alloc (Nat.le_refl _) _)
 have e2:((w.alloc (.cells #[.func (.func 13) #[] #[.pointer (some ⟨km,0,none⟩)]] 62)).alloc (.map #[] 0)).heap.size=w.heap.size+1+1:=by simp
 have e3:(((w.alloc (.cells #[.func (.func 13) #[] #[.pointer (some ⟨km,0,none⟩)]] 62)).alloc (.map #[] 0)).alloc (.cells #[.map (some (w.heap.size+1))] 89)).heap.size=w.heap.size+1+1+1:=by simp
 rw[e2]at aA;rw[e3]at aQ;replace aM:=ζ aM;replace aA:=ζ aA;replace aQ:=ζ aQ;replace aF:=ζ aF;replace b4:=ζ b4;clear b1 b2 b3 e2 e3;go_enter Tryz.func12,Tryz.ntmps12;go_upto_region 3 with fail
 refine wp_world (fun W=>At W w.heap.size #[.func (.func 13) #[] #[.pointer (some ⟨km,0,none⟩)]]∧At W (w.heap.size+1+1) #[.map (some (w.heap.size+1))]∧At W (w.heap.size+1+1+1) #[.nilFunc]∧MpIn W (w.heap.size+1) 0 encc (fun _=>none)∧Below w.heap.size w W) ⟨aF.out,aA.out,aQ.out,aM.out,b4.out⟩ ?_;clear aF aA aQ aM b4 hmm;rintro W ⟨aF,aA,aQ,aM,hB⟩;have⟨l3,p3,f3⟩:=aQ;have hk:=kp_sets W (w.heap.size+1+1+1) [.func (.func 22) #[] #[.pointer (some ⟨w.heap.size+1+1,0,none⟩),.pointer (some ⟨w.heap.size,0,none⟩),.pointer (some ⟨w.heap.size+1+1+1,0,none⟩)]] 0;have hfin:=ζ (At.setAll (cs:=[.nilFunc]) aQ [.func (.func 22) #[] #[.pointer (some ⟨w.heap.size+1+1,0,none⟩),.pointer (some ⟨w.heap.size,0,none⟩),.pointer (some ⟨w.heap.size+1+1+1,0,none⟩)]] rfl);have gF:=ζ (at_keep aF hk (by omega));have gA:=ζ (at_keep aA hk (by omega));have gM:=ζ (aM.keep hk (by omega));have gB:=ζ (hB.trans (hk.below hB.size (fun k q=>by omega)))
 clear hk aF aA aM;replace hB:=ζ hB;have hmf:∀(fn:Fn) (first cap:Array Value) (w:World),(Instr.makeFunc fn first cap).run Tryz.prog w=.ok (.func fn first cap) w:=fun _ _ _ _=>rfl
 go_wp2_with fail;have⟨_,q3,_⟩:=hfin.out;go_ret;exact⟨⟨w.heap.size+1+1,w.heap.size,w.heap.size+1+1+1,w.heap.size+1,.func (.func 13) #[] #[.pointer (some ⟨km,0,none⟩)],22⟩,rfl,rfl,rfl,⟨gA.out,gF.out,hfin.out,gM.out⟩,gB.out,by show w.heap.size≤w.heap.size+1;omega⟩
def cs4:Option Cst→List Value
 |some v=>[.bool true,.int .u64 v.s,.int .u64 v.c,.int .u64 v.i]
 |none=>[.bool false,.int .u64 0,.int .u64 0,.int .u64 0]
theorem cs4_len (x:Option Cst):(cs4 x).length=4:=by cases x<;>rfl
structure Cr (w:World)(kr n:Nat)(F:Nat→Option Cst):Prop where
 lt:kr<w.heap.size
 fr:∀o,w.frozen? ⟨kr,o,none⟩=false
 c:∀g,g<n→∀i,i<4→w.cell? ⟨kr,g*4+i,none⟩=(cs4 (F g))[i]?
theorem Cr.keep {S:Nat→Prop}{w w':World}{kr n:Nat}{F:Nat→Option Cst}(h:Cr w kr n F)(hk:Kp S w w')(hn:¬S kr):Cr w' kr n F:=by
 have hb:=hk.block kr h.lt hn;refine⟨Nat.lt_of_lt_of_le h.lt hk.size,fun o=>?_,fun g hg i hi=>?_⟩
 ·rw[←h.fr o];simp only[World.frozen?,hb]
 ·rw[←h.c g hg i hi];simp only[World.cell?,hb]
theorem Cr.new (w:World)(n:Nat)(t:TypeId):Cr (w.alloc (.cells (madeCells (Value.cells (.agg #[.bool false,.int .u64 0,.int .u64 0,.int .u64 0])) (n*4)) t)) w.heap.size n (fun _=>none):=by
 have a:=At.new w (madeCells (Value.cells (.agg #[.bool false,.int .u64 0,.int .u64 0,.int .u64 0])) (n*4)) t;refine⟨a.1,a.2.2,fun g hg i hi=>?_⟩;rw[a.2.1];have h:g*4+i<n*4:=by omega
 have hz:(Value.cells (.agg #[.bool false,.int .u64 0,.int .u64 0,.int .u64 0]))=#[.bool false,.int .u64 0,.int .u64 0,.int .u64 0]:=by kernel_rfl
 rw[hz];simp only[madeCells,Array.getElem?_map,Array.getElem?_range,h,if_true,Option.map_some];have e:(g*4+i)%4=i:=by omega
 show some (#[Value.bool false,.int .u64 0,.int .u64 0,.int .u64 0][(g*4+i)%4]!)=_;rw[e];obtain rfl|rfl|rfl|rfl:i=0∨i=1∨i=2∨i=3:=by omega
 all_goals rfl
theorem Cr.put {w:World}{kr n:Nat}{F:Nat→Option Cst}(h:Cr w kr n F){g:Nat}(hg:g<n)(x:Option Cst):Cr (w.setCells kr (g*4) (cs4 x)) kr n (fun q=>if q=g then x else F q):=by
 refine⟨?_,fun o=>?_,fun q hq i hi=>?_⟩
 ·exact Nat.lt_of_lt_of_le h.lt (kp_sets w kr (cs4 x) (g*4)).size
 ·rw[World.frozen?_setCells];exact h.fr o
 ·by_cases e:q=g
  ·subst e;rw[if_pos rfl,World.cell?_setCells_in kr (cs4 x) _ w (fun j hj=>by
    rw[cs4_len]at hj;rw[h.c q hq j hj,List.getElem?_eq_getElem (by rw[cs4_len];exact hj)];rfl) i (by rw[cs4_len];exact hi),List.getElem?_eq_getElem (by rw[cs4_len];exact hi)]
  ·rw[if_neg e,World.cell?_setCells_out kr _ _ w ⟨kr,q*4+i,none⟩ (fun _ _=>by rw[cs4_len];show q*4+i<g*4∨g*4+4≤q*4+i;omega)];exact h.c q hq i hi
theorem make_costs (n:Nat)(hn:n≤2000000)(w:World):(Instr.makeSlice 94 (.int .i64 n) (.int .i64 n)).run Tryz.prog w=.ok (.slice (some ⟨w.heap.size,0,none⟩) n n) (w.alloc (.cells (madeCells (Value.cells (.agg #[.bool false,.int .u64 0,.int .u64 0,.int .u64 0])) (n*4)) 42)):=by
 obtain⟨i0,hi0,hz0,hz1,hz2⟩:=F.info_parts' (t:=42) (z:=.agg #[.bool false,.int .u64 0,.int .u64 0,.int .u64 0]) (s:=4) (b:=32) (by kernel_rfl);have h:=run_make (P:=Tryz.prog) w 94 42 i0 (.agg #[.bool false,.int .u64 0,.int .u64 0,.int .u64 0]) Tryz.underlying94 hi0 hz0 .i64 .i64 n n (by omega) (by omega) (by rw[hz2];omega) (by omega);rw[hz1,Int.toNat_natCast]at h;exact h
def sF (F:Nat→Option Cst)(g:Nat):Int:=match F g with|some v=>v.s|none=>0
def iF (F:Nat→Option Cst)(g:Nat):Int:=match F g with|some v=>v.i|none=>0
theorem Cr.costIn {w:World}{kr n B:Nat}{F:Nat→Option Cst}(h:Cr w kr n F)(hB:kr<B):CostIn B w (some ⟨kr,0,none⟩) n (sF F) (iF F):=by
 refine .inr ⟨kr,rfl,hB,h.lt,fun g hg=>?_⟩;have c0:=h.c g hg 0 (by omega);have c1:=h.c g hg 1 (by omega);have c2:=h.c g hg 2 (by omega);have c3:=h.c g hg 3 (by omega);unfold sF iF
 cases hF:F g with
 |some v=>
  rw[hF]at c0 c1 c2 c3;exact⟨true,v.c,c0,c1,c2,c3⟩
 |none=>
  rw[hF]at c0 c1 c2 c3;exact⟨false,0,c0,c1,c2,c3⟩
def mcL (l:List Cst):Int:=l.foldl (fun a d=>max a (IntKind.u64.wrap (d.c+1))) 0
theorem mcL_snoc (l:List Cst)(x:Cst):mcL (l++[x])=max (mcL l) (IntKind.u64.wrap (x.c+1)):=by unfold mcL;rw[List.foldl_append];rfl
def rowF (N:List Nat)(vs:List Cst):Nat→Option Cst:=(N.zip vs).foldl (fun F gv=>fun q=>if q=gv.1 then some gv.2 else F q) (fun _=>none)
theorem zip_snoc (x:Cst):∀(N:List Nat) (vs:List Cst) (h:vs.length<N.length),N.zip (vs++[x])=N.zip vs++[(N[vs.length],x)]
 |[],vs,h=>by simp at h
 |a::N,[],h=>by simp
 |a::N,v::vs,h=>by
  have h2:vs.length<N.length:=by simpa using h
  have:=zip_snoc x N vs h2;simp only[List.cons_append,List.zip_cons_cons,List.length_cons,List.getElem_cons_succ];rw[this]
theorem rowF_snoc (N:List Nat)(vs:List Cst)(x:Cst)(h:vs.length<N.length):rowF N (vs++[x])=fun q=>if q=N[vs.length]then some x else rowF N vs q:=by
 unfold rowF;rw[zip_snoc x N vs h,List.foldl_append]
 rfl
noncomputable def ctF (m:PImg) (n:Nat) (vs:List Cst):Option Cst:=
 match sumS (gcode m n) (stF (gcode m n) (sF (rowF (nxG m n) vs))) (gent m n).toNat with
 |none=>none
 |some s=>if 1099511627776<s then none else some ⟨s,mcL vs,(sumS (gcode m n) (inF (gcode m n) (iF (rowF (nxG m n) vs))) (gent m n).toNat).getD 0⟩
end Bd
end Go.Proofs.YtkhbiaaangnkdaaGreatDoor
