import Derived.Test.YtdidjhillmgccaaGreatP41
import Derived.Test.YtdidjhillmgccaaGreatP38
import Derived.Test.YtdidjhillmgccaaGreatP40
namespace Go.Proofs.YtdidjhillmgccaaGreat
set_option maxRecDepth 100000
set_option maxHeartbeats 40000000
namespace Z
open Go.RowKit
open T (Sep Ob Kp Mf FlIn boxOb)
open B (mks mks_len mks_at mks_one Mine own_of_cells own_mine wp_append_m row_cell own_marks)
theorem tc_ne3 (M:Int)(W:World):(binOp .neq 67 (.agg #[.bool false,.int .u64 M,.int .u64 0]) (.agg #[.bool false,.int .u64 M,.int .u64 0])).run Tryz.prog W=.ok (.bool false) W:=by simp[go_sem]
theorem w_id (x:Int)(h0:0≤x)(h1:x≤9000000):wrap64 x=x∧IntKind.i64.wrap x=x∧IntKind.u64.wrap x=x:=⟨by unfold wrap64;omega,by rw[IntKind.wrap_i64];omega,by rw[IntKind.wrap_u64];omega⟩
theorem still_q (i d D:Nat)(M:Int)(hd:i/5=d)(hD:i/5*5=D)(hi:i≤1000000)(hM:1000000+(D:Int)=M):Int.tdiv (i:Int) 5=(d:Int)∧wrap64 (d:Int)=(d:Int)∧wrap64 ((d:Int)*5)=(D:Int)∧wrap64 (1000000+(D:Int))=M∧IntKind.i64.wrap (d:Int)=(d:Int)∧IntKind.i64.wrap ((d:Int)*5)=(D:Int)∧IntKind.i64.wrap (1000000+(D:Int))=M∧IntKind.u64.wrap M=M:=by
 have e1:(d:Int)*5=(D:Int):=by omega
 have h1:(d:Int)≤1000000:=by omega
 have h2:(D:Int)≤1000000:=by omega
 have h3:0≤M∧M≤9000000:=by omega
 obtain⟨a1,a2,_⟩:=w_id d (by omega) (by omega);obtain⟨b1,b2,_⟩:=w_id D (by omega) (by omega);obtain⟨c1,c2,c3⟩:=w_id M h3.1 h3.2;exact⟨by rw[Int.tdiv_eq_ediv_of_nonneg (by omega)];omega,a1,by rw[e1];exact b1,by rw[hM];exact c1,a2,by rw[e1];exact b2,by rw[hM];exact c2,c3⟩
theorem bstill_any (B kb:Nat)(wv tv:Value)(rw rt:List Value)(l:List Ob)(W:World)(h:Sep B W (bkO B kb wv tv rw rt++l))(hw:rw.length≤1000000)(ht:rt.length≤1000000):
 Calls Tryz.prog 10 #[.pointer (some ⟨kb,0,none⟩)] W fun x w'=>x=.returned (.bool true)∧w'=W:=by
 obtain⟨nw,hnw⟩:∃k,rw.length=k:=⟨_,rfl⟩;obtain⟨nt,hnt⟩:∃k,rt.length=k:=⟨_,rfl⟩;have hrw:=h.ins (rowOb B 26 1 wv rw.length rw) (by simp[bkO]);have hrt:=h.ins (rowOb B 64 1 tv rt.length rt) (by simp[bkO]);obtain⟨wa,wc,rfl⟩:=own_slZ hrw;obtain⟨ua,uc,rfl⟩:=own_slZ hrt;have hA:=h.ins (boxOb kb #[.slice wa rw.length wc,.slice ua rt.length uc]) (by simp[bkO]);have hlw:=ζ (h.ins (lsOb B 51 1 mW rw) (by simp[bkO]));have hlt:=ζ (h.ins (lsOb B 67 3 mT rt) (by simp[bkO]));have c0:W.cell? ⟨kb,0,none⟩=some (.slice wa nw wc):=by rw[←hnw];exact hA.2.1 0
 have c1:W.cell? ⟨kb,1,none⟩=some (.slice ua nt uc):=by rw[←hnt];exact hA.2.1 1
 have hkl:kb<W.heap.size:=hA.1;replace hrw:Hz (W.ownsRow B 26 1 (.slice wa rw.length wc) rw.length rw):=ζ hrw;replace hrt:Hz (W.ownsRow B 64 1 (.slice ua rt.length uc) rt.length rt):=ζ hrt;clear h hA;go_enter Tryz.func10,Tryz.ntmps10;go_upto_region 2 with fail
 go_loopw [3] (fun x wq=>∃i:Nat,x=.int .i64 i∧i≤nw∧wq=W) (fun x _=>nw - (intOf x).toNat)
 case atStart=>exact⟨0,rfl,Nat.zero_le _,rfl⟩
 case round=>
  obtain⟨i,rfl,hi,rfl⟩:=hrel;by_cases hin:i<nw
  ·have hi1:(i:Int)<(nw:Int):=by omega
   obtain⟨pn,hpn,hpo⟩:=hlw.out i (by omega);obtain⟨v,hv⟩:∃v,rw[i]'(by omega)=v:=⟨_,rfl⟩;rw[hv]at hpo;obtain⟨ta,tk,rfl⟩:=own_slZ hpo;obtain⟨gR,ewa,hgR,hrow⟩:=row_cellB hrw.out (i:=i) (v:=.slice ta pn tk) (by rw[←hv];exact List.getElem?_eq_getElem _);rw[ewa]at c0;obtain⟨D,hD⟩:∃D,i/5*5=D:=⟨_,rfl⟩;obtain⟨d,hd⟩:∃d,i/5=d:=⟨_,rfl⟩;obtain⟨M,hM⟩:∃M:Int,1000000+(D:Int)=M:=⟨_,rfl⟩;obtain⟨q1,q2,q3,q4,q5,q6,q7,q8⟩:=still_q i d D M hd hD (by omega) hM;have hmk:mW (i/5*5)=[Value.int .u64 M]:=by unfold mW;rw[hD,hM]
   rw[hmk]at hpo;replace hpo:Hz (wr.ownsRow B 51 1 (.slice ta pn tk) pn (mks [Value.int .u64 M] pn)):=ζ hpo;replace hD:=ζ hD;replace hd:=ζ hd;replace hM:=ζ hM;clear hv hmk;go_upto_region 5 with fail
   go_loopw [4] (fun x wq=>∃q:Nat,x=.int .i64 q∧q≤pn∧wq=wr) (fun x _=>pn - (intOf x).toNat)
   case atStart=>exact⟨0,rfl,Nat.zero_le _,rfl⟩
   case round=>
    obtain⟨q,rfl,hq,rfl⟩:=hrel;by_cases hqn:q<pn
    ·have hq1:(q:Int)<(pn:Int):=by omega
     obtain⟨g,rfl⟩:=own_form ⟨_,hpo.out⟩ (by omega);have hcm:=own_marks (mv:=[Value.int .u64 M]) hpo.out q hqn 0 (Nat.succ_pos _);rw[show q*List.length [Value.int .u64 M]+0=q by simp]at hcm;replace hcm:wr.cell? ⟨g,q,none⟩=some (.int .u64 M):=hcm;have hgl:g<wr.heap.size:=World.block_lt_of_cell? wr _ hcm;have hne:(M != M)=false:=by simp
     go_wp2_with fail;refine⟨⟨q+1,?_,hqn,?_⟩,?_⟩
     ·first|rfl|rw[nextC hqn (by omega)]|go_num
     ·first|trivial|rfl
     ·first|exact next_mZ hqn|exact nextCn hqn (by omega)
    ·have hq1:¬(q:Int)<(pn:Int):=by omega
     go_wp2_with fail;refine⟨⟨i+1,?_,hin,?_⟩,?_⟩
     ·first|rfl|rw[nextC hin (by omega)]|go_num
     ·first|trivial|rfl
     ·first|exact next_mZ hin|exact nextCn hin (by omega)
  ·have hi1:¬(i:Int)<(nw:Int):=by omega
   go_upto_region 10 with fail;go_loopw [5] (fun x wq=>∃i:Nat,x=.int .i64 i∧i≤nt∧wq=wr) (fun x _=>nt - (intOf x).toNat)
   case atStart=>exact⟨0,rfl,Nat.zero_le _,by first|rfl|trivial|assumption⟩
   case round=>
    obtain⟨i,rfl,hi,rfl⟩:=hrel;by_cases hin:i<nt
    ·have hi1:(i:Int)<(nt:Int):=by omega
     obtain⟨pn,hpn,hpo⟩:=hlt.out i (by omega);obtain⟨v,hv⟩:∃v,rt[i]'(by omega)=v:=⟨_,rfl⟩;rw[hv]at hpo;obtain⟨ta,tk,rfl⟩:=own_slZ hpo;obtain⟨gR,ewa,hgR,hrow⟩:=row_cellB hrt.out (i:=i) (v:=.slice ta pn tk) (by rw[←hv];exact List.getElem?_eq_getElem _);rw[ewa]at c1;obtain⟨D,hD⟩:∃D,i/5*5=D:=⟨_,rfl⟩;obtain⟨d,hd⟩:∃d,i/5=d:=⟨_,rfl⟩;obtain⟨M,hM⟩:∃M:Int,1000000+(D:Int)=M:=⟨_,rfl⟩;obtain⟨q1,q2,q3,q4,q5,q6,q7,q8⟩:=still_q i d D M hd hD (by omega) hM;have hmk:mT (i/5*5)=[Value.bool false,.int .u64 M,.int .u64 0]:=by unfold mT;rw[hD,hM]
     rw[hmk]at hpo;replace hpo:Hz (wr.ownsRow B 67 3 (.slice ta pn tk) pn (mks [Value.bool false,.int .u64 M,.int .u64 0] pn)):=ζ hpo;replace hD:=ζ hD;replace hd:=ζ hd;replace hM:=ζ hM;clear hv hmk;go_upto_region 13 with fail
     go_loopw [6] (fun x wq=>∃q:Nat,x=.int .i64 q∧q≤pn∧wq=wr) (fun x _=>pn - (intOf x).toNat)
     case atStart=>exact⟨0,rfl,Nat.zero_le _,rfl⟩
     case round=>
      obtain⟨q,rfl,hq,rfl⟩:=hrel;by_cases hqn:q<pn
      ·have hq1:(q:Int)<(pn:Int):=by omega
       obtain⟨g,rfl⟩:=own_form ⟨_,hpo.out⟩ (by omega);have hcm:=own_marks (mv:=[Value.bool false,.int .u64 M,.int .u64 0]) hpo.out q hqn;have hcr:wr.rangeAt g (q*3) [Value.bool false,.int .u64 M,.int .u64 0]:=fun j u e=>(hcm j (List.getElem?_eq_some_iff.1 e).1).trans e
       have z0:wr.cell? ⟨g,q*3,none⟩=some (.bool false):=hcr 0 _ rfl;have z1:wr.cell? ⟨g,q*3+1,none⟩=some (.int .u64 M):=hcr 1 _ rfl;have z2:wr.cell? ⟨g,q*3+2,none⟩=some (.int .u64 0):=hcr 2 _ rfl;have hgl:g<wr.heap.size:=World.block_lt_of_cell? wr _ z0;have hne:=tc_ne3 M;clear hcm hcr;go_wp2_with fail;refine⟨⟨q+1,?_,hqn,?_⟩,?_⟩
       ·first|rfl|rw[nextC hqn (by omega)]|go_num
       ·first|trivial|rfl
       ·first|exact next_mZ hqn|exact nextCn hqn (by omega)
      ·have hq1:¬(q:Int)<(pn:Int):=by omega
       go_wp2_with fail;refine⟨⟨i+1,?_,hin,?_⟩,?_⟩
       ·first|rfl|rw[nextC hin (by omega)]|go_num
       ·first|trivial|rfl
       ·first|exact next_mZ hin|exact nextCn hin (by omega)
    ·have hi1:¬(i:Int)<(nt:Int):=by omega
     go_wp2_with fail;go_ret;exact⟨rfl,rfl⟩
section
variable {B:Nat} {W W':World} {a b:Nat} {c:Dc} {P:Pr} {s t:Fm} {l l':List Ob}
theorem MD.sep (h:MD B W P a s b c t l):∃M,Sep B W (l++M)∧B≤W.heap.size∧∀W' l',Sep B W' (l'++M)→Below B W W'→MD B W' P a s b c t l':=by
 obtain⟨q2,⟨⟨q,h1⟩,le⟩,ia,ic,e,hi⟩:=h.asX;refine⟨obs B a P s q++(dobs B b c P t q2 t.g t.p++[giOb B q2.iv t.inp]),sep_perm h1 ?_,le,fun W' l' h2 hb=>MD.ofX (q2:=q2) ⟨⟨q,sep_perm h2 ?_⟩,Nat.le_trans le hb.size⟩ e (hi.below hb)⟩
 ·have:(obs B a P s q++(dobs B b c P t q2 t.g t.p++[giOb B q2.iv t.inp])++l).Perm (l++(obs B a P s q++(dobs B b c P t q2 t.g t.p++[giOb B q2.iv t.inp]))):=List.perm_append_comm;simpa using this
 ·have:(l'++(obs B a P s q++(dobs B b c P t q2 t.g t.p++[giOb B q2.iv t.inp]))).Perm (obs B a P s q++(dobs B b c P t q2 t.g t.p++[giOb B q2.iv t.inp])++l'):=List.perm_append_comm;simpa using this
theorem MD.add (h:MD B W P a s b c t l)(o:Ob)(hi:o.In W')(hn:∀k,o.S k→W.heap.size≤k)(hb:Below W.heap.size W W'):MD B W' P a s b c t (o::l):=by
 obtain⟨M,h1,le,h2⟩:=h.sep;exact h2 W' (o::l) (h1.add o hi hn hb le) (hb.mono le)
theorem MD.permO (h:MD B W P a s b c t l)(p:l.Perm l'):MD B W P a s b c t l':=by
 obtain⟨M,h1,le,h2⟩:=h.sep;exact h2 W l' (sep_perm h1 (List.Perm.append_right _ p)) (Below.refl _ _)
theorem MD.over2 {o:Ob}(h:MD B W P a s b c t (o::l))(hk:Kp o.S W W'):MD B W' P a s b c t l∧Below B W W':=by
 obtain⟨M,h1,le,h2⟩:=h.sep;have bb:=sep_below (l1:=[]) (o:=o) (l2:=l++M) h1 hk le;have hd:=List.pairwise_cons.1 h1.dis;exact⟨h2 W' l ⟨fun p hp=>p.keep W W' o.S (h1.ins p (by simp only[List.cons_append,List.mem_cons];exact .inr hp)) hk (fun k r t=>hd.1 p hp k t r),hd.2,fun p hp=>h1.ge p (by simp only[List.cons_append,List.mem_cons];exact .inr hp)⟩ bb,bb⟩
end
theorem snap_at {V X:World}{B k:Nat}{cs:Array Value}(h:(snapOb B V).In X)(hA:At V k cs)(hB:B≤k):At X k cs:=by
 have hb:=h.2 k hB hA.1;exact⟨Nat.lt_of_lt_of_le hA.1 h.1,fun j=>(T.cell_of_block hb j).trans (hA.2.1 j),fun j=>(T.frozen_of_block hb j).trans (hA.2.2 j)⟩
theorem giveM_gp (s:Fm)(A:List Int):(giveM s A).g=s.g∧(giveM s A).p=s.p:=by
 unfold giveM
 split<;>exact⟨rfl,rfl⟩
theorem giveM_vf {s:Fm}(h:s.Vf)(A:List Int):(giveM s A).Vf:=by
 unfold giveM
 split
 ·exact fun _=>⟨rfl,rfl⟩
 ·exact h
open B (mks)
def gvN (nn:Int)(i:Nat):Int:=IntKind.u64.wrap (IntKind.i64.wrap (nn+(i:Int)))
def gvL (nn:Int)(m:Nat):List Int:=(List.range m).map (gvN nn)
theorem gvL_len (nn:Int)(m:Nat):(gvL nn m).length=m:=by simp[gvL]
theorem gvL_succ (nn:Int)(m:Nat):gvL nn (m+1)=gvL nn m++[gvN nn m]:=by simp[gvL,List.range_succ]
theorem gvL_wd (nn:Int)(m:Nat):∀x∈gvL nn m,Wd x:=fun x hx=>by
 obtain⟨i,_,rfl⟩:=List.mem_map.1 hx;unfold gvN;have h:∀y:Int,Wd (IntKind.u64.wrap y):=fun y=>by
  rw[IntKind.wrap_u64];exact⟨by omega,by omega⟩
 exact h _
theorem gv_m (nn:Int)(h:0≤nn):∃m:Nat,m≤12∧Int.tmod nn 13=(m:Int)∧wrap64 (m:Int)=(m:Int)∧IntKind.i64.wrap (m:Int)=(m:Int):=by
 refine⟨(nn%13).toNat,by omega,?_,?_⟩
 ·rw[Int.tmod_eq_emod_of_nonneg h];omega
 ·have:(((nn%13).toNat:Nat):Int)≤12∧(0:Int)≤(((nn%13).toNat:Nat):Int):=by omega
  exact⟨by unfold wrap64;omega,by rw[IntKind.wrap_i64];omega⟩
theorem own_gv {W:World}{lo m:Nat}{v:Value}{A:List Int}(h:W.ownsRow lo 51 1 v m (A.map u64I))(hm:A.length=m):∃va vc,v=.slice va A.length vc∧GvSrc W va vc A∧WIn W va A∧∀bb oo,va=some ⟨bb,oo,none⟩→lo≤bb∧bb<W.heap.size:=by
 subst hm;have hlt:=h.lt;obtain⟨va,vc,rfl,hw⟩:=own_win h rfl;refine⟨va,vc,rfl,?_,hw,fun bb oo e=>?_⟩
 ·rcases h.2 with⟨e1,e2⟩|⟨g,cap,cur,e1,_⟩
  ·injection e1 with e1 _ e3
   exact .inl ⟨e1,e3,List.eq_nil_of_length_eq_zero (by rw[e2])⟩
  ·injection e1 with e1 _ _
   subst e1;refine .inr ⟨g,0,rfl,fun k hk=>?_⟩;obtain⟨b2,o2,e2,h2,h3⟩:=hw k hk;injection e2 with e2
   injection e2 with e2 e4 _
   subst e2;subst e4;exact⟨h2,h3⟩
 ·subst e;have hb:(Value.slice (some ⟨bb,oo,none⟩) A.length vc).ownBlock=some bb:=by
   rcases h.2 with⟨e1,_⟩|⟨g,cap,cur,e1,_⟩
   ·cases e1
   ·injection e1 with e1 _ _
    injection e1 with e1
    injection e1 with e1 e2 _
    subst e1;subst e2
    rfl
  exact hlt bb hb
theorem frow_wat {W:World}{k:Nat}{A:List Int}(h:FRow W k (A.length+8) (wdA A)):WAtG W k 0 A:=fun j hj=>by
 refine⟨h.lt,?_⟩;rw[Nat.zero_add,h.at_ j (by omega)];unfold wdA;simp[hj]
theorem gv_snap {V X:World}{lo:Nat}{va:Option Addr}{vc:Nat}{A:List Int}(h:(snapOb lo V).In X)(g:GvSrc V va vc A)(hb:∀bb oo,va=some ⟨bb,oo,none⟩→lo≤bb):GvSrc X va vc A:=by
 rcases g with g|⟨b2,o2,e,g⟩
 ·exact .inl g
 ·exact .inr ⟨b2,o2,e,fun k hk=>⟨Nat.lt_of_lt_of_le (g k hk).1 h.1,(T.cell_of_block (h.2 b2 (hb b2 o2 e) (g k hk).1) _).trans (g k hk).2⟩⟩
theorem win_snap {V X:World}{lo:Nat}{va:Option Addr}{A:List Int}(h:(snapOb lo V).In X)(g:WIn V va A)(hb:∀bb oo,va=some ⟨bb,oo,none⟩→lo≤bb):WIn X va A:=fun i hi=>by
 obtain⟨b2,o2,e,h1,h2⟩:=g i hi;exact⟨b2,o2,e,Nat.lt_of_lt_of_le h1 h.1,(T.cell_of_block (h.2 b2 (hb b2 o2 e) h1) _).trans h2⟩
theorem frow_snap {V X:World}{lo k n:Nat}{f:Nat→Value}(h:(snapOb lo V).In X)(g:FRow V k n f)(hb:lo≤k):FRow X k n f:=g.block h.1 (h.2 k hb g.lt)
theorem gv_app {lo:Nat}{w w0:World}(v:Value)(i:Nat)(A:List Int)(x:Int){A':List Int}(hown:w.ownsRow lo 51 1 v i (A.map u64I))(X:Nat)(hX:At w X [Value.int .u64 x].toArray)(hi:i≤2000000)(hB:lo≤w.heap.size)(hb:Below lo w0 w)(ty:TypeId)(hA:A'=A++[x]):
 ∃v' w',(Builtin.append_ #[26,26] ty #[v,.slice (some ⟨X,0,none⟩) 1 1]).run Tryz.prog w=.ok v' w'∧w'.ownsRow lo 51 1 v' (i+1) (A'.map u64I)∧Below lo w0 w'∧Kp (fun k=>v.ownBlock=some k) w w'∧(v'.ownBlock=v.ownBlock∨v'.ownBlock=some w.heap.size):=by
 obtain⟨i0,hi0,hz0,hz1,hz2⟩:=T.info_parts' (show(Tryz.prog.info? 51).map (fun i=>(i.zero,i.size,i.bytes))=some (some (.int .u64 0),1,8)by kernel_rfl);obtain⟨v',w',k1,k2,k3,_,k5⟩:=run_append_own_at (P:=Tryz.prog) w lo 26 ty 51 i0 (.int .u64 0) 1 8 Tryz.underlying26 hi0 hz0 hz1 hz2 rfl (by decide) v i (A.map u64I) hown ⟨X,0,none⟩ 1 1 [Value.int .u64 x] rfl (fun j u q=>by rw[addr_addZ,Nat.zero_add,hX.2.1];simpa using q) (by simp[Value.oneCell']) (by unfold maxLen;omega) (by omega) hB;refine⟨v',w',k1,?_,hb.trans ((kp_grown k3).below hB (fun k r=>(hown.lt k r).1)),kp_grown k3,k5⟩;rw[hA,List.map_append];exact k2
theorem given_any (B:Nat)(W:World)(P:Pr)(a:Nat)(s:Fm)(b:Nat)(c:Dc)(L:List Ob)(k0 k1 N:Int)(hN1: -9223372036854775808≤N)(hN2:N≤9223372036854775807)(h:MD B W P a s b c s L)(hil:s.inp.length≤2400000):
 Calls Tryz.prog 40 #[.agg #[.pointer (some ⟨a,0,none⟩),.pointer (some ⟨b,0,none⟩)],.agg #[.int .i64 k0,.int .i64 k1,.int .i64 N]] W fun x w'=>x=.returned (.bool true)∧∃A:List Int,A.length≤12∧(∀x∈A,Wd x)∧MD B w' P a (giveM s A) b c (giveM s A) L∧Below B W w':=by
 have hleW:=ζ h.le;replace h:=ζ h;go_enter Tryz.func40,Tryz.ntmps40;go_upto_region 1 with fail
 refine wp_world (fun X=>∃kp kt,kp=W.heap.size∧kt=W.heap.size+1∧At X kp #[.pointer (some ⟨a,0,none⟩),.pointer (some ⟨b,0,none⟩)]∧At X kt #[.int .i64 k0,.int .i64 k1,.int .i64 N]∧Below W.heap.size W X) ⟨_,_,rfl,rfl,(At.new W _ _).alloc _,At.at_ _ _ _ (by simp),(((Gr.refl W).alloc _).alloc _).below⟩ ?_;rintro V ⟨kp,kt,ekp,ekt,hp,ht,hG⟩;rw[←ekt,←ekp];have hkp:Hz (W.heap.size≤kp):=ζ (by omega);clear ekp ekt;have t2:V.cell? ⟨kt,2,none⟩=some (.int .i64 N):=ht.2.1 2;replace hp:=ζ hp;replace hG:=ζ hG;clear ht;by_cases hN:N<0
 ·obtain⟨nn,hnn⟩:∃z, -(N+1)=z:=⟨_,rfl⟩;have hn0:0≤nn:=by omega
  obtain⟨m,hm,hm1,hm2,hm3⟩:=gv_m nn hn0;have ho:Hz (V.ownsRow W.heap.size 51 1 (.slice none 0 0) 0 ((gvL nn 0).map u64I)):=ζ (World.ownsRow_nil _ _ _ _);go_upto_region 6 with fail;try rw[hnn]
  clear t2;go_loopw [6,7] (fun v x wr=>∃i:Nat,x=.int .i64 i∧i≤m∧Hz (wr.ownsRow W.heap.size 51 1 v i ((gvL nn i).map u64I))∧Hz (Below W.heap.size W wr)∧Hz (At wr kp #[.pointer (some ⟨a,0,none⟩),.pointer (some ⟨b,0,none⟩)])∧Hz (v.ownBlock≠some kp)) (fun _ x _=>m - (intOf x).toNat)
  case atStart=>exact⟨0,rfl,Nat.zero_le _,ho,hG,hp,ζ (by simp[Value.ownBlock])⟩
  case round=>
   clear ho hG hp
   rename_i v _
   obtain⟨i,rfl,hi,ho,hG,hp,hnk⟩:=hrel;by_cases him:i<m
   ·have hi1:(i:Int)<(m:Int):=by omega
    obtain⟨va,vc,rfl⟩:=own_slZ ho.out;go_upto_region 8 with fail;refine wp_region_lit ?_;iterate 5 (refine xp fun K hK=>?_;go_simp;with_reducible refine hK _ _ ?_;clear hK K;(try simp only[xap]))
    refine xp fun K hK=>?_
    refine wp_bsW1 _ rfl (gvN nn i) (by first|rfl|(unfold gvN;rfl)) ?_;refine hK _ _ ?_;clear hK K;try simp only[xap]
    refine xp fun K hK=>?_
    have hXa:At (wr.alloc (.cells (mks [Value.int .u64 (gvN nn i)] 1).toArray 51)) wr.heap.size [Value.int .u64 (gvN nn i)].toArray:=At.new wr _ _;have hba:Below wr.heap.size wr (wr.alloc (.cells (mks [Value.int .u64 (gvN nn i)] 1).toArray 51)):=(Below.refl _ wr).alloc (Nat.le_refl _) _;have hoa:(wr.alloc (.cells (mks [Value.int .u64 (gvN nn i)] 1).toArray 51)).ownsRow W.heap.size 51 1 (.slice va i vc) i ((gvL nn i).map u64I):=own_keep ho.out (Kp.of_below (S:=fun _=>False) hba) (fun _ _ r=>r);refine wp_cp _ _ 26 rfl (.slice va i vc) rfl (.slice (some ⟨wr.heap.size,0,none⟩) 1 1) rfl (fun v' w'=>w'.ownsRow W.heap.size 51 1 v' (i+1) ((gvL nn (i+1)).map u64I)∧Below W.heap.size W w'∧Kp (fun k=>(Value.slice va i vc).ownBlock=some k) (wr.alloc (.cells (mks [Value.int .u64 (gvN nn i)] 1).toArray 51)) w'∧(v'.ownBlock=(Value.slice va i vc).ownBlock∨v'.ownBlock=some (wr.alloc (.cells (mks [Value.int .u64 (gvN nn i)] 1).toArray 51)).heap.size)) (fun ty=>gv_app (lo:=W.heap.size) (.slice va i vc) i (gvL nn i) (gvN nn i) hoa wr.heap.size hXa (by omega) (Nat.le_trans hG.out.size hba.size) (hG.out.trans (hba.mono hG.out.size)) ty (gvL_succ nn i)) (fun v2 W2 hR=>?_)
    obtain⟨k1,k2,k3,k4⟩:=hR;replace k1:=ζ k1;have hpa:=at_below hp.out (hba) hp.out.1;replace hG:=ζ k2;replace hp:=ζ (at_keep hpa k3 (fun r=>hnk.out r));have hnk2:Hz (v2.ownBlock≠some kp):=ζ (fun e=>by rcases k4 with k4|k4;exact hnk.out (k4.symm.trans e);(rw[k4]at e;injection e with e;have h9:=hpa.1;omega));clear hXa hba hoa k2 k3 k4 hpa ho;refine hK _ _ ?_;clear hK K;try simp only[xap]
    refine xp fun K hK=>?_
    go_simp;with_reducible refine hK _ _ ?_
    clear hK K;try simp only[xap]
    go_wp2_with fail;refine⟨⟨i+1,?_,him,k1,hG,hp,hnk2⟩,?_⟩
    ·first|rfl|rw[nextB him (by omega)]|go_num
    ·first|exact next_mZ him|exact nextBn him (by omega)
   ·have hi1:¬(i:Int)<(m:Int):=by omega
    obtain rfl:m=i:=by omega
    obtain⟨A,hA⟩:∃A,gvL nn m=A:=⟨_,rfl⟩;have hAw:Hz (∀x∈A,Wd x):=ζ (by rw[←hA];exact gvL_wd nn m);have hAm:A.length=m:=by rw[←hA];exact gvL_len nn m
    rw[hA]at ho;obtain⟨va,vc,rfl,hgs,hwi,hbo⟩:=own_gv ho.out hAm;replace hAm:=ζ hAm;have hw1:=ζ (words_any A va vc wr hwi (by have:=hAm.out;omega));replace hgs:=ζ hgs;replace hwi:=ζ hwi;replace hbo:=ζ hbo;clear hnk;go_wp2_with fail;refine hw1.out.mono ?_;rintro r V1 ⟨k,rfl,hk,hF,hb1⟩;have hGV:Hz (Below W.heap.size W V1):=ζ (hG.out.trans (hb1.mono hG.out.size));have hM:=ζ (h.out.add (snapOb W.heap.size V1) ⟨Nat.le_refl _,fun _ _ _=>rfl⟩ (fun k r=>r.1) hGV.out);replace hgs:=ζ (hgs.out.below hb1);replace hwi:=ζ (hwi.out.below hb1);replace hp:=ζ (at_below hp.out hb1 hp.out.1);have hka:Hz (wr.heap.size≤k∧W.heap.size≤k∧k<V1.heap.size):=ζ ⟨hk,Nat.le_trans hG.out.size hk,hF.lt⟩;replace hF:=ζ hF;clear hw1 hb1 hk h;have p0:V1.cell? ⟨kp,0,none⟩=some (.pointer (some ⟨a,0,none⟩)):=hp.out.2.1 0;have hxg:=ζ (hM.out.callX (fun l' hh=>give_some B V1 a P s l' A k 0 (A.length+8) hh (frow_wat hF.out) (by have:=hAm.out;omega)))
    go_wp2_with fail;refine hxg.out.mono ?_;rintro r V2 ⟨rfl,hM2,hb2⟩;clear p0 hxg hM;have hsn:=ζ (hM2.there (snapOb W.heap.size V1) (by simp));have hM:=ζ hM2;have p1:V2.cell? ⟨kp,1,none⟩=some (.pointer (some ⟨b,0,none⟩)):=(snap_at hsn.out hp.out hkp.out).2.1 1;have hgs2:=ζ (gv_snap hsn.out hgs.out (fun bb oo e=>(hbo.out bb oo e).1));have hyg:=ζ (hM.out.callY (t':=giveM s A) (fun l' hh=>by
     have q:=dgive_any B V2 b c P s l' A va vc hh hgs2.out (by omega) (by have:=hAm.out;omega);obtain⟨e1,e2⟩:=giveM_gp s A;rw[e1,e2];exact q))
    go_wp2_with fail;refine hyg.out.mono ?_;rintro r V3 ⟨rfl,hM3,hb3⟩;clear p1 hyg hM hM2 hgs2;replace hsn:=ζ (hM3.there (snapOb W.heap.size V1) (by simp));have hM:=ζ hM3;have hF3:=ζ (frow_snap hsn.out hF.out hka.out.2.1);have hW3:=ζ (win_snap hsn.out hwi.out (fun bb oo e=>(hbo.out bb oo e).1));have hsp:=ζ (spoilt3 A k va vc V3 hF3.out hW3.out (fun bb oo e _=>by
     have:=(hbo.out bb oo e).2;have:=hka.out.1;omega) (by have:=hAm.out;omega))
    go_wp2_with fail;refine hsp.out.mono ?_;rintro r V4 ⟨rfl,hk4,_⟩;obtain⟨hM4,b4⟩:=hM.out.over2 (Kp.mono hk4 (fun k9 (e:k9=k)=>.inl (by rw[e];exact hka.out.2)));have hGf:Hz (Below B W V4):=ζ ((hGV.out.mono hleW.out).trans (hb2.trans (hb3.trans b4)));clear hsp hk4;go_wp2_with fail;go_ret;exact⟨rfl,A,by have:=hAm.out;omega,hAw.out,hM4,hGf.out⟩
 ·obtain⟨nn,hnn⟩:∃z,N=z:=⟨_,rfl⟩;have hn0:0≤nn:=by omega
  obtain⟨m,hm,hm1,hm2,hm3⟩:=gv_m nn hn0;have ho:Hz (V.ownsRow W.heap.size 51 1 (.slice none 0 0) 0 ((gvL nn 0).map u64I)):=ζ (World.ownsRow_nil _ _ _ _);subst hnn;go_upto_region 6 with fail;clear t2;go_loopw [6,7] (fun v x wr=>∃i:Nat,x=.int .i64 i∧i≤m∧Hz (wr.ownsRow W.heap.size 51 1 v i ((gvL N i).map u64I))∧Hz (Below W.heap.size W wr)∧Hz (At wr kp #[.pointer (some ⟨a,0,none⟩),.pointer (some ⟨b,0,none⟩)])∧Hz (v.ownBlock≠some kp)) (fun _ x _=>m - (intOf x).toNat)
  case atStart=>exact⟨0,rfl,Nat.zero_le _,ho,hG,hp,ζ (by simp[Value.ownBlock])⟩
  case round=>
   clear ho hG hp
   rename_i v _
   obtain⟨i,rfl,hi,ho,hG,hp,hnk⟩:=hrel;by_cases him:i<m
   ·have hi1:(i:Int)<(m:Int):=by omega
    obtain⟨va,vc,rfl⟩:=own_slZ ho.out;go_upto_region 8 with fail;refine wp_region_lit ?_;iterate 5 (refine xp fun K hK=>?_;go_simp;with_reducible refine hK _ _ ?_;clear hK K;(try simp only[xap]))
    refine xp fun K hK=>?_
    refine wp_bsW1 _ rfl (gvN N i) (by first|rfl|(unfold gvN;rfl)) ?_;refine hK _ _ ?_;clear hK K;try simp only[xap]
    refine xp fun K hK=>?_
    have hXa:At (wr.alloc (.cells (mks [Value.int .u64 (gvN N i)] 1).toArray 51)) wr.heap.size [Value.int .u64 (gvN N i)].toArray:=At.new wr _ _;have hba:Below wr.heap.size wr (wr.alloc (.cells (mks [Value.int .u64 (gvN N i)] 1).toArray 51)):=(Below.refl _ wr).alloc (Nat.le_refl _) _;have hoa:(wr.alloc (.cells (mks [Value.int .u64 (gvN N i)] 1).toArray 51)).ownsRow W.heap.size 51 1 (.slice va i vc) i ((gvL N i).map u64I):=own_keep ho.out (Kp.of_below (S:=fun _=>False) hba) (fun _ _ r=>r);refine wp_cp _ _ 26 rfl (.slice va i vc) rfl (.slice (some ⟨wr.heap.size,0,none⟩) 1 1) rfl (fun v' w'=>w'.ownsRow W.heap.size 51 1 v' (i+1) ((gvL N (i+1)).map u64I)∧Below W.heap.size W w'∧Kp (fun k=>(Value.slice va i vc).ownBlock=some k) (wr.alloc (.cells (mks [Value.int .u64 (gvN N i)] 1).toArray 51)) w'∧(v'.ownBlock=(Value.slice va i vc).ownBlock∨v'.ownBlock=some (wr.alloc (.cells (mks [Value.int .u64 (gvN N i)] 1).toArray 51)).heap.size)) (fun ty=>gv_app (lo:=W.heap.size) (.slice va i vc) i (gvL N i) (gvN N i) hoa wr.heap.size hXa (by omega) (Nat.le_trans hG.out.size hba.size) (hG.out.trans (hba.mono hG.out.size)) ty (gvL_succ N i)) (fun v2 W2 hR=>?_)
    obtain⟨k1,k2,k3,k4⟩:=hR;replace k1:=ζ k1;have hpa:=at_below hp.out (hba) hp.out.1;replace hG:=ζ k2;replace hp:=ζ (at_keep hpa k3 (fun r=>hnk.out r));have hnk2:Hz (v2.ownBlock≠some kp):=ζ (fun e=>by rcases k4 with k4|k4;exact hnk.out (k4.symm.trans e);(rw[k4]at e;injection e with e;have h9:=hpa.1;omega));clear hXa hba hoa k2 k3 k4 hpa ho;refine hK _ _ ?_;clear hK K;try simp only[xap]
    refine xp fun K hK=>?_
    go_simp;with_reducible refine hK _ _ ?_
    clear hK K;try simp only[xap]
    go_wp2_with fail;refine⟨⟨i+1,?_,him,k1,hG,hp,hnk2⟩,?_⟩
    ·first|rfl|rw[nextB him (by omega)]|go_num
    ·first|exact next_mZ him|exact nextBn him (by omega)
   ·have hi1:¬(i:Int)<(m:Int):=by omega
    obtain rfl:m=i:=by omega
    obtain⟨A,hA⟩:∃A,gvL N m=A:=⟨_,rfl⟩;have hAw:Hz (∀x∈A,Wd x):=ζ (by rw[←hA];exact gvL_wd N m);have hAm:A.length=m:=by rw[←hA];exact gvL_len N m
    rw[hA]at ho;obtain⟨va,vc,rfl,hgs,hwi,hbo⟩:=own_gv ho.out hAm;replace hAm:=ζ hAm;have hw1:=ζ (words_any A va vc wr hwi (by have:=hAm.out;omega));replace hgs:=ζ hgs;replace hwi:=ζ hwi;replace hbo:=ζ hbo;clear hnk;go_wp2_with fail;refine hw1.out.mono ?_;rintro r V1 ⟨k,rfl,hk,hF,hb1⟩;have hGV:Hz (Below W.heap.size W V1):=ζ (hG.out.trans (hb1.mono hG.out.size));have hM:=ζ (h.out.add (snapOb W.heap.size V1) ⟨Nat.le_refl _,fun _ _ _=>rfl⟩ (fun k r=>r.1) hGV.out);replace hgs:=ζ (hgs.out.below hb1);replace hwi:=ζ (hwi.out.below hb1);replace hp:=ζ (at_below hp.out hb1 hp.out.1);have hka:Hz (wr.heap.size≤k∧W.heap.size≤k∧k<V1.heap.size):=ζ ⟨hk,Nat.le_trans hG.out.size hk,hF.lt⟩;replace hF:=ζ hF;clear hw1 hb1 hk h;have p0:V1.cell? ⟨kp,0,none⟩=some (.pointer (some ⟨a,0,none⟩)):=hp.out.2.1 0;have hxg:=ζ (hM.out.callX (fun l' hh=>give_some B V1 a P s l' A k 0 (A.length+8) hh (frow_wat hF.out) (by have:=hAm.out;omega)))
    go_wp2_with fail;refine hxg.out.mono ?_;rintro r V2 ⟨rfl,hM2,hb2⟩;clear p0 hxg hM;have hsn:=ζ (hM2.there (snapOb W.heap.size V1) (by simp));have hM:=ζ hM2;have p1:V2.cell? ⟨kp,1,none⟩=some (.pointer (some ⟨b,0,none⟩)):=(snap_at hsn.out hp.out hkp.out).2.1 1;have hgs2:=ζ (gv_snap hsn.out hgs.out (fun bb oo e=>(hbo.out bb oo e).1));have hyg:=ζ (hM.out.callY (t':=giveM s A) (fun l' hh=>by
     have q:=dgive_any B V2 b c P s l' A va vc hh hgs2.out (by omega) (by have:=hAm.out;omega);obtain⟨e1,e2⟩:=giveM_gp s A;rw[e1,e2];exact q))
    go_wp2_with fail;refine hyg.out.mono ?_;rintro r V3 ⟨rfl,hM3,hb3⟩;clear p1 hyg hM hM2 hgs2;replace hsn:=ζ (hM3.there (snapOb W.heap.size V1) (by simp));have hM:=ζ hM3;have hF3:=ζ (frow_snap hsn.out hF.out hka.out.2.1);have hW3:=ζ (win_snap hsn.out hwi.out (fun bb oo e=>(hbo.out bb oo e).1));have hsp:=ζ (spoilt3 A k va vc V3 hF3.out hW3.out (fun bb oo e _=>by
     have:=(hbo.out bb oo e).2;have:=hka.out.1;omega) (by have:=hAm.out;omega))
    go_wp2_with fail;refine hsp.out.mono ?_;rintro r V4 ⟨rfl,hk4,_⟩;obtain⟨hM4,b4⟩:=hM.out.over2 (Kp.mono hk4 (fun k9 (e:k9=k)=>.inl (by rw[e];exact hka.out.2)));have hGf:Hz (Below B W V4):=ζ ((hGV.out.mono hleW.out).trans (hb2.trans (hb3.trans b4)));clear hsp hk4;go_wp2_with fail;go_ret;exact⟨rfl,A,by have:=hAm.out;omega,hAw.out,hM4,hGf.out⟩
theorem tmod_100 (N:Int): -100<Int.tmod N 100∧Int.tmod N 100<100:=by
 by_cases h:0≤N
 ·rw[Int.tmod_eq_emod_of_nonneg h];omega
 ·have e:N= -(-N):=by omega
  rw[e,Int.neg_tmod,Int.tmod_eq_emod_of_nonneg (by omega)];omega
theorem turn1 (B:Nat)(W:World)(P:Pr)(a:Nat)(s:Fm)(b:Nat)(c:Dc)(l:List Ob)(kb:Nat)(k1 N:Int)(h:MD B W P a s b c s l)(pok:P.Ok)(rr:P.Rr)(n:Nat)(hs:s.Okn P n)(hn:n≤800000)(hvf:s.Vf)(hpg:DPg B W c P)(u:Fm)(hu:stepsM P s 1=u):
 Calls Tryz.prog 9 #[.pointer (some ⟨kb,0,none⟩),.agg #[.pointer (some ⟨a,0,none⟩),.pointer (some ⟨b,0,none⟩)],.agg #[.int .i64 1,.int .i64 k1,.int .i64 N]] W fun x w'=>x=.returned (.bool true)∧MD B w' P a u b c u l∧Below B W w':=by
 replace pok:=ζ pok;replace rr:=ζ rr;replace hs:=ζ hs;replace hvf:=ζ hvf;replace hpg:=ζ hpg;replace hu:=ζ hu;have hleW:=ζ h.le;replace h:=ζ h;go_enter Tryz.func9,Tryz.ntmps9;go_upto_region 1 with fail
 refine wp_world (fun X=>∃kp kt,kp=W.heap.size∧kt=W.heap.size+1∧MD B X P a s b c s (boxOb kt #[.int .i64 1,.int .i64 k1,.int .i64 N]::boxOb kp #[.pointer (some ⟨a,0,none⟩),.pointer (some ⟨b,0,none⟩)]::l)∧Below B W X) ⟨_,_,rfl,rfl,((h.out.new _ _).1.new _ _).1 |> (fun q=>by simpa using q),(((Gr.refl W).alloc _).alloc _).below.mono hleW.out⟩ ?_;rintro V ⟨kp,kt,ekp,ekt,hM,G⟩;rw[←ekt,←ekp];clear ekp ekt h;replace hM:=ζ hM;replace G:=ζ G;have Ap:=hM.out.there (boxOb kp #[.pointer (some ⟨a,0,none⟩),.pointer (some ⟨b,0,none⟩)]) (by simp);have At_:=hM.out.there (boxOb kt #[.int .i64 1,.int .i64 k1,.int .i64 N]) (by simp);have p0:V.cell? ⟨kp,0,none⟩=some (.pointer (some ⟨a,0,none⟩)):=Ap.2.1 0;have p1:V.cell? ⟨kp,1,none⟩=some (.pointer (some ⟨b,0,none⟩)):=Ap.2.1 1;have t0:V.cell? ⟨kt,0,none⟩=some (.int .i64 1):=At_.2.1 0;have t2:V.cell? ⟨kt,2,none⟩=some (.int .i64 N):=At_.2.1 2;clear Ap At_;replace hpg:=ζ (hpg.out.below G.out)
 have hcl:=ζ (hM.out.callX (fun l' h=>step_oc P pok.out rr.out s n hs.out (by omega) u hu.out B V a l' h));go_wp2_with fail;refine hcl.out.mono ?_;rintro r X1 ⟨rfl,hM1,hBn⟩;replace G:=ζ (G.out.trans hBn);replace hpg:=ζ (hpg.out.below hBn);replace hM:=ζ hM1;clear hBn hM1 hcl p0 p1 t0 t2;go_upto_region 4 with fail
 refine wp_world (fun X=>∃k,k=X1.heap.size∧MD B X P a u b c s (boxOb k (List.toArray [Value.int .i64 u.e,.int .u64 u.v,.int .i64 u.f,.int .i64 u.g,.int .i64 u.p])::boxOb kt #[.int .i64 1,.int .i64 k1,.int .i64 N]::boxOb kp #[.pointer (some ⟨a,0,none⟩),.pointer (some ⟨b,0,none⟩)]::l)∧Below B X1 X) ⟨_,rfl,hM.out.new _ _⟩ ?_;rintro X2 ⟨ko,hkk,hM1,hBn⟩;rw[←hkk];clear hkk;replace G:=ζ (G.out.trans hBn);replace hpg:=ζ (hpg.out.below hBn);replace hM:=ζ hM1;clear hBn hM1;have Ap:=hM.out.there (boxOb kp #[.pointer (some ⟨a,0,none⟩),.pointer (some ⟨b,0,none⟩)]) (by simp);have p1:X2.cell? ⟨kp,1,none⟩=some (.pointer (some ⟨b,0,none⟩)):=Ap.2.1 1;clear Ap;have hcl:=ζ (hM.out.callY (fun l' h=>dstep_oc P pok.out s n hs.out (by omega) hvf.out u hu.out B X2 b c l' h hpg.out));go_wp2_with fail;refine hcl.out.mono ?_;rintro r X3 ⟨rfl,hM1,hBn⟩;replace G:=ζ (G.out.trans hBn);replace hpg:=ζ (hpg.out.below hBn)
 replace hM:=ζ hM1;clear hBn hM1 hcl p1;go_upto_region 5 with fail
 refine wp_world (fun X=>∃k,k=X3.heap.size∧MD B X P a u b c u (boxOb k (List.toArray [Value.int .i64 u.e,.int .u64 u.v,.int .i64 u.f,.int .i64 u.g,.int .i64 u.p])::boxOb ko (List.toArray [Value.int .i64 u.e,.int .u64 u.v,.int .i64 u.f,.int .i64 u.g,.int .i64 u.p])::boxOb kt #[.int .i64 1,.int .i64 k1,.int .i64 N]::boxOb kp #[.pointer (some ⟨a,0,none⟩),.pointer (some ⟨b,0,none⟩)]::l)∧Below B X3 X) ⟨_,rfl,hM.out.new _ _⟩ ?_;rintro X4 ⟨kw,hkk,hM1,hBn⟩;rw[←hkk];clear hkk;replace G:=ζ (G.out.trans hBn);replace hpg:=ζ (hpg.out.below hBn);replace hM:=ζ hM1;clear hBn hM1;have A1:=hM.out.there (boxOb ko (List.toArray [Value.int .i64 u.e,.int .u64 u.v,.int .i64 u.f,.int .i64 u.g,.int .i64 u.p])) (by simp);have A3:=hM.out.there (boxOb kw (List.toArray [Value.int .i64 u.e,.int .u64 u.v,.int .i64 u.f,.int .i64 u.g,.int .i64 u.p])) (by simp);have y0:X4.cell? ⟨ko,0,none⟩=some (.int .i64 u.e):=A1.2.1 0;have y1:X4.cell? ⟨ko,1,none⟩=some (.int .u64 u.v):=A1.2.1 1
 have y2:X4.cell? ⟨ko,2,none⟩=some (.int .i64 u.f):=A1.2.1 2;have y3:X4.cell? ⟨ko,3,none⟩=some (.int .i64 u.g):=A1.2.1 3;have y4:X4.cell? ⟨ko,4,none⟩=some (.int .i64 u.p):=A1.2.1 4;have z0:X4.cell? ⟨kw,0,none⟩=some (.int .i64 u.e):=A3.2.1 0;have z1:X4.cell? ⟨kw,1,none⟩=some (.int .u64 u.v):=A3.2.1 1;have z2:X4.cell? ⟨kw,2,none⟩=some (.int .i64 u.f):=A3.2.1 2;have z3:X4.cell? ⟨kw,3,none⟩=some (.int .i64 u.g):=A3.2.1 3;have z4:X4.cell? ⟨kw,4,none⟩=some (.int .i64 u.p):=A3.2.1 4;clear A1 A3;have hq2:=oc_eq5 u.e u.v u.f u.g u.p;go_wp2_with fail;go_ret;exact⟨rfl,hM.out.drop.drop.drop.drop,G.out⟩
theorem turn2 (B:Nat)(W:World)(P:Pr)(a:Nat)(s:Fm)(b:Nat)(c:Dc)(l:List Ob)(kb:Nat)(k1 N:Int)(h:MD B W P a s b c s l)(pok:P.Ok)(rr:P.Rr)(n:Nat)(hs:s.Okn P n)(hn:n≤800000)(hvf:s.Vf)(hpg:DPg B W c P)(u:Fm)(hu:runF P s (Int.tmod N 100)=u):
 Calls Tryz.prog 9 #[.pointer (some ⟨kb,0,none⟩),.agg #[.pointer (some ⟨a,0,none⟩),.pointer (some ⟨b,0,none⟩)],.agg #[.int .i64 2,.int .i64 k1,.int .i64 N]] W fun x w'=>x=.returned (.bool true)∧MD B w' P a u b c u l∧Below B W w':=by
 replace pok:=ζ pok;replace rr:=ζ rr;replace hs:=ζ hs;replace hvf:=ζ hvf;replace hpg:=ζ hpg;replace hu:=ζ hu;obtain⟨nn,hnn⟩:∃z,Int.tmod N 100=z:=⟨_,rfl⟩;have hb1: -100<nn∧nn<100:=by rw[←hnn];exact tmod_100 N
 have w1:wrap64 nn=nn:=by unfold wrap64;omega
 have w2:IntKind.i64.wrap nn=nn:=by rw[IntKind.wrap_i64];omega
 rw[hnn]at hu;clear hb1;have hleW:=ζ h.le;replace h:=ζ h;go_enter Tryz.func9,Tryz.ntmps9;go_upto_region 1 with fail
 refine wp_world (fun X=>∃kp kt,kp=W.heap.size∧kt=W.heap.size+1∧MD B X P a s b c s (boxOb kt #[.int .i64 2,.int .i64 k1,.int .i64 N]::boxOb kp #[.pointer (some ⟨a,0,none⟩),.pointer (some ⟨b,0,none⟩)]::l)∧Below B W X) ⟨_,_,rfl,rfl,((h.out.new _ _).1.new _ _).1 |> (fun q=>by simpa using q),(((Gr.refl W).alloc _).alloc _).below.mono hleW.out⟩ ?_;rintro V ⟨kp,kt,ekp,ekt,hM,G⟩;rw[←ekt,←ekp];clear ekp ekt h;replace hM:=ζ hM;replace G:=ζ G;have Ap:=hM.out.there (boxOb kp #[.pointer (some ⟨a,0,none⟩),.pointer (some ⟨b,0,none⟩)]) (by simp);have At_:=hM.out.there (boxOb kt #[.int .i64 2,.int .i64 k1,.int .i64 N]) (by simp);have p0:V.cell? ⟨kp,0,none⟩=some (.pointer (some ⟨a,0,none⟩)):=Ap.2.1 0;have p1:V.cell? ⟨kp,1,none⟩=some (.pointer (some ⟨b,0,none⟩)):=Ap.2.1 1;have t0:V.cell? ⟨kt,0,none⟩=some (.int .i64 2):=At_.2.1 0;have t2:V.cell? ⟨kt,2,none⟩=some (.int .i64 N):=At_.2.1 2;clear Ap At_;replace hpg:=ζ (hpg.out.below G.out)
 have hcl:=ζ (hM.out.callX (fun l' h=>xrun_oc P pok.out rr.out s n hs.out (by omega) nn u hu.out B V a l' h));go_wp2_with fail;refine hcl.out.mono ?_;rintro r X1 ⟨rfl,hM1,hBn⟩;replace G:=ζ (G.out.trans hBn);replace hpg:=ζ (hpg.out.below hBn);replace hM:=ζ hM1;clear hBn hM1 hcl p0 p1 t0 t2;go_upto_region 9 with fail
 refine wp_world (fun X=>∃k,k=X1.heap.size∧MD B X P a u b c s (boxOb k (List.toArray [Value.int .i64 u.e,.int .u64 u.v,.int .i64 u.f,.int .i64 u.g,.int .i64 u.p])::boxOb kt #[.int .i64 2,.int .i64 k1,.int .i64 N]::boxOb kp #[.pointer (some ⟨a,0,none⟩),.pointer (some ⟨b,0,none⟩)]::l)∧Below B X1 X) ⟨_,rfl,hM.out.new _ _⟩ ?_;rintro X2 ⟨ko,hkk,hM1,hBn⟩;rw[←hkk];clear hkk;replace G:=ζ (G.out.trans hBn);replace hpg:=ζ (hpg.out.below hBn);replace hM:=ζ hM1;clear hBn hM1;have Ap:=hM.out.there (boxOb kp #[.pointer (some ⟨a,0,none⟩),.pointer (some ⟨b,0,none⟩)]) (by simp);have p1:X2.cell? ⟨kp,1,none⟩=some (.pointer (some ⟨b,0,none⟩)):=Ap.2.1 1;clear Ap;have hcl:=ζ (hM.out.callY (fun l' h=>drun_oc P pok.out rr.out s n hs.out (by omega) hvf.out nn u hu.out B X2 b c l' h hpg.out));go_wp2_with fail;refine hcl.out.mono ?_;rintro r X3 ⟨rfl,hM1,hBn⟩;replace G:=ζ (G.out.trans hBn);replace hpg:=ζ (hpg.out.below hBn)
 replace hM:=ζ hM1;clear hBn hM1 hcl p1;go_upto_region 10 with fail
 refine wp_world (fun X=>∃k,k=X3.heap.size∧MD B X P a u b c u (boxOb k (List.toArray [Value.int .i64 u.e,.int .u64 u.v,.int .i64 u.f,.int .i64 u.g,.int .i64 u.p])::boxOb ko (List.toArray [Value.int .i64 u.e,.int .u64 u.v,.int .i64 u.f,.int .i64 u.g,.int .i64 u.p])::boxOb kt #[.int .i64 2,.int .i64 k1,.int .i64 N]::boxOb kp #[.pointer (some ⟨a,0,none⟩),.pointer (some ⟨b,0,none⟩)]::l)∧Below B X3 X) ⟨_,rfl,hM.out.new _ _⟩ ?_;rintro X4 ⟨kw,hkk,hM1,hBn⟩;rw[←hkk];clear hkk;replace G:=ζ (G.out.trans hBn);replace hpg:=ζ (hpg.out.below hBn);replace hM:=ζ hM1;clear hBn hM1;have A1:=hM.out.there (boxOb ko (List.toArray [Value.int .i64 u.e,.int .u64 u.v,.int .i64 u.f,.int .i64 u.g,.int .i64 u.p])) (by simp);have A3:=hM.out.there (boxOb kw (List.toArray [Value.int .i64 u.e,.int .u64 u.v,.int .i64 u.f,.int .i64 u.g,.int .i64 u.p])) (by simp);have y0:X4.cell? ⟨ko,0,none⟩=some (.int .i64 u.e):=A1.2.1 0;have y1:X4.cell? ⟨ko,1,none⟩=some (.int .u64 u.v):=A1.2.1 1
 have y2:X4.cell? ⟨ko,2,none⟩=some (.int .i64 u.f):=A1.2.1 2;have y3:X4.cell? ⟨ko,3,none⟩=some (.int .i64 u.g):=A1.2.1 3;have y4:X4.cell? ⟨ko,4,none⟩=some (.int .i64 u.p):=A1.2.1 4;have z0:X4.cell? ⟨kw,0,none⟩=some (.int .i64 u.e):=A3.2.1 0;have z1:X4.cell? ⟨kw,1,none⟩=some (.int .u64 u.v):=A3.2.1 1;have z2:X4.cell? ⟨kw,2,none⟩=some (.int .i64 u.f):=A3.2.1 2;have z3:X4.cell? ⟨kw,3,none⟩=some (.int .i64 u.g):=A3.2.1 3;have z4:X4.cell? ⟨kw,4,none⟩=some (.int .i64 u.p):=A3.2.1 4;clear A1 A3;have hq2:=oc_eq5 u.e u.v u.f u.g u.p;go_wp2_with fail;go_ret;exact⟨rfl,hM.out.drop.drop.drop.drop,G.out⟩
theorem turn5 (B:Nat)(W:World)(P:Pr)(a:Nat)(s:Fm)(b:Nat)(c:Dc)(l:List Ob)(kb:Nat)(k1 N:Int)(h:MD B W P a s b c s l):
 Calls Tryz.prog 9 #[.pointer (some ⟨kb,0,none⟩),.agg #[.pointer (some ⟨a,0,none⟩),.pointer (some ⟨b,0,none⟩)],.agg #[.int .i64 5,.int .i64 k1,.int .i64 N]] W fun x w'=>x=.returned (.bool true)∧MD B w' P a s b c s l∧Below B W w':=by
 have hleW:=ζ h.le;replace h:=ζ h;go_enter Tryz.func9,Tryz.ntmps9;go_upto_region 1 with fail
 refine wp_world (fun X=>∃kp kt,kp=W.heap.size∧kt=W.heap.size+1∧MD B X P a s b c s (boxOb kt #[.int .i64 5,.int .i64 k1,.int .i64 N]::boxOb kp #[.pointer (some ⟨a,0,none⟩),.pointer (some ⟨b,0,none⟩)]::l)∧Below B W X) ⟨_,_,rfl,rfl,((h.out.new _ _).1.new _ _).1 |> (fun q=>by simpa using q),(((Gr.refl W).alloc _).alloc _).below.mono hleW.out⟩ ?_;rintro V ⟨kp,kt,ekp,ekt,hM,G⟩;rw[←ekt,←ekp];clear ekp ekt h;replace hM:=ζ hM;replace G:=ζ G;have Ap:=hM.out.there (boxOb kp #[.pointer (some ⟨a,0,none⟩),.pointer (some ⟨b,0,none⟩)]) (by simp);have At_:=hM.out.there (boxOb kt #[.int .i64 5,.int .i64 k1,.int .i64 N]) (by simp);have p0:V.cell? ⟨kp,0,none⟩=some (.pointer (some ⟨a,0,none⟩)):=Ap.2.1 0;have p1:V.cell? ⟨kp,1,none⟩=some (.pointer (some ⟨b,0,none⟩)):=Ap.2.1 1;have t0:V.cell? ⟨kt,0,none⟩=some (.int .i64 5):=At_.2.1 0;have t2:V.cell? ⟨kt,2,none⟩=some (.int .i64 N):=At_.2.1 2;clear Ap At_;have KS:Hz (∀X,Below V.heap.size V X→X.cell? ⟨kp,0,none⟩=some (.pointer (some ⟨a,0,none⟩))∧X.cell? ⟨kp,1,none⟩=some (.pointer (some ⟨b,0,none⟩))):=ζ (fun X q=>by
  have Ap:=hM.out.there (boxOb kp #[.pointer (some ⟨a,0,none⟩),.pointer (some ⟨b,0,none⟩)]) (by simp);exact⟨(T.cell_of_block (q.block kp Ap.1) _).trans (Ap.2.1 0),(T.cell_of_block (q.block kp Ap.1) _).trans (Ap.2.1 1)⟩)
 have gd:Hz (Below V.heap.size V V.drew):=ζ ((Gr.refl V).drew.below);have hMd:=ζ (hM.out.gr gd.out);obtain⟨lx,hX⟩:=hMd.out.oneX;obtain⟨ly,hY⟩:=hMd.out.oneY;replace hX:=ζ hX;replace hY:=ζ hY;have hne:=sn_eql s.g s.p s.st.length s.r;generalize hsv:(snV s.g s.p s.st.length s.r).toArray=sv at hne;clear p0 p1 t2;go_upto_region 30 with fail
 refine wp_region_held_drew (S:=(fun X=>X.cell? ⟨kp,0,none⟩=some (.pointer (some ⟨a,0,none⟩))∧X.cell? ⟨kp,1,none⟩=some (.pointer (some ⟨b,0,none⟩)))) (by kernel_rfl) (KS.out _ gd.out) (fun hHeld=>?_);refine xz 0 rfl (h:=xz 1 rfl (h:=xz 3 rfl (h:=xz 4 rfl (h:=?_))));try simp only[xap]
 refine xrd 2 rfl (fun K hK=>?_);go_simp;go_wp2_with(refine(snap_any B V.drew a P s lx hX.out).mono ?_;rintro r V1 ⟨rfl,g1⟩;clear hHeld);refine hK.out _ _ (KS.out _ (gd.out.trans (g1.below.mono gd.out.size))) (fun hHeld=>?_);clear hK K;try simp only[xap]
 refine xrd 5 rfl (fun K hK=>?_);go_simp;go_wp2_with(refine(dsnap_any B V1 b c P s s.g s.p ly (hY.out.gr g1.below)).mono ?_;rintro r V2 ⟨rfl,g2⟩;clear hHeld);refine hK.out _ _ (KS.out _ (gd.out.trans (((g1.trans g2).below).mono gd.out.size))) (fun hHeld=>?_);clear hK K;try simp only[xap]
 refine xz 6 rfl (h:=xz 7 rfl (h:=?_));try simp only[xap]
 refine xdn ?_ _;clear hHeld hX hY KS;have hb:Below V.heap.size V V2:=gd.out.trans (((g1.trans g2).below).mono gd.out.size);have hMf:=ζ (hM.out.gr hb);have Gf:=ζ (G.out.trans (hb.mono hM.out.le));clear hb g1 g2 gd hMd;go_wp2_with fail;go_ret;exact⟨rfl,hMf.out.drop.drop,Gf.out⟩
theorem turn6 (B:Nat)(W:World)(P:Pr)(a:Nat)(s:Fm)(b:Nat)(c:Dc)(l:List Ob)(kb:Nat)(k1 N:Int)(h:MD B W P a s b c s l):
 Calls Tryz.prog 9 #[.pointer (some ⟨kb,0,none⟩),.agg #[.pointer (some ⟨a,0,none⟩),.pointer (some ⟨b,0,none⟩)],.agg #[.int .i64 6,.int .i64 k1,.int .i64 N]] W fun x w'=>x=.returned (.bool true)∧MD B w' P a s b c s l∧Below B W w':=by
 have hleW:=ζ h.le;replace h:=ζ h;go_enter Tryz.func9,Tryz.ntmps9;go_upto_region 1 with fail
 refine wp_world (fun X=>∃kp kt,kp=W.heap.size∧kt=W.heap.size+1∧MD B X P a s b c s (boxOb kt #[.int .i64 6,.int .i64 k1,.int .i64 N]::boxOb kp #[.pointer (some ⟨a,0,none⟩),.pointer (some ⟨b,0,none⟩)]::l)∧Below B W X) ⟨_,_,rfl,rfl,((h.out.new _ _).1.new _ _).1 |> (fun q=>by simpa using q),(((Gr.refl W).alloc _).alloc _).below.mono hleW.out⟩ ?_;rintro V ⟨kp,kt,ekp,ekt,hM,G⟩;rw[←ekt,←ekp];clear ekp ekt h;replace hM:=ζ hM;replace G:=ζ G;have Ap:=hM.out.there (boxOb kp #[.pointer (some ⟨a,0,none⟩),.pointer (some ⟨b,0,none⟩)]) (by simp);have At_:=hM.out.there (boxOb kt #[.int .i64 6,.int .i64 k1,.int .i64 N]) (by simp);have p0:V.cell? ⟨kp,0,none⟩=some (.pointer (some ⟨a,0,none⟩)):=Ap.2.1 0;have p1:V.cell? ⟨kp,1,none⟩=some (.pointer (some ⟨b,0,none⟩)):=Ap.2.1 1;have t0:V.cell? ⟨kt,0,none⟩=some (.int .i64 6):=At_.2.1 0;have t2:V.cell? ⟨kt,2,none⟩=some (.int .i64 N):=At_.2.1 2;clear Ap At_;have KS:Hz (∀X,Below V.heap.size V X→X.cell? ⟨kp,0,none⟩=some (.pointer (some ⟨a,0,none⟩))∧X.cell? ⟨kp,1,none⟩=some (.pointer (some ⟨b,0,none⟩))):=ζ (fun X q=>by
  have Ap:=hM.out.there (boxOb kp #[.pointer (some ⟨a,0,none⟩),.pointer (some ⟨b,0,none⟩)]) (by simp);exact⟨(T.cell_of_block (q.block kp Ap.1) _).trans (Ap.2.1 0),(T.cell_of_block (q.block kp Ap.1) _).trans (Ap.2.1 1)⟩)
 have gd:Hz (Below V.heap.size V V.drew):=ζ ((Gr.refl V).drew.below);have hMd:=ζ (hM.out.gr gd.out);obtain⟨lx,hX⟩:=hMd.out.oneX;obtain⟨ly,hY⟩:=hMd.out.oneY;replace hX:=ζ hX;replace hY:=ζ hY;clear p0 p1 t2;go_upto_region 32 with fail
 refine wp_region_held_drew (S:=(fun X=>X.cell? ⟨kp,0,none⟩=some (.pointer (some ⟨a,0,none⟩))∧X.cell? ⟨kp,1,none⟩=some (.pointer (some ⟨b,0,none⟩)))) (by kernel_rfl) (KS.out _ gd.out) (fun hHeld=>?_);refine xz 0 rfl (h:=xz 1 rfl (h:=xz 3 rfl (h:=xz 4 rfl (h:=?_))));try simp only[xap]
 refine xrd 2 rfl (fun K hK=>?_);go_simp;go_wp2_with(refine(memory_any B V.drew a P s lx hX.out).mono ?_;rintro r V1 ⟨rfl,g1⟩;clear hHeld);refine hK.out _ _ (KS.out _ (gd.out.trans (g1.mono gd.out.size))) (fun hHeld=>?_);clear hK K;try simp only[xap]
 refine xrd 5 rfl (fun K hK=>?_);go_simp;go_wp2_with(refine(dmemoryS_any B V1 b c P s s.g s.p ly (hY.out.gr g1)).mono ?_;rintro r V2 ⟨rfl,g2⟩;clear hHeld);refine hK.out _ _ (KS.out _ (gd.out.trans ((g1.trans (g2.mono g1.size)).mono gd.out.size))) (fun hHeld=>?_);clear hK K;try simp only[xap]
 refine xz 6 rfl (h:=xz 7 rfl (h:=?_));try simp only[xap]
 refine xdn ?_ _;clear hHeld hX hY KS;have hb:Below V.heap.size V V2:=gd.out.trans ((g1.trans (g2.mono g1.size)).mono gd.out.size);have hMf:=ζ (hM.out.gr hb);have Gf:=ζ (G.out.trans (hb.mono hM.out.le));clear hb g1 g2 gd hMd;go_wp2_with fail;go_ret;exact⟨rfl,hMf.out.drop.drop,Gf.out⟩
theorem turn8 (B:Nat)(W:World)(P:Pr)(a:Nat)(s:Fm)(b:Nat)(c:Dc)(l:List Ob)(kb:Nat)(k1 N:Int)(h:MD B W P a s b c s l)(hN1: -9223372036854775808≤N)(hN2:N≤9223372036854775807)(hil:s.inp.length≤2400000):
 Calls Tryz.prog 9 #[.pointer (some ⟨kb,0,none⟩),.agg #[.pointer (some ⟨a,0,none⟩),.pointer (some ⟨b,0,none⟩)],.agg #[.int .i64 8,.int .i64 k1,.int .i64 N]] W fun x w'=>x=.returned (.bool true)∧∃A:List Int,A.length≤12∧(∀x∈A,Wd x)∧MD B w' P a (giveM s A) b c (giveM s A) l∧Below B W w':=by
 have hleW:=ζ h.le;replace h:=ζ h;go_enter Tryz.func9,Tryz.ntmps9;go_upto_region 1 with fail
 refine wp_world (fun X=>∃kp kt,kp=W.heap.size∧kt=W.heap.size+1∧MD B X P a s b c s (boxOb kt #[.int .i64 8,.int .i64 k1,.int .i64 N]::boxOb kp #[.pointer (some ⟨a,0,none⟩),.pointer (some ⟨b,0,none⟩)]::l)∧Below B W X) ⟨_,_,rfl,rfl,((h.out.new _ _).1.new _ _).1 |> (fun q=>by simpa using q),(((Gr.refl W).alloc _).alloc _).below.mono hleW.out⟩ ?_;rintro V ⟨kp,kt,ekp,ekt,hM,G⟩;rw[←ekt,←ekp];clear ekp ekt h;replace hM:=ζ hM;replace G:=ζ G;have Ap:=hM.out.there (boxOb kp #[.pointer (some ⟨a,0,none⟩),.pointer (some ⟨b,0,none⟩)]) (by simp);have At_:=hM.out.there (boxOb kt #[.int .i64 8,.int .i64 k1,.int .i64 N]) (by simp);have p0:V.cell? ⟨kp,0,none⟩=some (.pointer (some ⟨a,0,none⟩)):=Ap.2.1 0;have p1:V.cell? ⟨kp,1,none⟩=some (.pointer (some ⟨b,0,none⟩)):=Ap.2.1 1;have t0:V.cell? ⟨kt,0,none⟩=some (.int .i64 8):=At_.2.1 0;have t2:V.cell? ⟨kt,2,none⟩=some (.int .i64 N):=At_.2.1 2;clear Ap At_;have At_:=hM.out.there (boxOb kt #[.int .i64 8,.int .i64 k1,.int .i64 N]) (by simp)
 have t1:V.cell? ⟨kt,1,none⟩=some (.int .i64 k1):=At_.2.1 1;clear At_;have hgv:=ζ (given_any B V P a s b c (boxOb kt #[.int .i64 8,.int .i64 k1,.int .i64 N]::boxOb kp #[.pointer (some ⟨a,0,none⟩),.pointer (some ⟨b,0,none⟩)]::l) 8 k1 N hN1 hN2 hM.out hil);go_wp2_with fail;refine hgv.out.mono ?_;rintro r V2 ⟨rfl,A,hA1,hA2,hM2,hb⟩;replace hM:=ζ hM2;replace G:=ζ (G.out.trans hb);replace hA2:=ζ hA2;clear p0 p1 t0 t1 t2 hgv hM2 hb;go_wp2_with fail;go_ret;exact⟨rfl,A,hA1,hA2.out,hM.out.drop.drop,G.out⟩
theorem turn0 (B:Nat)(W:World)(P:Pr)(a:Nat)(s:Fm)(b:Nat)(c:Dc)(l:List Ob)(kb:Nat)(K k1 N:Int)(h:MD B W P a s b c s l)(n1:(K==1)=false)(n2:(K==2)=false)(n3:(K==3)=false)(n4:(K==4)=false)(n5:(K==5)=false)(n6:(K==6)=false)(n8:(K==8)=false):
 Calls Tryz.prog 9 #[.pointer (some ⟨kb,0,none⟩),.agg #[.pointer (some ⟨a,0,none⟩),.pointer (some ⟨b,0,none⟩)],.agg #[.int .i64 K,.int .i64 k1,.int .i64 N]] W fun x w'=>x=.returned (.bool true)∧MD B w' P a s b c s l∧Below B W w':=by
 have hleW:=ζ h.le;replace h:=ζ h;go_enter Tryz.func9,Tryz.ntmps9;go_upto_region 1 with fail
 refine wp_world (fun X=>∃kp kt,kp=W.heap.size∧kt=W.heap.size+1∧MD B X P a s b c s (boxOb kt #[.int .i64 K,.int .i64 k1,.int .i64 N]::boxOb kp #[.pointer (some ⟨a,0,none⟩),.pointer (some ⟨b,0,none⟩)]::l)∧Below B W X) ⟨_,_,rfl,rfl,((h.out.new _ _).1.new _ _).1 |> (fun q=>by simpa using q),(((Gr.refl W).alloc _).alloc _).below.mono hleW.out⟩ ?_;rintro V ⟨kp,kt,ekp,ekt,hM,G⟩;rw[←ekt,←ekp];clear ekp ekt h;replace hM:=ζ hM;replace G:=ζ G;have Ap:=hM.out.there (boxOb kp #[.pointer (some ⟨a,0,none⟩),.pointer (some ⟨b,0,none⟩)]) (by simp);have At_:=hM.out.there (boxOb kt #[.int .i64 K,.int .i64 k1,.int .i64 N]) (by simp);have p0:V.cell? ⟨kp,0,none⟩=some (.pointer (some ⟨a,0,none⟩)):=Ap.2.1 0;have p1:V.cell? ⟨kp,1,none⟩=some (.pointer (some ⟨b,0,none⟩)):=Ap.2.1 1;have t0:V.cell? ⟨kt,0,none⟩=some (.int .i64 K):=At_.2.1 0;have t2:V.cell? ⟨kt,2,none⟩=some (.int .i64 N):=At_.2.1 2;clear Ap At_;go_wp2_with fail
 go_ret;exact⟨rfl,hM.out.drop.drop,G.out⟩
theorem md_words (B:Nat)(W:World)(P:Pr)(a:Nat)(s:Fm)(b:Nat)(c:Dc)(kb:Nat)(wv tv:Value)(rw rt:List Value)(va:Option Addr)(n vc:Nat)(xs:List Value)(l:List Ob)(h:MD B W P a s b c s (bkO B kb wv tv rw rt++rowOb B 51 1 (.slice va n vc) n xs::l))(hn:n≤2000000)(hK:rw.length≤1000000)(h5:rw.length%5=0):
 Calls Tryz.prog 33 #[.pointer (some ⟨kb,0,none⟩),.slice va n vc] W fun x w'=>x=.returned (.tuple #[])∧∃wv' rw',List.length rw'=rw.length+5∧MD B w' P a s b c s (bkO B kb wv' tv rw' rt++l)∧Below B W w':=by
 obtain⟨M,h1,le,h2⟩:=h.sep;refine(bwords_any B kb wv tv rw rt va n vc xs (l++M) W (by simpa using h1) le hn hK h5).mono ?_;rintro x w' ⟨e,v1,r1,e1,h3,hb⟩;exact⟨e,v1,r1,e1,h2 w' _ (by simpa using h3) hb,hb⟩
theorem md_touches (B:Nat)(W:World)(P:Pr)(a:Nat)(s:Fm)(b:Nat)(c:Dc)(kb:Nat)(wv tv:Value)(rw rt:List Value)(va:Option Addr)(n vc:Nat)(xs:List Value)(l:List Ob)(h:MD B W P a s b c s (bkO B kb wv tv rw rt++rowOb B 67 3 (.slice va n vc) n xs::l))(hn:n≤2000000)(hK:rt.length≤1000000)(h5:rt.length%5=0):
 Calls Tryz.prog 35 #[.pointer (some ⟨kb,0,none⟩),.slice va n vc] W fun x w'=>x=.returned (.tuple #[])∧∃tv' rt',List.length rt'=rt.length+5∧MD B w' P a s b c s (bkO B kb wv tv' rw rt'++l)∧Below B W w':=by
 obtain⟨M,h1,le,h2⟩:=h.sep;refine(btouches_any B kb wv tv rw rt va n vc xs (l++M) W (by simpa using h1) le hn hK h5).mono ?_;rintro x w' ⟨e,v1,r1,e1,h3,hb⟩;exact⟨e,v1,r1,e1,h2 w' _ (by simpa using h3) hb,hb⟩
theorem MD.youts {B:Nat}{W:World}{P:Pr}{a b:Nat}{s:Fm}{c:Dc}{l:List Ob}(h:MD B W P a s b c s l):b<W.heap.size∧(∃ta tk,W.cell? ⟨b,25,none⟩=some (.slice ta s.out.length tk)∧WIn W ta s.out)∧∃ua uk,W.cell? ⟨b,26,none⟩=some (.slice ua s.tc.length uk)∧T.EIn 3 Tc.vals W ua s.tc:=by
 obtain⟨ly,hY⟩:=h.oneY;exact hY.outs
theorem lst_perm (k j t p:Ob)(x l:List Ob):(k::j::t::p::(x++l)).Perm (x++j::k::t::p::l):=by
 refine List.Perm.trans (List.Perm.swap _ _ _) ?_;have h:([j,k,t,p]++(x++l)).Perm (x++([j,k,t,p]++l)):=List.perm_append_comm_assoc _ _ _;simpa using h
theorem lst_perm2 (t p:Ob)(x l:List Ob):(x++t::p::l).Perm (t::p::(x++l)):=by
 have h:(x++([t,p]++l)).Perm ([t,p]++(x++l)):=List.perm_append_comm_assoc _ _ _;simpa using h
theorem turn3 (B:Nat)(W:World)(P:Pr)(a:Nat)(s:Fm)(b:Nat)(c:Dc)(kb:Nat)(wv tv:Value)(rw rt:List Value)(l:List Ob)(k1 N:Int)(h:MD B W P a s b c s (bkO B kb wv tv rw rt++l))(hol:s.out.length≤1000000)(hK:rw.length≤900000)(h5:rw.length%5=0):
 Calls Tryz.prog 9 #[.pointer (some ⟨kb,0,none⟩),.agg #[.pointer (some ⟨a,0,none⟩),.pointer (some ⟨b,0,none⟩)],.agg #[.int .i64 3,.int .i64 k1,.int .i64 N]] W fun x w'=>x=.returned (.bool true)∧∃wv' rw',List.length rw'=rw.length+10∧MD B w' P a s b c s (bkO B kb wv' tv rw' rt++l)∧Below B W w':=by
 have hleW:=ζ h.le;replace h:=ζ h;go_enter Tryz.func9,Tryz.ntmps9;go_upto_region 1 with fail
 refine wp_world (fun X=>∃kp kt,kp=W.heap.size∧kt=W.heap.size+1∧MD B X P a s b c s (boxOb kt #[.int .i64 3,.int .i64 k1,.int .i64 N]::boxOb kp #[.pointer (some ⟨a,0,none⟩),.pointer (some ⟨b,0,none⟩)]::(bkO B kb wv tv rw rt++l))∧Below B W X) ⟨_,_,rfl,rfl,((h.out.new _ _).1.new _ _).1 |> (fun q=>by simpa using q),(((Gr.refl W).alloc _).alloc _).below.mono hleW.out⟩ ?_;rintro V ⟨kp,kt,ekp,ekt,hM,G⟩;rw[←ekt,←ekp];clear ekp ekt h;replace hM:=ζ hM;replace G:=ζ G;have Ap:=hM.out.there (boxOb kp #[.pointer (some ⟨a,0,none⟩),.pointer (some ⟨b,0,none⟩)]) (by simp);have At_:=hM.out.there (boxOb kt #[.int .i64 3,.int .i64 k1,.int .i64 N]) (by simp);have p0:V.cell? ⟨kp,0,none⟩=some (.pointer (some ⟨a,0,none⟩)):=Ap.2.1 0;have p1:V.cell? ⟨kp,1,none⟩=some (.pointer (some ⟨b,0,none⟩)):=Ap.2.1 1;have t0:V.cell? ⟨kt,0,none⟩=some (.int .i64 3):=At_.2.1 0;have t2:V.cell? ⟨kt,2,none⟩=some (.int .i64 N):=At_.2.1 2
 clear Ap At_;have hleV:Hz (B≤V.heap.size):=ζ hM.out.le;have Ap:=ζ (show At V kp #[.pointer (some ⟨a,0,none⟩),.pointer (some ⟨b,0,none⟩)]from hM.out.there (boxOb kp #[.pointer (some ⟨a,0,none⟩),.pointer (some ⟨b,0,none⟩)]) (by simp));clear p1 t2;obtain⟨lx,hX⟩:=hM.out.oneX;have hou:=ζ (out_any B V a P s lx hX hol);clear hX;go_wp2_with fail;refine hou.out.mono ?_;rintro r V1 ⟨v,rfl,ho,hb⟩;obtain⟨j,jc,rfl⟩:=own_slZ ho;replace hM:=ζ (hM.out.add (rowOb B 51 1 (.slice j s.out.length jc) s.out.length (s.out.map u64I)) (own_monoZ ho hM.out.le) (fun k q=>(ho.lt k q).1) hb);replace G:=ζ (G.out.trans (hb.mono hleV.out));replace hleV:Hz (B≤V1.heap.size):=ζ (Nat.le_trans hleV.out hb.size);replace Ap:=ζ (at_below Ap.out hb Ap.out.1);clear hb ho hou p0 t0;have p0:V1.cell? ⟨kp,0,none⟩=some (.pointer (some ⟨a,0,none⟩)):=Ap.out.2.1 0;obtain⟨lx,hX⟩:=hM.out.oneX;have hou:=ζ (out_any B V1 a P s lx hX hol);clear hX
 go_wp2_with fail;refine hou.out.mono ?_;rintro r V2 ⟨v,rfl,ho,hb⟩;obtain⟨k,kc,rfl⟩:=own_slZ ho;replace hM:=ζ (hM.out.add (rowOb B 51 1 (.slice k s.out.length kc) s.out.length (s.out.map u64I)) (own_monoZ ho hM.out.le) (fun k q=>(ho.lt k q).1) hb);replace G:=ζ (G.out.trans (hb.mono hleV.out));replace hleV:Hz (B≤V2.heap.size):=ζ (Nat.le_trans hleV.out hb.size);replace Ap:=ζ (at_below Ap.out hb Ap.out.1);clear hb ho hou p0;obtain⟨hbl,⟨ta,tk,c25,hwy⟩,_⟩:=hM.out.youts;have p1:V2.cell? ⟨kp,1,none⟩=some (.pointer (some ⟨b,0,none⟩)):=Ap.out.2.1 1;have hr:V2.ownsRow B 51 1 (.slice j s.out.length jc) s.out.length (s.out.map u64I):=hM.out.there (rowOb B 51 1 (.slice j s.out.length jc) s.out.length (s.out.map u64I)) (by simp);obtain⟨va2,vc2,e2,hw2⟩:=own_win hr rfl;injection e2 with e2 _ e3
 rw[←e2]at hw2;have hsm:=ζ (sameW_self s.out j ta jc tk V2 hw2 hwy hol);clear hr e2 e3 hw2 hwy;go_wp2_with fail;refine hsm.out.mono ?_;rintro r V3 ⟨rfl,g⟩;replace hM:=ζ (hM.out.gr g.below);replace G:=ζ (G.out.trans (g.below.mono hleV.out));replace hleV:Hz (B≤V3.heap.size):=ζ (Nat.le_trans hleV.out g.below.size);replace Ap:=ζ (Ap.out.gr g);clear g hsm p1 hbl c25;obtain⟨hbl,⟨ta,tk,c25,hwy⟩,_⟩:=hM.out.youts;have p1:V3.cell? ⟨kp,1,none⟩=some (.pointer (some ⟨b,0,none⟩)):=Ap.out.2.1 1;have hr:V3.ownsRow B 51 1 (.slice k s.out.length kc) s.out.length (s.out.map u64I):=hM.out.there (rowOb B 51 1 (.slice k s.out.length kc) s.out.length (s.out.map u64I)) (by simp);obtain⟨va2,vc2,e2,hw2⟩:=own_win hr rfl;injection e2 with e2 _ e3
 rw[←e2]at hw2;have hsm:=ζ (sameW_self s.out k ta kc tk V3 hw2 hwy hol);clear hr e2 e3 hw2 hwy;go_wp2_with fail;refine hsm.out.mono ?_;rintro r V4 ⟨rfl,g⟩;replace hM:=ζ (hM.out.gr g.below);replace G:=ζ (G.out.trans (g.below.mono hleV.out));replace hleV:Hz (B≤V4.heap.size):=ζ (Nat.le_trans hleV.out g.below.size);replace Ap:=ζ (Ap.out.gr g);clear g hsm p1 hbl c25;replace hM:Hz (MD B V4 P a s b c s (bkO B kb wv tv rw rt++rowOb B 51 1 (.slice j s.out.length jc) s.out.length (s.out.map u64I)::rowOb B 51 1 (.slice k s.out.length kc) s.out.length (s.out.map u64I)::boxOb kt #[.int .i64 3,.int .i64 k1,.int .i64 N]::boxOb kp #[.pointer (some ⟨a,0,none⟩),.pointer (some ⟨b,0,none⟩)]::l)):=ζ (hM.out.permO (lst_perm _ _ _ _ _ _));have hkp:=ζ (md_words B V4 P a s b c kb wv tv rw rt j s.out.length jc (s.out.map u64I) (rowOb B 51 1 (.slice k s.out.length kc) s.out.length (s.out.map u64I)::boxOb kt #[.int .i64 3,.int .i64 k1,.int .i64 N]::boxOb kp #[.pointer (some ⟨a,0,none⟩),.pointer (some ⟨b,0,none⟩)]::l) hM.out (Nat.le_trans hol (by omega)) (by omega) (by omega))
 go_wp2_with fail;refine hkp.out.mono ?_;rintro r V5 ⟨rfl,wv1,rw1,e1,hM1,hb⟩;replace hM:=ζ hM1;replace G:=ζ (G.out.trans hb);replace hleV:Hz (B≤V5.heap.size):=ζ (Nat.le_trans hleV.out hb.size);replace Ap:=ζ (show At V5 kp #[.pointer (some ⟨a,0,none⟩),.pointer (some ⟨b,0,none⟩)]from hM.out.there (boxOb kp #[.pointer (some ⟨a,0,none⟩),.pointer (some ⟨b,0,none⟩)]) (by simp));clear hb hM1 hkp;obtain⟨hbl,⟨ta,tk,c25,hwy⟩,_⟩:=hM.out.youts;have p1:V5.cell? ⟨kp,1,none⟩=some (.pointer (some ⟨b,0,none⟩)):=Ap.out.2.1 1;have hr:V5.ownsRow B 51 1 (.slice k s.out.length kc) s.out.length (s.out.map u64I):=hM.out.there (rowOb B 51 1 (.slice k s.out.length kc) s.out.length (s.out.map u64I)) (by simp);obtain⟨va2,vc2,e2,hw2⟩:=own_win hr rfl;injection e2 with e2 _ e3
 rw[←e2]at hw2;have hsm:=ζ (sameW_self s.out k ta kc tk V5 hw2 hwy hol);clear hr e2 e3 hw2 hwy;go_wp2_with fail;refine hsm.out.mono ?_;rintro r V6 ⟨rfl,g⟩;replace hM:=ζ (hM.out.gr g.below);replace G:=ζ (G.out.trans (g.below.mono hleV.out));replace hleV:Hz (B≤V6.heap.size):=ζ (Nat.le_trans hleV.out g.below.size);replace Ap:=ζ (Ap.out.gr g);clear g hsm p1 hbl c25;have hkp:=ζ (md_words B V6 P a s b c kb wv1 tv rw1 rt k s.out.length kc (s.out.map u64I) (boxOb kt #[.int .i64 3,.int .i64 k1,.int .i64 N]::boxOb kp #[.pointer (some ⟨a,0,none⟩),.pointer (some ⟨b,0,none⟩)]::l) hM.out (Nat.le_trans hol (by omega)) (by omega) (by omega));go_wp2_with fail;refine hkp.out.mono ?_;rintro r V7 ⟨rfl,wv2,rw2,e2,hM1,hb⟩;replace hM:=ζ hM1;replace G:=ζ (G.out.trans hb);replace hleV:Hz (B≤V7.heap.size):=ζ (Nat.le_trans hleV.out hb.size);replace Ap:=ζ (show At V7 kp #[.pointer (some ⟨a,0,none⟩),.pointer (some ⟨b,0,none⟩)]from hM.out.there (boxOb kp #[.pointer (some ⟨a,0,none⟩),.pointer (some ⟨b,0,none⟩)]) (by simp))
 clear hb hM1 hkp;replace hM:=ζ (hM.out.permO (lst_perm2 _ _ _ _)).drop.drop;go_wp2_with fail;go_ret;exact⟨rfl,wv2,rw2,by omega,hM.out,G.out⟩
theorem turn4 (B:Nat)(W:World)(P:Pr)(a:Nat)(s:Fm)(b:Nat)(c:Dc)(kb:Nat)(wv tv:Value)(rw rt:List Value)(l:List Ob)(k1 N:Int)(h:MD B W P a s b c s (bkO B kb wv tv rw rt++l))(hol:s.tc.length≤1000000)(hK:rt.length≤900000)(h5:rt.length%5=0):
 Calls Tryz.prog 9 #[.pointer (some ⟨kb,0,none⟩),.agg #[.pointer (some ⟨a,0,none⟩),.pointer (some ⟨b,0,none⟩)],.agg #[.int .i64 4,.int .i64 k1,.int .i64 N]] W fun x w'=>x=.returned (.bool true)∧∃tv' rt',List.length rt'=rt.length+10∧MD B w' P a s b c s (bkO B kb wv tv' rw rt'++l)∧Below B W w':=by
 have hleW:=ζ h.le;replace h:=ζ h;go_enter Tryz.func9,Tryz.ntmps9;go_upto_region 1 with fail
 refine wp_world (fun X=>∃kp kt,kp=W.heap.size∧kt=W.heap.size+1∧MD B X P a s b c s (boxOb kt #[.int .i64 4,.int .i64 k1,.int .i64 N]::boxOb kp #[.pointer (some ⟨a,0,none⟩),.pointer (some ⟨b,0,none⟩)]::(bkO B kb wv tv rw rt++l))∧Below B W X) ⟨_,_,rfl,rfl,((h.out.new _ _).1.new _ _).1 |> (fun q=>by simpa using q),(((Gr.refl W).alloc _).alloc _).below.mono hleW.out⟩ ?_;rintro V ⟨kp,kt,ekp,ekt,hM,G⟩;rw[←ekt,←ekp];clear ekp ekt h;replace hM:=ζ hM;replace G:=ζ G;have Ap:=hM.out.there (boxOb kp #[.pointer (some ⟨a,0,none⟩),.pointer (some ⟨b,0,none⟩)]) (by simp);have At_:=hM.out.there (boxOb kt #[.int .i64 4,.int .i64 k1,.int .i64 N]) (by simp);have p0:V.cell? ⟨kp,0,none⟩=some (.pointer (some ⟨a,0,none⟩)):=Ap.2.1 0;have p1:V.cell? ⟨kp,1,none⟩=some (.pointer (some ⟨b,0,none⟩)):=Ap.2.1 1;have t0:V.cell? ⟨kt,0,none⟩=some (.int .i64 4):=At_.2.1 0;have t2:V.cell? ⟨kt,2,none⟩=some (.int .i64 N):=At_.2.1 2
 clear Ap At_;have hleV:Hz (B≤V.heap.size):=ζ hM.out.le;have Ap:=ζ (show At V kp #[.pointer (some ⟨a,0,none⟩),.pointer (some ⟨b,0,none⟩)]from hM.out.there (boxOb kp #[.pointer (some ⟨a,0,none⟩),.pointer (some ⟨b,0,none⟩)]) (by simp));clear p1 t2;obtain⟨lx,hX⟩:=hM.out.oneX;have hou:=ζ (touches_any B V a P s lx hX hol);clear hX;go_wp2_with fail;refine hou.out.mono ?_;rintro r V1 ⟨v,rfl,ho,hb⟩;obtain⟨j,jc,rfl⟩:=own_slZ ho;replace hM:=ζ (hM.out.add (rowOb B 67 3 (.slice j s.tc.length jc) s.tc.length (s.tc.flatMap Tc.vals)) (own_monoZ ho hM.out.le) (fun k q=>(ho.lt k q).1) hb);replace G:=ζ (G.out.trans (hb.mono hleV.out));replace hleV:Hz (B≤V1.heap.size):=ζ (Nat.le_trans hleV.out hb.size);replace Ap:=ζ (at_below Ap.out hb Ap.out.1);clear hb ho hou p0 t0;have p0:V1.cell? ⟨kp,0,none⟩=some (.pointer (some ⟨a,0,none⟩)):=Ap.out.2.1 0;obtain⟨lx,hX⟩:=hM.out.oneX;have hou:=ζ (touches_any B V1 a P s lx hX hol)
 clear hX;go_wp2_with fail;refine hou.out.mono ?_;rintro r V2 ⟨v,rfl,ho,hb⟩;obtain⟨k,kc,rfl⟩:=own_slZ ho;replace hM:=ζ (hM.out.add (rowOb B 67 3 (.slice k s.tc.length kc) s.tc.length (s.tc.flatMap Tc.vals)) (own_monoZ ho hM.out.le) (fun k q=>(ho.lt k q).1) hb);replace G:=ζ (G.out.trans (hb.mono hleV.out));replace hleV:Hz (B≤V2.heap.size):=ζ (Nat.le_trans hleV.out hb.size);replace Ap:=ζ (at_below Ap.out hb Ap.out.1);clear hb ho hou p0;obtain⟨hbl,_,ta,tk,c25,hwy⟩:=hM.out.youts;have p1:V2.cell? ⟨kp,1,none⟩=some (.pointer (some ⟨b,0,none⟩)):=Ap.out.2.1 1;have hr:V2.ownsRow B 67 3 (.slice j s.tc.length jc) s.tc.length (s.tc.flatMap Tc.vals):=hM.out.there (rowOb B 67 3 (.slice j s.tc.length jc) s.tc.length (s.tc.flatMap Tc.vals)) (by simp);obtain⟨va2,vc2,e2,hw2⟩:=own_tin hr rfl;injection e2 with e2 _ e3
 rw[←e2]at hw2;have hsm:=ζ (sameT_self s.tc j ta jc tk V2 hw2 hwy hol);clear hr e2 e3 hw2 hwy;go_wp2_with fail;refine hsm.out.mono ?_;rintro r V3 ⟨rfl,g⟩;replace hM:=ζ (hM.out.gr g.below);replace G:=ζ (G.out.trans (g.below.mono hleV.out));replace hleV:Hz (B≤V3.heap.size):=ζ (Nat.le_trans hleV.out g.below.size);replace Ap:=ζ (Ap.out.gr g);clear g hsm p1 hbl c25;obtain⟨hbl,_,ta,tk,c25,hwy⟩:=hM.out.youts;have p1:V3.cell? ⟨kp,1,none⟩=some (.pointer (some ⟨b,0,none⟩)):=Ap.out.2.1 1;have hr:V3.ownsRow B 67 3 (.slice k s.tc.length kc) s.tc.length (s.tc.flatMap Tc.vals):=hM.out.there (rowOb B 67 3 (.slice k s.tc.length kc) s.tc.length (s.tc.flatMap Tc.vals)) (by simp);obtain⟨va2,vc2,e2,hw2⟩:=own_tin hr rfl;injection e2 with e2 _ e3
 rw[←e2]at hw2;have hsm:=ζ (sameT_self s.tc k ta kc tk V3 hw2 hwy hol);clear hr e2 e3 hw2 hwy;go_wp2_with fail;refine hsm.out.mono ?_;rintro r V4 ⟨rfl,g⟩;replace hM:=ζ (hM.out.gr g.below);replace G:=ζ (G.out.trans (g.below.mono hleV.out));replace hleV:Hz (B≤V4.heap.size):=ζ (Nat.le_trans hleV.out g.below.size);replace Ap:=ζ (Ap.out.gr g);clear g hsm p1 hbl c25;replace hM:Hz (MD B V4 P a s b c s (bkO B kb wv tv rw rt++rowOb B 67 3 (.slice j s.tc.length jc) s.tc.length (s.tc.flatMap Tc.vals)::rowOb B 67 3 (.slice k s.tc.length kc) s.tc.length (s.tc.flatMap Tc.vals)::boxOb kt #[.int .i64 4,.int .i64 k1,.int .i64 N]::boxOb kp #[.pointer (some ⟨a,0,none⟩),.pointer (some ⟨b,0,none⟩)]::l)):=ζ (hM.out.permO (lst_perm _ _ _ _ _ _));have hkp:=ζ (md_touches B V4 P a s b c kb wv tv rw rt j s.tc.length jc (s.tc.flatMap Tc.vals) (rowOb B 67 3 (.slice k s.tc.length kc) s.tc.length (s.tc.flatMap Tc.vals)::boxOb kt #[.int .i64 4,.int .i64 k1,.int .i64 N]::boxOb kp #[.pointer (some ⟨a,0,none⟩),.pointer (some ⟨b,0,none⟩)]::l) hM.out (Nat.le_trans hol (by omega)) (by omega) (by omega))
 go_wp2_with fail;refine hkp.out.mono ?_;rintro r V5 ⟨rfl,tv1,rt1,e1,hM1,hb⟩;replace hM:=ζ hM1;replace G:=ζ (G.out.trans hb);replace hleV:Hz (B≤V5.heap.size):=ζ (Nat.le_trans hleV.out hb.size);replace Ap:=ζ (show At V5 kp #[.pointer (some ⟨a,0,none⟩),.pointer (some ⟨b,0,none⟩)]from hM.out.there (boxOb kp #[.pointer (some ⟨a,0,none⟩),.pointer (some ⟨b,0,none⟩)]) (by simp));clear hb hM1 hkp;obtain⟨hbl,_,ta,tk,c25,hwy⟩:=hM.out.youts;have p1:V5.cell? ⟨kp,1,none⟩=some (.pointer (some ⟨b,0,none⟩)):=Ap.out.2.1 1;have hr:V5.ownsRow B 67 3 (.slice k s.tc.length kc) s.tc.length (s.tc.flatMap Tc.vals):=hM.out.there (rowOb B 67 3 (.slice k s.tc.length kc) s.tc.length (s.tc.flatMap Tc.vals)) (by simp);obtain⟨va2,vc2,e2,hw2⟩:=own_tin hr rfl;injection e2 with e2 _ e3
 rw[←e2]at hw2;have hsm:=ζ (sameT_self s.tc k ta kc tk V5 hw2 hwy hol);clear hr e2 e3 hw2 hwy;go_wp2_with fail;refine hsm.out.mono ?_;rintro r V6 ⟨rfl,g⟩;replace hM:=ζ (hM.out.gr g.below);replace G:=ζ (G.out.trans (g.below.mono hleV.out));replace hleV:Hz (B≤V6.heap.size):=ζ (Nat.le_trans hleV.out g.below.size);replace Ap:=ζ (Ap.out.gr g);clear g hsm p1 hbl c25;have hkp:=ζ (md_touches B V6 P a s b c kb wv tv1 rw rt1 k s.tc.length kc (s.tc.flatMap Tc.vals) (boxOb kt #[.int .i64 4,.int .i64 k1,.int .i64 N]::boxOb kp #[.pointer (some ⟨a,0,none⟩),.pointer (some ⟨b,0,none⟩)]::l) hM.out (Nat.le_trans hol (by omega)) (by omega) (by omega));go_wp2_with fail;refine hkp.out.mono ?_;rintro r V7 ⟨rfl,tv2,rt2,e2,hM1,hb⟩;replace hM:=ζ hM1;replace G:=ζ (G.out.trans hb);replace hleV:Hz (B≤V7.heap.size):=ζ (Nat.le_trans hleV.out hb.size);replace Ap:=ζ (show At V7 kp #[.pointer (some ⟨a,0,none⟩),.pointer (some ⟨b,0,none⟩)]from hM.out.there (boxOb kp #[.pointer (some ⟨a,0,none⟩),.pointer (some ⟨b,0,none⟩)]) (by simp))
 clear hb hM1 hkp;replace hM:=ζ (hM.out.permO (lst_perm2 _ _ _ _)).drop.drop;go_wp2_with fail;go_ret;exact⟨rfl,tv2,rt2,by omega,hM.out,G.out⟩
structure PI (P:Pr)(n i:Nat)(s:Fm):Prop where
 okn:s.Okn P n
 vf:s.Vf
 mz:MZ s.m
 il:s.inp.length≤i
theorem PI.mono {P:Pr}{n i n' i':Nat}{s:Fm}(h:PI P n i s)(hn:n≤n')(hi:i≤i'):PI P n' i' s:=⟨h.okn.mono hn,h.vf,h.mz,Nat.le_trans h.il hi⟩
theorem inp_stepsC (P:Pr)(s:Fm):∀k,(stepsM P s k).inp.length≤s.inp.length
 |0=>Nat.le_refl _
 |k+1=>by
  have ih:=inp_stepsC P s k;have h1:=inp_step P (stepsM P s k);have e:stepsM P s (k+1)=stepsM P (stepsM P s k) 1:=by
   show(if(stepsM P s k).e=0 then stepM P (stepsM P s k)else stepsM P s k)=(if(stepsM P (stepsM P s k) 0).e=0 then stepM P (stepsM P (stepsM P s k) 0)else stepsM P (stepsM P s k) 0)
   rfl
  rw[e];omega
theorem PI.step {P:Pr}{n i:Nat}{s:Fm}(h:PI P n i s)(pok:P.Ok)(rr:P.Rr):PI P (n+1) i (stepsM P s 1):=⟨okn_stepsM P pok rr s n h.okn 1,stepsM_vf P s h.vf 1,mz_stepsM P s h.mz 1,Nat.le_trans (inp_stepsC P s 1) h.il⟩
theorem PI.run {P:Pr}{n i:Nat}{s:Fm}(h:PI P n i s)(pok:P.Ok)(rr:P.Rr)(k:Nat):PI P (n+k) i (runM P s k):=by
 refine⟨okn_runM P pok rr s n h.okn k,runM_vf P s h.vf k,?_,?_⟩
 ·have:=mz_stepsM P s h.mz k;unfold runM
  split<;>exact this
 ·have:=Nat.le_trans (inp_stepsC P s k) h.il;unfold runM
  split<;>exact this
theorem PI.give {P:Pr}{n i:Nat}{s:Fm}(h:PI P n i s)(hi:i≤3000000)(A:List Int)(hA:A.length≤12)(hw:∀x∈A,Wd x):PI P n (i+12) (giveM s A):=by
 have h1:=h.il;refine⟨okn_give h.okn A hw (by omega),giveM_vf h.vf A,?_,?_⟩
 ·have:=h.mz;unfold giveM
  split<;>exact this
 ·have:(giveM s A).inp=s.inp++A:=by unfold giveM;split<;>rfl
  rw[this,List.length_append];omega
def BkL (r r':List Value):Prop:=r'.length≤r.length+10∧r'.length%5=0
theorem turn_any (B:Nat)(W:World)(P:Pr)(a:Nat)(s:Fm)(b:Nat)(c:Dc)(kb:Nat)(wv tv:Value)(rw rt:List Value)(l:List Ob)(K k1 N:Int)(hN1: -9223372036854775808≤N)(hN2:N≤9223372036854775807)(h:MD B W P a s b c s (bkO B kb wv tv rw rt++l))(pok:P.Ok)(rr:P.Rr)(n i:Nat)(pi:PI P n i s)(hn:n≤800000)(hi:i≤2400000)(hpg:DPg B W c P)(hw:rw.length≤900000)(ht:rt.length≤900000)(h5w:rw.length%5=0)(h5t:rt.length%5=0):
 Calls Tryz.prog 9 #[.pointer (some ⟨kb,0,none⟩),.agg #[.pointer (some ⟨a,0,none⟩),.pointer (some ⟨b,0,none⟩)],.agg #[.int .i64 K,.int .i64 k1,.int .i64 N]] W fun x w'=>x=.returned (.bool true)∧∃s' wv' tv' rw' rt',PI P (n+100) (i+12) s'∧BkL rw rw'∧BkL rt rt'∧MD B w' P a s' b c s' (bkO B kb wv' tv' rw' rt'++l)∧Below B W w':=by
 have bw:BkL rw rw:=⟨by omega,h5w⟩;have bt:BkL rt rt:=⟨by omega,h5t⟩;have pi0:PI P (n+100) (i+12) s:=pi.mono (by omega) (by omega);by_cases e1:K=1
 ·subst e1;refine(turn1 B W P a s b c _ kb k1 N h pok rr n pi.okn hn pi.vf hpg _ rfl).mono ?_;rintro x w' ⟨e,hM,hb⟩;exact⟨e,_,wv,tv,rw,rt,(pi.step pok rr).mono (by omega) (by omega),bw,bt,hM,hb⟩
 by_cases e2:K=2
 ·subst e2;refine(turn2 B W P a s b c _ kb k1 N h pok rr n pi.okn hn pi.vf hpg _ rfl).mono ?_;rintro x w' ⟨e,hM,hb⟩;have ht:=tmod_100 N;exact⟨e,_,wv,tv,rw,rt,(pi.run pok rr (min (Int.tmod N 100) 100000).toNat).mono (by omega) (by omega),bw,bt,hM,hb⟩
 by_cases e3:K=3
 ·subst e3;refine(turn3 B W P a s b c kb wv tv rw rt l k1 N h (Nat.le_trans pi.okn.ol (by omega)) hw h5w).mono ?_;rintro x w' ⟨e,wv',rw',hl,hM,hb⟩;exact⟨e,s,wv',tv,rw',rt,pi0,⟨by omega,by omega⟩,bt,hM,hb⟩
 by_cases e4:K=4
 ·subst e4;refine(turn4 B W P a s b c kb wv tv rw rt l k1 N h (Nat.le_trans pi.okn.tl (by omega)) ht h5t).mono ?_;rintro x w' ⟨e,tv',rt',hl,hM,hb⟩;exact⟨e,s,wv,tv',rw,rt',pi0,bw,⟨by omega,by omega⟩,hM,hb⟩
 by_cases e5:K=5
 ·subst e5;refine(turn5 B W P a s b c _ kb k1 N h).mono ?_;rintro x w' ⟨e,hM,hb⟩;exact⟨e,s,wv,tv,rw,rt,pi0,bw,bt,hM,hb⟩
 by_cases e6:K=6
 ·subst e6;refine(turn6 B W P a s b c _ kb k1 N h).mono ?_;rintro x w' ⟨e,hM,hb⟩;exact⟨e,s,wv,tv,rw,rt,pi0,bw,bt,hM,hb⟩
 by_cases e8:K=8
 ·subst e8;refine(turn8 B W P a s b c _ kb k1 N h hN1 hN2 (Nat.le_trans pi.il hi)).mono ?_;rintro x w' ⟨e,A,hA1,hA2,hM,hb⟩;exact⟨e,_,wv,tv,rw,rt,(pi.give (by omega) A hA1 hA2).mono (by omega) (Nat.le_refl _),bw,bt,hM,hb⟩
 ·refine(turn0 B W P a s b c _ kb K k1 N h (by simpa using e1) (by simpa using e2) (by simpa using e3) (by simpa using e4) (by simpa using e5) (by simpa using e6) (by simpa using e8)).mono ?_;rintro x w' ⟨e,hM,hb⟩;exact⟨e,s,wv,tv,rw,rt,pi0,bw,bt,hM,hb⟩
section
variable {B:Nat} {W W':World} {m:List Pq} {l:List Ob}
theorem PS.addx {P:Pr}{a2:Nat}{s:Fm}(h:PS B W m l)(hM:MIn W.heap.size W' a2 P s [])(hb:Below W.heap.size W W'):∃q,PS B W' m (obs B a2 P s q++l):=by
 obtain⟨L,h1,h2,h3⟩:=h;obtain⟨q,h4⟩:=sep_both h2 h3 hM hb;exact⟨q,L,h1.below (hb.mono h3) _ _,sep_perm h4 (List.perm_append_comm_assoc _ _ _),Nat.le_trans h3 hb.size⟩
theorem PS.addy {p:Pq}{a2 k:Nat}{q:Pt}{q2:Dq}{L:List Ob}(hD:DIo B W' p.b p.c p.P p.s p.s.g p.s.p (dobs B k p.c p.P p.s q2 p.s.g p.s.p++giOb B q2.iv p.s.inp::L))(hi:∃ia ic,q2.iv=.slice ia p.s.inp.length ic∧LgIn B W' ia ic p.s.inp){qx:Pt}{L1:List Ob}(hL:L=obs B p.a p.P p.s qx++(L1++(obs B a2 p.P p.s q++l)))(h1:Prs B W m L1)(hb:Below B W W'):PS B W' (⟨a2,k,p.c,p.P,p.s⟩::p::m) l:=by
 obtain⟨⟨qd,h2,ia,ic,e,h3⟩,le⟩:=hD;subst hL;refine⟨_,⟨q,q2,_,rfl,hi,qx,qd,L1,rfl,⟨ia,ic,e,h3⟩,h1.below hb _ _⟩,sep_perm h2 ?_,le⟩;have e1:∀(D G X L1 Q E H l:List Ob),(D++(G++(E++(H++(X++(L1++(Q++l))))))).Perm (Q++(E++(H++(X++(D++(G++(L1++l))))))):=fun D G X L1 Q E H l=>by
  have h1:(D++(G++(E++(H++(X++(L1++(Q++l))))))).Perm ((D++(G++(E++(H++(X++L1)))))++(Q++l)):=by simp
  refine h1.trans ((List.perm_append_comm_assoc _ _ _).trans (List.Perm.append_left _ ?_));have h2:((D++(G++(E++(H++(X++L1)))))++l).Perm ((D++G)++((E++(H++X))++(L1++l))):=by simp
  refine h2.trans ((List.perm_append_comm_assoc _ _ _).trans ?_);simp
 have:=e1 (dobs B p.b p.c p.P p.s qd p.s.g p.s.p) [giOb B qd.iv p.s.inp] (obs B p.a p.P p.s qx) L1 (obs B a2 p.P p.s q) (dobs B k p.c p.P p.s q2 p.s.g p.s.p) [giOb B q2.iv p.s.inp] l;simpa using this
theorem ycopy_any (p:Pq)(a2:Nat)(mem:ByteArray)(hpm:p.c.pm=.string mem)(qx:Pt)(h:PS B W (p::m) (obs B a2 p.P p.s qx++l))(hst:p.s.st.length≤3000000)(hil:p.s.inp.length≤2500000)(hol:p.s.out.length≤3000000)(htl:p.s.tc.length≤3000000):
 Calls Tryz.prog 8 #[.pointer (some ⟨p.b,0,none⟩)] W fun x w'=>∃k,x=.returned (.pointer (some ⟨k,0,none⟩))∧PS B w' (⟨a2,k,p.c,p.P,p.s⟩::p::m) l∧Below B W w':=by
 obtain⟨L,⟨q,q2,L1,rfl,hi,h1⟩,h2,h3⟩:=h;have hD:DIo B W p.b p.c p.P p.s p.s.g p.s.p (obs B p.a p.P p.s q++(L1++(obs B a2 p.P p.s qx++l))):=by
  obtain⟨ia,ic,e,hl⟩:=hi;refine⟨⟨q2,sep_perm h2 ?_,ia,ic,e,hl⟩,h3⟩;have:=(gi_perm (dobs B p.b p.c p.P p.s q2 p.s.g p.s.p) (obs B p.a p.P p.s q) (L1++(obs B a2 p.P p.s qx++l)) (giOb B q2.iv p.s.inp)).symm;simpa using this
 refine(dcopy_any B W p.b p.c p.P p.s _ mem hpm hD hst hil hol htl).mono ?_;rintro x w' ⟨k,q3,rfl,hD2,hi2,hb⟩;exact⟨k,rfl,PS.addy hD2 hi2 rfl h1 hb,hb⟩
theorem PS.book (h:PS B W m l)(ty:TypeId):PS B (W.alloc (.cells #[.slice none 0 0,.slice none 0 0] ty)) m (bkO B W.heap.size (.slice none 0 0) (.slice none 0 0) [] []++l)∧Below B W (W.alloc (.cells #[.slice none 0 0,.slice none 0 0] ty)):=by
 obtain⟨h1,hb⟩:=h.new #[.slice none 0 0,.slice none 0 0] ty;have r0:=Below.refl (W.alloc (.cells #[.slice none 0 0,.slice none 0 0] ty)).heap.size (W.alloc (.cells #[.slice none 0 0,.slice none 0 0] ty));have h2:=h1.add (lsOb B 67 3 mT []) (fun i hi=>absurd hi (Nat.not_lt_zero _)) (fun k q=>by obtain⟨v,hv,_⟩:=q;cases hv) r0;have h3:=h2.add (lsOb B 51 1 mW []) (fun i hi=>absurd hi (Nat.not_lt_zero _)) (fun k q=>by obtain⟨v,hv,_⟩:=q;cases hv) r0;have h4:=h3.add (rowOb B 64 1 (.slice none 0 0) 0 []) (World.ownsRow_nil _ _ _ _) (fun k q=>by have:(none:Option Nat)=some k:=q;cases this) r0;have h5:=h4.add (rowOb B 26 1 (.slice none 0 0) 0 []) (World.ownsRow_nil _ _ _ _) (fun k q=>by have:(none:Option Nat)=some k:=q;cases this) r0;refine⟨h5.permO ?_,hb⟩;exact List.perm_middle (l₁:=[rowOb B 26 1 (.slice none 0 0) 0 [],rowOb B 64 1 (.slice none 0 0) 0 [],lsOb B 51 1 mW [],lsOb B 67 3 mT []])
end
open B (mks row_cell own_marks)
theorem perm_rot (x L:List Ob)(r:Ob):(x++r::L).Perm (L++r::x):=by
 have q:(x++([r]++L)).Perm (L++([r]++x)):=(List.perm_append_comm_assoc x [r] L).trans ((List.Perm.append_left [r] List.perm_append_comm).trans (List.perm_append_comm_assoc [r] L x));simpa using q
def Pq.vals (p:Pq):List Value:=[.pointer (some ⟨p.a,0,none⟩),.pointer (some ⟨p.b,0,none⟩)]
theorem pqv_len (p:Pq):p.vals.length=2:=rfl
theorem pqv_set (s':Fm):∀(m:List Pq) (k:Nat) (hk:k<m.length),(m.set k (m[k].st s')).flatMap Pq.vals=m.flatMap Pq.vals
 |_::_,0,_=>rfl
 |p::r,k+1,hk=>by
  have ih:=pqv_set s' r k (by simpa using hk);simp only[List.set_cons_succ,List.flatMap_cons,List.getElem_cons_succ];rw[ih]
structure PQ (B:Nat)(W:World)(n:Nat)(p:Pq):Prop where
 ok:p.P.Ok
 rr:p.P.Rr
 pg:DPg B W p.c p.P
 pi:PI p.P (n*100) (1100000+n*12) p.s
 pm:∃mm,p.c.pm=.string mm
theorem PQ.below {B n n':Nat}{W W':World}{p:Pq}(h:PQ B W n p)(hb:Below B W W')(hn:n≤n'):PQ B W' n' p:=⟨h.ok,h.rr,h.pg.below hb,h.pi.mono (by omega) (by omega),h.pm⟩
structure Al (B:Nat)(W:World)(n kb:Nat)(m:List Pq)(pa:Option Addr)(pc:Nat)(wv tv:Value)(rw rt:List Value):Prop where
 ps:PS B W m (rowOb B 41 2 (.slice pa m.length pc) m.length (m.flatMap Pq.vals)::bkO B kb wv tv rw rt)
 pq:∀p∈m,PQ B W n p
 le:1≤m.length∧m.length≤5
 bw:rw.length≤n*10∧rw.length%5=0
 bt:rt.length≤n*10∧rt.length%5=0
section
variable {B:Nat} {W W':World} {n kb:Nat} {m:List Pq} {pa:Option Addr} {pc:Nat} {wv tv:Value} {rw rt:List Value}
theorem Al.gr (h:Al B W n kb m pa pc wv tv rw rt)(hb:Below W.heap.size W W'):Al B W' n kb m pa pc wv tv rw rt:=⟨h.ps.gr hb,fun p hp=>(h.pq p hp).below (hb.mono h.ps.le) (Nat.le_refl _),h.le,h.bw,h.bt⟩
theorem Al.mono (h:Al B W n kb m pa pc wv tv rw rt):Al B W (n+1) kb m pa pc wv tv rw rt:=⟨h.ps,fun p hp=>(h.pq p hp).below (Below.refl _ _) (by omega),h.le,⟨by have:=h.bw;omega,h.bw.2⟩,⟨by have:=h.bt;omega,h.bt.2⟩⟩
theorem Al.row (h:Al B W n kb m pa pc wv tv rw rt)(k:Nat)(hk:k<m.length):∃g,pa=some ⟨g,0,none⟩∧g<W.heap.size∧W.rangeAt g (k*2) m[k].vals:=by
 have ho:W.ownsRow B 41 2 (.slice pa m.length pc) m.length (m.flatMap Pq.vals):=h.ps.there (rowOb B 41 2 (.slice pa m.length pc) m.length (m.flatMap Pq.vals)) (by simp);obtain⟨g,rfl⟩:=own_form ⟨_,ho⟩ (by omega);refine⟨g,rfl,(ho.lt g rfl).2,fun j u e=>?_⟩;have hj:j<2:=by have:=(List.getElem?_eq_some_iff.1 e).1;exact this
 have hf:=flat_at' (f:=Pq.vals) pqv_len m k hk j hj;exact row_cell ho _ u (by rw[hf];exact e)
theorem al_turn (h:Al B W n kb m pa pc wv tv rw rt)(hn:n≤120)(k:Nat)(hk:k<m.length)(K k1 N:Int)(hN1: -9223372036854775808≤N)(hN2:N≤9223372036854775807):
 Calls Tryz.prog 9 #[.pointer (some ⟨kb,0,none⟩),.agg m[k].vals.toArray,.agg #[.int .i64 K,.int .i64 k1,.int .i64 N]] W fun x w'=>x=.returned (.bool true)∧∃m' wv' tv' rw' rt',List.length m'=m.length∧Al B w' (n+1) kb m' pa pc wv' tv' rw' rt'∧Below B W w':=by
 obtain⟨L,h1,h2⟩:=h.ps.at k hk;have hq:=h.pq _ (List.getElem_mem hk);have hbw:=h.bw;have hbt:=h.bt;have h3:MD B W m[k].P m[k].a m[k].s m[k].b m[k].c m[k].s (bkO B kb wv tv rw rt++(rowOb B 41 2 (.slice pa m.length pc) m.length (m.flatMap Pq.vals)::L)):=h1.permO (perm_rot _ _ _);refine(turn_any B W m[k].P m[k].a m[k].s m[k].b m[k].c kb wv tv rw rt _ K k1 N hN1 hN2 h3 hq.ok hq.rr (n*100) (1100000+n*12) hq.pi (by omega) (by omega) hq.pg (by omega) (by omega) hbw.2 hbt.2).mono ?_;rintro x w' ⟨e,s',wv',tv',rw',rt',hpi,b1,b2,hM,hb⟩;have hl:(m.set k (m[k].st s')).length=m.length:=by simp
 refine⟨e,m.set k (m[k].st s'),wv',tv',rw',rt',hl,⟨?_,fun p hp=>?_,by rw[hl];exact h.le,⟨by have:=b1.1;omega,b1.2⟩,⟨by have:=b2.1;omega,b2.2⟩⟩,hb⟩
 ·rw[hl,pqv_set];exact h2 w' s' _ (hM.permO (perm_rot _ _ _)) hb
 ·rcases List.mem_or_eq_of_mem_set hp with q|q
  ·exact(h.pq p q).below hb (by omega)
  ·subst q;exact⟨hq.ok,hq.rr,hq.pg.below hb,hpi.mono (by show n*100+100≤(n+1)*100;omega) (by omega),hq.pm⟩
theorem al_still (h:Al B W n kb m pa pc wv tv rw rt)(hn:n≤1000):Calls Tryz.prog 10 #[.pointer (some ⟨kb,0,none⟩)] W fun x w'=>x=.returned (.bool true)∧w'=W:=by
 obtain⟨L,h1,h2,h3⟩:=h.ps;have hbw:=h.bw;have hbt:=h.bt;refine bstill_any B kb wv tv rw rt (rowOb B 41 2 (.slice pa m.length pc) m.length (m.flatMap Pq.vals)::L) W (sep_perm h2 (perm_rot _ _ _)) (by omega) (by omega)
end
end Z
end Go.Proofs.YtdidjhillmgccaaGreat
