import Derived.Deep.DeepCutAuto
import Derived.Test.YtdidjhillmgccaaGreatP43
namespace Go.Proofs.YtdidjhillmgccaaGreat
set_option maxRecDepth 100000
set_option maxHeartbeats 40000000
namespace Z
open Go.RowKit
open T (Sep Ob Kp Mf FlIn boxOb)
theorem walk_FastvmAll (R:Rp)(ca ga:Option Addr)(cc gc:Nat)(mem:List UInt8)(gate:Int)(A:List Int)(sa:Option Addr)(sc:Nat)(ia:Option Addr)(ic:Nat)(L:List Int)(R2:Rp)(ca2 ga2:Option Addr)(cc2 gc2:Nat)(mem2:List UInt8)(TS:List Tn)(ta:Option Addr)(tc:Nat)(w:World)(hb:Bgn w R ca ga mem A sa ia ic L)(hb2:Bgn w R2 ca2 ga2 mem2 A sa ia ic L)(hcap:∀a,ia=some a→L.length≤ic)(hAl:A.length≤2000000)(hL1:L.length≤1100000)(hT:T.EIn 3 Tn.vals w ta TS)(hTr:∀t∈TS,(-9223372036854775808≤t.n∧t.n≤9223372036854775807)∧ -9223372036854775808≤t.w∧t.w≤9223372036854775807):
 Calls Tryz.prog 3 #[.agg #[.slice ca R.code.length cc,.slice ga R.gates.length gc,.string (T.str mem),.int .i64 R.dep],.agg #[.slice ca2 R2.code.length cc2,.slice ga2 R2.gates.length gc2,.string (T.str mem2),.int .i64 R2.dep],.int .i64 gate,.slice sa A.length sc,.slice ia L.length ic,.slice ta TS.length tc] w fun x w'=>x=.returned (.bool true)∧Below w.heap.size w w':=by
 replace hb:=ζ hb;replace hb2:=ζ hb2;replace hcap:=ζ hcap;have hTw:Hz (∀X,Below w.heap.size w X→T.EIn 3 Tn.vals X ta TS):=ζ (fun X q=>hT.below q);replace hTr:=ζ hTr;clear hT;by_cases hok:R.Ok mem.length∧0≤gate;rotate_left
 ·have hno:=ζ hok;clear hok;go_enter Tryz.func3,Tryz.ntmps3;go_upto_region 1 with fail
  refine wp_world (fun W=>At W w.heap.size #[.slice ca R.code.length cc,.slice ga R.gates.length gc,.string (T.str mem),.int .i64 R.dep]∧At W (w.heap.size+1) #[.slice ca2 R2.code.length cc2,.slice ga2 R2.gates.length gc2,.string (T.str mem2),.int .i64 R2.dep]∧Gr w W) ⟨(At.new w _ _).alloc _,At.at_ _ _ _ (by simp),((Gr.refl _).alloc _).alloc _⟩ ?_;rintro W ⟨hQ,hQ2,G0⟩;have G:=ζ G0.below;obtain⟨k6,hk6⟩:∃k,w.heap.size=k:=⟨_,rfl⟩;obtain⟨k7,hk7⟩:∃k,w.heap.size+1=k:=⟨_,rfl⟩;rw[hk7]at hQ2 ⊢;rw[hk6]at hQ ⊢;replace hQ:=ζ hQ;replace hQ2:=ζ hQ2;clear G0;go_wp2_with fail;refine(examples_any W).mono ?_;rintro r V1 ⟨rfl,hB⟩;replace hQ:=ζ (at_below hQ.out hB hQ.out.1);replace hQ2:=ζ (at_below hQ2.out hB hQ2.out.1);replace G:=ζ (G.out.trans (hB.mono G.out.size));clear hB;have d0:V1.cell? ⟨k6,0,none⟩=some (.slice ca R.code.length cc):=hQ.out.2.1 0;have d1:V1.cell? ⟨k6,1,none⟩=some (.slice ga R.gates.length gc):=hQ.out.2.1 1
  have d2:V1.cell? ⟨k6,2,none⟩=some (.string (T.str mem)):=hQ.out.2.1 2;have d3:V1.cell? ⟨k6,3,none⟩=some (.int .i64 R.dep):=hQ.out.2.1 3;have hent:=ζ (ent_no R ca ga cc gc mem gate A sa sc V1 (hb.out.below G.out).hP (hb.out.below G.out).hA hAl hno.out);go_wp2_with fail;refine hent.out.mono ?_;rintro r V2 ⟨g,A2,va,vc,rfl,hWa,hA2,hn2,hB⟩;clear d0 d1 d2 d3 hent;replace hQ:=ζ (at_below hQ.out hB hQ.out.1);replace G:=ζ (G.out.trans (hB.mono G.out.size));clear hB;have d0:V2.cell? ⟨k6,0,none⟩=some (.slice ca R.code.length cc):=hQ.out.2.1 0;have d1:V2.cell? ⟨k6,1,none⟩=some (.slice ga R.gates.length gc):=hQ.out.2.1 1;have d2:V2.cell? ⟨k6,2,none⟩=some (.string (T.str mem)):=hQ.out.2.1 2;have d3:V2.cell? ⟨k6,3,none⟩=some (.int .i64 R.dep):=hQ.out.2.1 3;have hmd:=ζ (made_no70 R ca ga cc gc mem g A2 va vc ia ic L V2 (hb.out.below G.out).hP hb.out.wd.code hWa hA2 (hb.out.below G.out).hI hb.out.c hb.out.r hb.out.g hb.out.l hn2)
  clear hn2;go_wp2_with fail;refine hmd.out.mono ?_;rintro r V3 ⟨rfl,hB⟩;replace G:=ζ (G.out.trans (hB.mono G.out.size));clear d0 d1 d2 d3 hmd hB;go_wp2_with fail;go_ret;exact⟨rfl,by first|exact G.out|(rw[←hk6];exact G.out)⟩
 obtain⟨ok,h0⟩:=hok;replace ok:=ζ ok;go_enter Tryz.func3,Tryz.ntmps3;go_upto_region 1 with fail;refine wp_world (fun W=>At W w.heap.size #[.slice ca R.code.length cc,.slice ga R.gates.length gc,.string (T.str mem),.int .i64 R.dep]∧At W (w.heap.size+1) #[.slice ca2 R2.code.length cc2,.slice ga2 R2.gates.length gc2,.string (T.str mem2),.int .i64 R2.dep]∧Gr w W) ⟨(At.new w _ _).alloc _,At.at_ _ _ _ (by simp),((Gr.refl _).alloc _).alloc _⟩ ?_;rintro W ⟨hQ,hQ2,G0⟩;have G:=ζ G0.below;obtain⟨k6,hk6⟩:∃k,w.heap.size=k:=⟨_,rfl⟩;obtain⟨k7,hk7⟩:∃k,w.heap.size+1=k:=⟨_,rfl⟩;rw[hk7]at hQ2 ⊢;rw[hk6]at hQ ⊢;replace hQ:=ζ hQ;replace hQ2:=ζ hQ2;clear G0;go_wp2_with fail;refine(examples_any W).mono ?_;rintro r V1 ⟨rfl,hB⟩;replace hQ:=ζ (at_below hQ.out hB hQ.out.1);replace hQ2:=ζ (at_below hQ2.out hB hQ2.out.1);replace G:=ζ (G.out.trans (hB.mono G.out.size));clear hB;have d0:V1.cell? ⟨k6,0,none⟩=some (.slice ca R.code.length cc):=hQ.out.2.1 0
 have d1:V1.cell? ⟨k6,1,none⟩=some (.slice ga R.gates.length gc):=hQ.out.2.1 1;have d2:V1.cell? ⟨k6,2,none⟩=some (.string (T.str mem)):=hQ.out.2.1 2;have d3:V1.cell? ⟨k6,3,none⟩=some (.int .i64 R.dep):=hQ.out.2.1 3;have hent:=ζ (ent_ok R ca ga cc gc mem gate A sa sc V1 (hb.out.below G.out).hP (hb.out.below G.out).hA ok.out h0);go_wp2_with fail;refine hent.out.mono ?_;rintro r V2 ⟨va,vc,rfl,hWa,hB⟩;clear d0 d1 d2 d3 hent;replace hQ:=ζ (at_below hQ.out hB hQ.out.1);replace hQ2:=ζ (at_below hQ2.out hB hQ2.out.1);replace G:=ζ (G.out.trans (hB.mono G.out.size));clear hB;have hbV:=ζ (hb.out.below G.out);have hb2V:=ζ (hb2.out.below G.out);have hwB:Hz (∀X,Below V2.heap.size V2 X→WIn X va (entL A (aNo R gate))):=ζ (fun X q=>hWa.below q);have hqB:Hz (∀X,Below V2.heap.size V2 X→At X k6 #[.slice ca R.code.length cc,.slice ga R.gates.length gc,.string (T.str mem),.int .i64 R.dep]):=ζ (fun X q=>at_below hQ.out q hQ.out.1)
 have hqC:Hz (∀X,Below V2.heap.size V2 X→At X k7 #[.slice ca2 R2.code.length cc2,.slice ga2 R2.gates.length gc2,.string (T.str mem2),.int .i64 R2.dep]):=ζ (fun X q=>at_below hQ2.out q hQ2.out.1);have hTs:Hz (∀X,Below V2.heap.size V2 X→T.EIn 3 Tn.vals X ta TS):=ζ (fun X q=>(hTw.out V2 G.out).below q);have hwle:Hz (w.heap.size≤V2.heap.size):=ζ G.out.size;have d0:V2.cell? ⟨k6,0,none⟩=some (.slice ca R.code.length cc):=hQ.out.2.1 0;have d1:V2.cell? ⟨k6,1,none⟩=some (.slice ga R.gates.length gc):=hQ.out.2.1 1;have d2:V2.cell? ⟨k6,2,none⟩=some (.string (T.str mem)):=hQ.out.2.1 2;have d3:V2.cell? ⟨k6,3,none⟩=some (.int .i64 R.dep):=hQ.out.2.1 3;have hmd:=ζ (made_st0 R ca ga cc gc mem gate A va vc ia ic L V2 hbV.out.hP hbV.out.wd.code hWa hbV.out.hI hbV.out.c hbV.out.r hbV.out.g hbV.out.l hcap.out ok.out);go_wp2_with fail;refine hmd.out.mono ?_;rintro r V3 ⟨a,b,rfl,hM,hpg,hB⟩;have hG:=ζ hB;have hps:=ζ (PS.one hM)
 replace hpg:=ζ hpg;clear d0 d1 d2 d3 hmd hB hM hQ hQ2 hWa;obtain⟨s0,hs0⟩:∃s,st0 R gate A L mem=s:=⟨_,rfl⟩;have hpi:Hz (PI R.pr (0*100) (1100000+0*12) s0):=ζ (by rw[←hs0];exact⟨(hbV.out.okn ok.out gate).mono (by omega),st0_vf R gate A L mem,mz_st0 R gate A L mem,(show L.length≤_ by omega)⟩);rw[hs0]at hps;clear hs0;go_upto_region 9 with fail
 refine wp_world (fun X=>∃k,k=V3.heap.size∧PS V2.heap.size X [⟨a,b,⟨ca,ga,cc,gc,.string (T.str mem)⟩,R.pr,s0⟩] (bkO V2.heap.size k (.slice none 0 0) (.slice none 0 0) [] []++[])∧Below V2.heap.size V3 X) ⟨_,rfl,hps.out.book _⟩ ?_;rintro V4 ⟨kb,hkb,hp4,hB⟩;rw[←hkb];clear hkb hps;replace hp4:=ζ hp4;replace hG:=ζ (hG.out.trans hB);replace hpg:=ζ (hpg.out.below hB);clear hB;go_upto_region 11 with fail
 refine wp_world (fun X=>∃k,k=V4.heap.size∧PS V2.heap.size X [⟨a,b,⟨ca,ga,cc,gc,.string (T.str mem)⟩,R.pr,s0⟩] (rowOb V2.heap.size 41 2 (.slice (some ⟨k,0,none⟩) 1 1) 1 ([(⟨a,b,⟨ca,ga,cc,gc,.string (T.str mem)⟩,R.pr,s0⟩:Pq)].flatMap Pq.vals)::(bkO V2.heap.size kb (.slice none 0 0) (.slice none 0 0) [] []++[]))∧Below V2.heap.size V4 X) ⟨_,rfl,hp4.out.row1⟩ ?_;rintro V5 ⟨kr,hkr,hp5,hB⟩;rw[←hkr];clear hkr hp4;replace hG:=ζ (hG.out.trans hB);replace hpg:=ζ (hpg.out.below hB);have hA:Hz (Al V2.heap.size V5 0 kb [⟨a,b,⟨ca,ga,cc,gc,.string (T.str mem)⟩,R.pr,s0⟩] (some ⟨kr,0,none⟩) 1 (.slice none 0 0) (.slice none 0 0) [] []):=ζ ⟨by simpa using hp5,fun q hq=>by
  rw[List.mem_singleton.1 hq];exact⟨ok.out.pr hbV.out.wd.code,hbV.out.wd.rr,hpg.out,hpi.out,⟨_,rfl⟩⟩,⟨by simp,by simp⟩,⟨by decide,rfl⟩,⟨by decide,rfl⟩⟩
 clear hp5 hB hpg hpi;go_loopw [20,21] (fun v x wr=>∃(i:Nat) (m:List Pq) (pa:Option Addr) (pc:Nat) (wv tv:Value) (rw rt:List Value),v=.slice pa m.length pc∧x=.int .i64 i∧i≤TS.length∧i≤120∧Hz (Al V2.heap.size wr i kb m pa pc wv tv rw rt)∧Hz (Below V2.heap.size V2 wr)) (fun _ x _=>120 - (intOf x).toNat)
 case atStart=>exact⟨0,[⟨a,b,⟨ca,ga,cc,gc,.string (T.str mem)⟩,R.pr,s0⟩],some ⟨kr,0,none⟩,1,.slice none 0 0,.slice none 0 0,[],[],rfl,rfl,Nat.zero_le _,Nat.zero_le _,hA,hG⟩
 case round=>
  clear hA hG;obtain⟨i,m,pa,pc,wv,tv,rw,rt,rfl,rfl,hi,hi120,hA,hG⟩:=hrel;have hml:=hA.out.le;by_cases hin:i<TS.length
  ·have hi1:(i:Int)<(TS.length:Int):=by omega
   by_cases hi12:i<120
   ·have hi2:(i:Int)<120:=by omega
    obtain⟨tb,tof,eta,htb,htc⟩:=hTs.out wr hG.out i hin;have z0:wr.cell? ⟨tb,tof+i*3,none⟩=some (.int .i64 TS[i].k):=htc 0 _ rfl;have z1:wr.cell? ⟨tb,tof+i*3+1,none⟩=some (.int .i64 TS[i].w):=htc 1 _ rfl;have z2:wr.cell? ⟨tb,tof+i*3+2,none⟩=some (.int .i64 TS[i].n):=htc 2 _ rfl;obtain⟨⟨r1,r2⟩,r3,r4⟩:=hTr.out TS[i] (List.getElem_mem hin);generalize TS[i].k=tK at*;generalize TS[i].w=tW at*;generalize TS[i].n=tN at*;subst eta;go_upto_region 14 with fail;refine wp_world (fun X=>∃k,k=wr.heap.size∧At X k #[.int .i64 tK,.int .i64 tW,.int .i64 tN]∧Gr wr X) ?_ ?_
    ·first|exact⟨_,rfl,At.new wr _ _,(Gr.refl _).alloc _⟩|exact⟨_,rfl,At.setAll (At.new wr _ _) _ rfl,Gr.setCells ((Gr.refl wr).alloc _) _ (Nat.le_refl _) _ 0⟩
    rintro V ⟨kt,hkt,hAt,g⟩;rw[←hkt];clear hkt z0 z1 z2 htc;replace hA:=ζ (hA.out.gr g.below);replace hG:=ζ (hG.out.trans (g.below.mono hG.out.size));replace hleV:Hz (V2.heap.size≤V.heap.size):=ζ hG.out.size;replace hAt:=ζ hAt;clear g;have t0:V.cell? ⟨kt,0,none⟩=some (.int .i64 tK):=hAt.out.2.1 0;have t1:V.cell? ⟨kt,1,none⟩=some (.int .i64 tW):=hAt.out.2.1 1;by_cases h7:tK=7∧m.length<4
    ·obtain⟨h7a,h7b⟩:=h7;have h7c:(tK==7)=true:=by simpa using h7a
     have h7d:(m.length:Int)<4:=by omega
     have d0:V.cell? ⟨k6,0,none⟩=some (.slice ca R.code.length cc):=(hqB.out V hG.out).2.1 0;have d1:V.cell? ⟨k6,1,none⟩=some (.slice ga R.gates.length gc):=(hqB.out V hG.out).2.1 1;have d2:V.cell? ⟨k6,2,none⟩=some (.string (T.str mem)):=(hqB.out V hG.out).2.1 2;have d3:V.cell? ⟨k6,3,none⟩=some (.int .i64 R.dep):=(hqB.out V hG.out).2.1 3;go_upto_region 16 with fail
     refine wp_world (fun X=>∃k,k=V.heap.size∧At X k #[.slice ca R.code.length cc,.slice ga R.gates.length gc,.string (T.str mem),.int .i64 R.dep]∧Gr V X) ?_ ?_
     ·first|exact⟨_,rfl,At.new V _ _,(Gr.refl _).alloc _⟩|exact⟨_,rfl,At.setAll (At.new V _ _) _ rfl,Gr.setCells ((Gr.refl V).alloc _) _ (Nat.le_refl _) _ 0⟩
     rintro X1 ⟨kq,hkq,hAq,gq⟩;rw[←hkq];have hkq2:Hz (V.heap.size≤kq):=ζ (by omega);have t2:X1.cell? ⟨kt,2,none⟩=some (.int .i64 tN):=(T.cell_of_block (gq.below.block kt hAt.out.1) _).trans (hAt.out.2.1 2);clear d0 d1 d2 d3 hkq;have hAV:=hA;have hGV:=hG;replace hA:=ζ (hA.out.gr gq.below);replace hG:=ζ (hG.out.trans (gq.below.mono hG.out.size));replace hleV:Hz (V2.heap.size≤X1.heap.size):=ζ hG.out.size;replace hAq:=ζ hAq;replace gq:=ζ gq;by_cases hev:Int.tmod tN 2=0
     ·clear gq hAV hGV;have hev2:(Int.tmod tN 2 != 0)=false:=by simp[hev]
      have hw2:wrap64 (Int.tmod tN 2)=Int.tmod tN 2:=by rw[hev];unfold wrap64;omega
      have hw3:IntKind.i64.wrap (Int.tmod tN 2)=Int.tmod tN 2:=by rw[hev];rfl
      have d0:X1.cell? ⟨kq,0,none⟩=some (.slice ca R.code.length cc):=hAq.out.2.1 0;have d1:X1.cell? ⟨kq,1,none⟩=some (.slice ga R.gates.length gc):=hAq.out.2.1 1;have d2:X1.cell? ⟨kq,2,none⟩=some (.string (T.str mem)):=hAq.out.2.1 2;have d3:X1.cell? ⟨kq,3,none⟩=some (.int .i64 R.dep):=hAq.out.2.1 3;have hmd:=ζ (al_made R ca ga cc gc mem gate A va vc ia ic L V2 hbV.out hcap.out ok.out hL1 hG.out (hwB.out X1 hG.out) hA.out (by omega));go_wp2_with fail;refine hmd.out.mono ?_;rintro r X2 ⟨xa,xb,xs,rfl,hP,hB⟩;replace hP:=ζ hP;replace hG:=ζ (hG.out.trans (hB.mono hG.out.size));replace hleV:Hz (V2.heap.size≤X2.heap.size):=ζ hG.out.size;clear hmd hB hA;clear d0 d1 d2 d3 hev hev2 hw2 hw3 t2;go_upto_region 25 with fail
      refine wp_region_lit ?_;iterate 4 (refine xp fun K hK=>?_;go_simp;with_reducible refine hK _ _ ?_;clear hK K;(try simp only[xap]))
      refine xp fun K hK=>?_
      refine wp_bsP _ rfl xa xb rfl ?_;refine hK _ _ ?_;clear hK K;try simp only[xap]
      refine xp fun K hK=>?_
      have hba:Below X2.heap.size X2 (X2.alloc (.cells (List.toArray [Value.pointer (some ⟨xa,0,none⟩),.pointer (some ⟨xb,0,none⟩)]) 41)):=(Below.refl _ X2).alloc (Nat.le_refl _) _;have hXa:At (X2.alloc (.cells (List.toArray [Value.pointer (some ⟨xa,0,none⟩),.pointer (some ⟨xb,0,none⟩)]) 41)) X2.heap.size (List.toArray [Value.pointer (some ⟨xa,0,none⟩),.pointer (some ⟨xb,0,none⟩)]):=At.new X2 _ _;have hPa:=hP.out.gr hba;refine wp_cp _ _ 42 rfl (.slice pa m.length pc) rfl (.slice (some ⟨X2.heap.size,0,none⟩) 1 1) rfl (fun v' w'=>∃pa' pc',v'=.slice pa' (m.length+1) pc'∧Al V2.heap.size w' (i+1) kb (m++[⟨xa,xb,⟨ca,ga,cc,gc,.string (T.str mem)⟩,R.pr,xs⟩]) pa' pc' wv tv rw rt∧Below V2.heap.size (X2.alloc (.cells (List.toArray [Value.pointer (some ⟨xa,0,none⟩),.pointer (some ⟨xb,0,none⟩)]) 41)) w') (fun ty=>push_run hPa X2.heap.size hXa ty) (fun v2 W2 hR=>?_);obtain⟨pa2,pc2,rfl,hA2,hb2⟩:=hR;replace hG:=ζ (hG.out.trans ((hba.mono hleV.out).trans hb2))
      have hA3:=ζ hA2;clear hba hXa hPa hA2 hb2 hP;refine hK _ _ ?_;clear hK K;try simp only[xap]
      refine xp fun K hK=>?_
      go_simp;with_reducible refine hK _ _ ?_
      clear hK K;try simp only[xap]
      go_wp2_with fail;refine⟨⟨i+1,m++[⟨xa,xb,⟨ca,ga,cc,gc,.string (T.str mem)⟩,R.pr,xs⟩],pa2,pc2,wv,tv,rw,rt,by simp,?_,hin,hi12,hA3,hG⟩,?_⟩
      ·first|rfl|rw[nextA hi12]|go_num
      ·first|exact next_mZ hi12|exact nextAn hi12
     ·have hev2:(Int.tmod tN 2 != 0)=true:=by simp[hev]
      obtain⟨hw2,hw3⟩:=tmod2 tN;have d0:X1.cell? ⟨kq,0,none⟩=some (.slice ca R.code.length cc):=hAq.out.2.1 0;have d1:X1.cell? ⟨kq,1,none⟩=some (.slice ga R.gates.length gc):=hAq.out.2.1 1;have d2:X1.cell? ⟨kq,2,none⟩=some (.string (T.str mem)):=hAq.out.2.1 2;have d3:X1.cell? ⟨kq,3,none⟩=some (.int .i64 R.dep):=hAq.out.2.1 3;have e0:X1.cell? ⟨k7,0,none⟩=some (.slice ca2 R2.code.length cc2):=(hqC.out X1 hG.out).2.1 0;have e1:X1.cell? ⟨k7,1,none⟩=some (.slice ga2 R2.gates.length gc2):=(hqC.out X1 hG.out).2.1 1;have e2:X1.cell? ⟨k7,2,none⟩=some (.string (T.str mem2)):=(hqC.out X1 hG.out).2.1 2;have e3:X1.cell? ⟨k7,3,none⟩=some (.int .i64 R2.dep):=(hqC.out X1 hG.out).2.1 3;have hth:=ζ (At.there hAq.out 0 4 (Nat.le_refl 4));have hAq2:Hz (At (X1.setCells kq 0 [.slice ca2 R2.code.length cc2,.slice ga2 R2.gates.length gc2,.string (T.str mem2),.int .i64 R2.dep]) kq #[.slice ca2 R2.code.length cc2,.slice ga2 R2.gates.length gc2,.string (T.str mem2),.int .i64 R2.dep]):=ζ (At.setAll hAq.out _ rfl)
      have g2:Hz (Gr V (X1.setCells kq 0 [.slice ca2 R2.code.length cc2,.slice ga2 R2.gates.length gc2,.string (T.str mem2),.int .i64 R2.dep])):=ζ (Gr.setCells gq.out kq hkq2.out _ 0);go_upto_region 19 with fail
      refine wp_region_lit ?_;refine xp fun K hK=>?_
      go_simp;with_reducible refine hK _ _ ?_
      clear hK K;try simp only[xap]
      refine xp fun K hK=>?_
      refine wp_store_mid _ _ _ rfl _ _ (List.toArray [.slice ca2 R2.code.length cc2,.slice ga2 R2.gates.length gc2,.string (T.str mem2),.int .i64 R2.dep]) rfl rfl hth.out (by kernel_rfl) (by simp[Value.oneCell']) (hK _ _ ?_);clear hK K;try simp only[Act.put]
      generalize World.setCells _ _ _ _=Y1 at*;clear hth;clear d0 d1 d2 d3 e0 e1 e2 e3 hAq hA hG hleV gq hev hev2 hw2 hw3 t2 t0 t1;have hA:=ζ (hAV.out.gr g2.out.below);have hG:=ζ (hGV.out.trans (g2.out.below.mono hGV.out.size));have hleV:Hz (V2.heap.size≤Y1.heap.size):=ζ hG.out.size;clear hAV hGV g2;have e0:Y1.cell? ⟨k7,0,none⟩=some (.slice ca2 R2.code.length cc2):=(hqC.out Y1 hG.out).2.1 0;have e1:Y1.cell? ⟨k7,1,none⟩=some (.slice ga2 R2.gates.length gc2):=(hqC.out Y1 hG.out).2.1 1;have e2:Y1.cell? ⟨k7,2,none⟩=some (.string (T.str mem2)):=(hqC.out Y1 hG.out).2.1 2;have e3:Y1.cell? ⟨k7,3,none⟩=some (.int .i64 R2.dep):=(hqC.out Y1 hG.out).2.1 3;by_cases hok2:R2.Ok mem2.length
      ·replace hok2:=ζ hok2;have hent:=ζ (ent_ok R2 ca2 ga2 cc2 gc2 mem2 gate A sa sc Y1 (hb2V.out.below hG.out).hP (hb2V.out.below hG.out).hA hok2.out h0);go_wp2_with fail;refine hent.out.mono ?_;rintro r Y2 ⟨va2,vc2,rfl,hWa2,hB⟩;clear hent e0 e1 e2 e3;replace hA:=ζ (hA.out.gr hB);replace hG:=ζ (hG.out.trans (hB.mono hG.out.size));replace hleV:Hz (V2.heap.size≤Y2.heap.size):=ζ hG.out.size;replace hAq2:=ζ (at_below hAq2.out hB hAq2.out.1);replace hWa2:=ζ hWa2;clear hB;have d0:Y2.cell? ⟨kq,0,none⟩=some (.slice ca2 R2.code.length cc2):=hAq2.out.2.1 0;have d1:Y2.cell? ⟨kq,1,none⟩=some (.slice ga2 R2.gates.length gc2):=hAq2.out.2.1 1;have d2:Y2.cell? ⟨kq,2,none⟩=some (.string (T.str mem2)):=hAq2.out.2.1 2;have d3:Y2.cell? ⟨kq,3,none⟩=some (.int .i64 R2.dep):=hAq2.out.2.1 3;have hmd:=ζ (al_made R2 ca2 ga2 cc2 gc2 mem2 gate A va2 vc2 ia ic L V2 hb2V.out hcap.out hok2.out hL1 hG.out hWa2.out hA.out (by omega))
       go_wp2_with fail;refine hmd.out.mono ?_;rintro r Y3 ⟨xa,xb,xs,rfl,hP,hB⟩;replace hP:=ζ hP;replace hG:=ζ (hG.out.trans (hB.mono hG.out.size));replace hleV:Hz (V2.heap.size≤Y3.heap.size):=ζ hG.out.size;clear hmd hB hA;clear d0 d1 d2 d3 hWa2;go_upto_region 25 with fail
       refine wp_region_lit ?_;iterate 4 (refine xp fun K hK=>?_;go_simp;with_reducible refine hK _ _ ?_;clear hK K;(try simp only[xap]))
       refine xp fun K hK=>?_
       refine wp_bsP _ rfl xa xb rfl ?_;refine hK _ _ ?_;clear hK K;try simp only[xap]
       refine xp fun K hK=>?_
       have hba:Below Y3.heap.size Y3 (Y3.alloc (.cells (List.toArray [Value.pointer (some ⟨xa,0,none⟩),.pointer (some ⟨xb,0,none⟩)]) 41)):=(Below.refl _ Y3).alloc (Nat.le_refl _) _;have hXa:At (Y3.alloc (.cells (List.toArray [Value.pointer (some ⟨xa,0,none⟩),.pointer (some ⟨xb,0,none⟩)]) 41)) Y3.heap.size (List.toArray [Value.pointer (some ⟨xa,0,none⟩),.pointer (some ⟨xb,0,none⟩)]):=At.new Y3 _ _;have hPa:=hP.out.gr hba;refine wp_cp _ _ 42 rfl (.slice pa m.length pc) rfl (.slice (some ⟨Y3.heap.size,0,none⟩) 1 1) rfl (fun v' w'=>∃pa' pc',v'=.slice pa' (m.length+1) pc'∧Al V2.heap.size w' (i+1) kb (m++[⟨xa,xb,⟨ca2,ga2,cc2,gc2,.string (T.str mem2)⟩,R2.pr,xs⟩]) pa' pc' wv tv rw rt∧Below V2.heap.size (Y3.alloc (.cells (List.toArray [Value.pointer (some ⟨xa,0,none⟩),.pointer (some ⟨xb,0,none⟩)]) 41)) w') (fun ty=>push_run hPa Y3.heap.size hXa ty) (fun v2 W2 hR=>?_);obtain⟨pa2,pc2,rfl,hA2,hb2⟩:=hR
       replace hG:=ζ (hG.out.trans ((hba.mono hleV.out).trans hb2));have hA3:=ζ hA2;clear hba hXa hPa hA2 hb2 hP;refine hK _ _ ?_;clear hK K;try simp only[xap]
       refine xp fun K hK=>?_
       go_simp;with_reducible refine hK _ _ ?_
       clear hK K;try simp only[xap]
       go_wp2_with fail;refine⟨⟨i+1,m++[⟨xa,xb,⟨ca2,ga2,cc2,gc2,.string (T.str mem2)⟩,R2.pr,xs⟩],pa2,pc2,wv,tv,rw,rt,by simp,?_,hin,hi12,hA3,hG⟩,?_⟩
       ·first|rfl|rw[nextA hi12]|go_num
       ·first|exact next_mZ hi12|exact nextAn hi12
      ·replace hok2:Hz (¬(R2.Ok mem2.length∧0≤gate)):=ζ (fun q=>hok2 q.1);have hent:=ζ (ent_no R2 ca2 ga2 cc2 gc2 mem2 gate A sa sc Y1 (hb2V.out.below hG.out).hP (hb2V.out.below hG.out).hA hAl hok2.out);go_wp2_with fail;refine hent.out.mono ?_;rintro r Y2 ⟨g2,A2,va2,vc2,rfl,hWa2,hA2,hn2,hB⟩;clear hent e0 e1 e2 e3;replace hA:=ζ (hA.out.gr hB);replace hG:=ζ (hG.out.trans (hB.mono hG.out.size));replace hleV:Hz (V2.heap.size≤Y2.heap.size):=ζ hG.out.size;replace hAq2:=ζ (at_below hAq2.out hB hAq2.out.1);replace hWa2:=ζ hWa2;clear hB;have d0:Y2.cell? ⟨kq,0,none⟩=some (.slice ca2 R2.code.length cc2):=hAq2.out.2.1 0;have d1:Y2.cell? ⟨kq,1,none⟩=some (.slice ga2 R2.gates.length gc2):=hAq2.out.2.1 1;have d2:Y2.cell? ⟨kq,2,none⟩=some (.string (T.str mem2)):=hAq2.out.2.1 2;have d3:Y2.cell? ⟨kq,3,none⟩=some (.int .i64 R2.dep):=hAq2.out.2.1 3;have hmd:=ζ (made_no70 R2 ca2 ga2 cc2 gc2 mem2 g2 A2 va2 vc2 ia ic L Y2 (hb2V.out.below hG.out).hP hb2V.out.wd.code hWa2.out hA2 (hb2V.out.below hG.out).hI hb2V.out.c hb2V.out.r hb2V.out.g hb2V.out.l hn2)
       clear hn2 hA2;go_wp2_with fail;refine hmd.out.mono ?_;rintro r Y3 ⟨rfl,hB⟩;have hA3:=ζ (hA.out.gr hB).mono;replace hG:=ζ (hG.out.trans (hB.mono hG.out.size));clear d0 d1 d2 d3 hmd hB hA hWa2;go_wp2_with fail;refine⟨⟨i+1,m,pa,pc,wv,tv,rw,rt,rfl,?_,hin,hi12,hA3,hG⟩,?_⟩
       ·first|rfl|rw[nextA hi12]|go_num
       ·first|exact next_mZ hi12|exact nextAn hi12
    ·go_cut [86] (fun v wx=>v=.bool false∧V=wx)
     case first=>
      by_cases h7a:tK=7
      ·have h7b:(tK==7)=true:=by simpa using h7a
       have h7c:¬(m.length:Int)<4:=fun q=>h7 ⟨h7a,by exact_mod_cast q⟩
       go_wp2_with fail;go_meet;exact⟨rfl,rfl⟩
      ·have h7b:(tK==7)=false:=beq_false_of_ne h7a;go_wp2_with fail;go_meet;exact⟨rfl,rfl⟩
     case rest=>
      obtain⟨hv,hwx⟩:=hcut;subst hwx;subst hv;go_upto_if 124 with fail;go_cut [29] (fun v wx=>(∃aa:Int,v=.int .i64 aa∧Hz (0≤aa))∧V=wx)
      case first=>
       by_cases hfu:tW<0
       ·have w1:wrap64 (tW+1)=tW+1:=by unfold wrap64;omega
        have w2:wrap64 (-(tW+1))= -(tW+1):=by unfold wrap64;omega
        have w3:IntKind.i64.wrap (-(tW+1))= -(tW+1):=by rw[IntKind.wrap_i64];omega
        have w4:Hz (0≤ -(tW+1)):=ζ (by omega);go_wp2_with fail;go_meet;exact⟨⟨_,rfl,w4⟩,rfl⟩
       ·have w4:Hz (0≤tW):=ζ (by omega);go_wp2_with fail;go_meet;exact⟨⟨_,rfl,w4⟩,rfl⟩
      case rest=>
       obtain⟨⟨aa,haa,hap⟩,hwx⟩:=hcut;subst haa;subst hwx;obtain⟨k,hk,etm,ew1,ew2,hkI,hk0,hm0,hm1⟩:=all_idx2 aa m.length hap.out hml.1 hml.2;obtain⟨gr,rfl,hgl,hrg⟩:=hA.out.row k hk;have c0:V.cell? ⟨gr,k*2,none⟩=some (.pointer (some ⟨m[k].a,0,none⟩)):=hrg 0 _ rfl;have c1:V.cell? ⟨gr,k*2+1,none⟩=some (.pointer (some ⟨m[k].b,0,none⟩)):=hrg 1 _ rfl;have hmn:¬m=[]:=fun q=>by rw[q]at hk;exact absurd hk (Nat.not_lt_zero _)
       clear hrg hap;by_cases h9:tK=9∧m.length<5
       ·obtain⟨h9a,h9l⟩:=h9;have h9b:(tK==9)=true:=by simpa using h9a
        have h9c:(m.length:Int)<5:=by exact_mod_cast h9l
        go_upto_region 31 with fail;refine wp_world (fun X=>∃kc,kc=V.heap.size∧At X kc #[.pointer (some ⟨m[k].a,0,none⟩),.pointer (some ⟨m[k].b,0,none⟩)]∧Gr V X) ?_ ?_
        ·first|exact⟨_,rfl,At.new V _ _,(Gr.refl _).alloc _⟩|exact⟨_,rfl,At.setAll (At.new V _ _) _ rfl,Gr.setCells ((Gr.refl V).alloc _) _ (Nat.le_refl _) _ 0⟩
        rintro X5 ⟨kc,hkc,hAc,g5⟩;rw[←hkc];replace hA:=ζ (hA.out.gr g5.below);replace hG:=ζ (hG.out.trans (g5.below.mono hG.out.size));replace hAc:=ζ hAc;clear hkc g5 c0 c1 t0 t1 hleV;have q0:X5.cell? ⟨kc,0,none⟩=some (.pointer (some ⟨m[k].a,0,none⟩)):=hAc.out.2.1 0;have hxc:=ζ (xcopy_al hA.out hi120 k hk);go_wp2_with fail;refine hxc.out.mono ?_;rintro r X6 ⟨rfl,hp6,hB⟩;replace hp6:=ζ hp6;have q1:X6.cell? ⟨kc,1,none⟩=some (.pointer (some ⟨m[k].b,0,none⟩)):=(T.cell_of_block (hB.block kc hAc.out.1) _).trans (hAc.out.2.1 1);obtain⟨ax,hax⟩:∃a,X5.heap.size=a:=⟨_,rfl⟩;have hyc:=ζ (ycopy_al hA.out hB hi120 (Nat.le_of_lt_succ h9l) k X5.heap.size hk hp6.out);rw[hax]at hyc ⊢;replace hG:=ζ (hG.out.trans (hB.mono hG.out.size));clear hB hp6 hxc q0 hax hA hAc;go_upto_region 34 with fail
        refine wp_region_lit ?_;iterate 4 (refine xp fun K hK=>?_;go_simp;with_reducible refine hK _ _ ?_;clear hK K;(try simp only[xap]))
        refine xp fun K hK=>?_
        go_simp
        (refine hyc.out.mono ?_;rintro r X7 ⟨xb,rfl,hP,hB⟩)
        with_reducible refine hK _ _ ?_
        clear hK K;try simp only[xap]
        refine xp fun K hK=>?_
        go_simp;with_reducible refine hK _ _ ?_
        clear hK K;try simp only[xap]
        refine xp fun K hK=>?_
        replace hP:=ζ hP;replace hG:=ζ (hG.out.trans hB);replace hleV:Hz (V2.heap.size≤X7.heap.size):=ζ hG.out.size;clear hyc hB;refine wp_bsP _ rfl ax xb rfl ?_;refine hK _ _ ?_;clear hK K;try simp only[xap]
        refine xp fun K hK=>?_
        have hba:Below X7.heap.size X7 (X7.alloc (.cells (List.toArray [Value.pointer (some ⟨ax,0,none⟩),.pointer (some ⟨xb,0,none⟩)]) 41)):=(Below.refl _ X7).alloc (Nat.le_refl _) _;have hXa:At (X7.alloc (.cells (List.toArray [Value.pointer (some ⟨ax,0,none⟩),.pointer (some ⟨xb,0,none⟩)]) 41)) X7.heap.size (List.toArray [Value.pointer (some ⟨ax,0,none⟩),.pointer (some ⟨xb,0,none⟩)]):=At.new X7 _ _;have hPa:=hP.out.gr hba;refine wp_cp _ _ 42 rfl (.slice (some ⟨gr,0,none⟩) m.length pc) rfl (.slice (some ⟨X7.heap.size,0,none⟩) 1 1) rfl (fun v' w'=>∃pa' pc',v'=.slice pa' (m.length+1) pc'∧Al V2.heap.size w' (i+1) kb (m++[⟨ax,xb,m[k].c,m[k].P,m[k].s⟩]) pa' pc' wv tv rw rt∧Below V2.heap.size (X7.alloc (.cells (List.toArray [Value.pointer (some ⟨ax,0,none⟩),.pointer (some ⟨xb,0,none⟩)]) 41)) w') (fun ty=>push_run hPa X7.heap.size hXa ty) (fun v2 W2 hR=>?_);obtain⟨pa2,pc2,rfl,hA2,hb2⟩:=hR;replace hG:=ζ (hG.out.trans ((hba.mono hleV.out).trans hb2))
        have hA3:=ζ hA2;clear hba hXa hPa hA2 hb2 hP;refine hK _ _ ?_;clear hK K;try simp only[xap]
        refine xp fun K hK=>?_
        go_simp;with_reducible refine hK _ _ ?_
        clear hK K;try simp only[xap]
        go_wp2_with fail;refine⟨⟨i+1,m++[⟨ax,xb,m[k].c,m[k].P,m[k].s⟩],pa2,pc2,wv,tv,rw,rt,by simp,?_,hin,hi12,hA3,hG⟩,?_⟩
        ·first|rfl|rw[nextA hi12]|go_num
        ·first|exact next_mZ hi12|exact nextAn hi12
       ·go_upto_region 29 with fail;go_cut [135] (fun v wx=>v=.bool false∧V=wx)
        case first=>
         by_cases h9a:tK=9
         ·have h9b:(tK==9)=true:=by simpa using h9a
          have h9c:¬(m.length:Int)<5:=fun q=>h9 ⟨h9a,by exact_mod_cast q⟩
          go_wp2_with fail;go_meet;exact⟨rfl,rfl⟩
         ·have h9b:(tK==9)=false:=beq_false_of_ne h9a;go_wp2_with fail;go_meet;exact⟨rfl,rfl⟩
        case rest=>
         obtain⟨hv,hwx⟩:=hcut;subst hwx;subst hv;go_upto_region 35 with fail;have hd:Below V.heap.size V V.drew:=(Gr.refl V).drew.below;replace hA:=ζ (hA.out.gr hd);replace hG:=ζ (hG.out.trans (hd.mono hG.out.size));have htn:=ζ (al_turn hA.out hi120 k hk tK tW tN r1 r2);replace c0:V.drew.cell? ⟨gr,k*2,none⟩=some (.pointer (some ⟨m[k].a,0,none⟩)):=c0;replace c1:V.drew.cell? ⟨gr,k*2+1,none⟩=some (.pointer (some ⟨m[k].b,0,none⟩)):=c1;have u0:V.drew.cell? ⟨kt,0,none⟩=some (.int .i64 tK):=hAt.out.2.1 0;have u1:V.drew.cell? ⟨kt,1,none⟩=some (.int .i64 tW):=hAt.out.2.1 1;have u2:V.drew.cell? ⟨kt,2,none⟩=some (.int .i64 tN):=hAt.out.2.1 2;clear t0 t1 hd hleV;refine wp_region_held_drew (S:=(fun _=>True)) (by kernel_rfl) (trivial) (fun hHeld=>?_);refine xz 0 rfl (h:=xz 1 rfl (h:=xz 2 rfl (h:=xz 3 rfl (h:=xz 4 rfl (h:=xz 5 rfl (h:=xz 6 rfl (h:=?_)))))));try simp only[xap]
         refine wpAnyH_ready (rs:=[7,8]) (by kernel_rfl) (by simp) ?_;refine(xcn rfl (fun K hK=>?_) (xcn rfl (fun K hK=>?_) AllReadyH.nil))
         ·skip
          go_simp;refine hK.out _ _ trivial (fun hHeld=>?_);clear hK K;try simp only[xap]
          refine xrd 8 rfl (fun K hK=>?_);go_simp;refine hK.out _ _ trivial (fun hHeld=>?_);clear hK K;try simp only[xap]
          refine xrd 9 rfl (fun K hK=>?_);go_simp;go_wp2_with(refine htn.out.mono ?_;rintro r X5 ⟨rfl,m2,wv2,tv2,rw2,rt2,hl2,hA2,hb2⟩;clear hHeld);refine hK.out _ _ trivial (fun hHeld=>?_);clear hK K;try simp only[xap]
          refine xz 10 rfl (h:=?_);try simp only[xap]
          refine xdn ?_ _;clear hHeld htn c0 c1 u0 u1 u2 hA;replace hA2:=ζ hA2;replace hG:=ζ (hG.out.trans hb2);clear hb2;have hst:=ζ (al_still hA2.out (Nat.le_trans hi12 (by decide)));go_wp2_with fail;refine hst.out.mono ?_;rintro r X6 ⟨rfl,rfl⟩;clear hst;go_wp2_with fail;refine⟨⟨i+1,m2,some ⟨gr,0,none⟩,pc,wv2,tv2,rw2,rt2,by rw[hl2],?_,hin,hi12,hA2,hG⟩,?_⟩
          ·first|rfl|rw[nextA hi12]|go_num
          ·first|exact next_mZ hi12|exact nextAn hi12
         ·skip
          go_simp;refine hK.out _ _ trivial (fun hHeld=>?_);clear hK K;try simp only[xap]
          refine xrd 7 rfl (fun K hK=>?_);go_simp;refine hK.out _ _ trivial (fun hHeld=>?_);clear hK K;try simp only[xap]
          refine xrd 9 rfl (fun K hK=>?_);go_simp;go_wp2_with(refine htn.out.mono ?_;rintro r X5 ⟨rfl,m2,wv2,tv2,rw2,rt2,hl2,hA2,hb2⟩;clear hHeld);refine hK.out _ _ trivial (fun hHeld=>?_);clear hK K;try simp only[xap]
          refine xz 10 rfl (h:=?_);try simp only[xap]
          refine xdn ?_ _;clear hHeld htn c0 c1 u0 u1 u2 hA;replace hA2:=ζ hA2;replace hG:=ζ (hG.out.trans hb2);clear hb2;have hst:=ζ (al_still hA2.out (Nat.le_trans hi12 (by decide)));go_wp2_with fail;refine hst.out.mono ?_;rintro r X6 ⟨rfl,rfl⟩;clear hst;go_wp2_with fail;refine⟨⟨i+1,m2,some ⟨gr,0,none⟩,pc,wv2,tv2,rw2,rt2,by rw[hl2],?_,hin,hi12,hA2,hG⟩,?_⟩
          ·first|rfl|rw[nextA hi12]|go_num
          ·first|exact next_mZ hi12|exact nextAn hi12
   ·have hi2:¬(i:Int)<120:=by omega
    go_wp2_with fail;go_ret;exact⟨rfl,by first|exact G.out.trans (hG.out.mono hwle.out)|(rw[←hk6];exact G.out.trans (hG.out.mono hwle.out))⟩
  ·have hi1:¬(i:Int)<(TS.length:Int):=by omega
   go_wp2_with fail;go_ret;exact⟨rfl,by first|exact G.out.trans (hG.out.mono hwle.out)|(rw[←hk6];exact G.out.trans (hG.out.mono hwle.out))⟩
end Z
end Go.Proofs.YtdidjhillmgccaaGreat
