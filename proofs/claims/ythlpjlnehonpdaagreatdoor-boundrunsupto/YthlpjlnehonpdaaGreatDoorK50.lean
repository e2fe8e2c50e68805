import Derived.Test.YthlpjlnehonpdaaGreatDoorK47
import Derived.Test.YthlpjlnehonpdaaGreatDoorK49
import Derived.Test.YthlpjlnehonpdaaGreatDoorK48
import Derived.Deep.DeepCutAuto
namespace Go.Proofs.YthlpjlnehonpdaaGreatDoor
namespace C
open Go.RowKit
open T (Sep Ob Kp Mf TgIn boxOb Fm Tc Ed Vl Cp Bx tgOb mRow updV flt)
theorem run_alloc_sn (W:World):(Instr.alloc 103 true (.tuple #[])).run Tryz.prog W=.ok (.pointer (some ⟨W.heap.size,0,none⟩)) (W.alloc (.cells (snR zS).toArray 103)):=by
 have:(Instr.alloc 103 true (.tuple #[])).run Tryz.prog W=.ok (.pointer (some ⟨W.heap.size,0,none⟩)) (W.alloc (.cells Tryz.zeroCells103 103)):=by kernel_rfl
 rw[this,show Tryz.zeroCells103=(snR zS).toArray by rw[←zero_sn]]
theorem wp_alloc_sn {o:Oper}{a:Act}{K:Act→World→Prop}{Q:Exit→Act→World→Prop}{w:World}(ho:o.op=.alloc 103)(h:K (a.put o.dst (.pointer (some ⟨w.heap.size,0,none⟩))) (w.alloc (.cells (snR zS).toArray 103))):o.wp Tryz.prog a w K Q:=by
 unfold Oper.wp execOp;simp only[ho,run_alloc_sn,Sem.run_bind,Sem.run_pure,Result.andThen_ok];exact h
end C
set_option maxRecDepth 100000
set_option maxHeartbeats 40000000
namespace C
open Go.RowKit
open T (Sep Ob Kp Mf TgIn boxOb Fm Tc Ed Vl Cp Bx tgOb mRow updV flt regRow regRow_at regRow_len Vl.row_len)
open Bd (tkM tkC inB)
theorem results_3 {fn:Func}{p q r:Tmp}{ty:TypeId}{u v x:Value}{a:Addr}(h:fn.results=#[.tmp p,.tmp q,.cell r ty])(tmps:Array Value)(w:World)(hu:tmps.getD p undef=u)(hv:tmps.getD q undef=v)(ht:tmps.getD r undef=.pointer (some a))(hl:(loadVar ty a).run Tryz.prog w=.ok x w):
 (results fn tmps).run Tryz.prog w=.ok (.tuple #[u,v,x]) w:=by
 have hu':tmps[p]?.getD undef=u:=by simpa using hu
 have hv':tmps[q]?.getD undef=v:=by simpa using hv
 have ht':tmps[r]?.getD undef=.pointer (some a):=by simpa using ht
 simp[results,h,hu',hv',ht',asAddr,hl]
theorem sn_f2 (s:Ms)(w:World):(Instr.field 103 (.agg (snR s).toArray) 2).run Tryz.prog w=.ok (.int .i64 s.st.length) w:=by kernel_rfl
theorem tk_next {P:PImg}{k:Nat}{s:Ms}(h:(stepsM P 1 s).over.e=0):tkM P (k+1) s=(tkC P s+(tkM P k (stepsM P 1 s)).1,max (stepsM P 1 s).st.length (tkM P k (stepsM P 1 s)).2.1,(tkM P k (stepsM P 1 s)).2.2):=by
 conv=>lhs;unfold tkM
 rw[if_neg (by omega)]
theorem tk_last {P:PImg}{k:Nat}{s:Ms}(h:(stepsM P 1 s).over.e≠0):tkM P (k+1) s=(tkC P s,(stepsM P 1 s).st.length,stepsM P 1 s):=by
 unfold tkM;rw[if_pos h]
structure Tk (P:PImg)(N:Nat)(s:Ms)(j:Nat)(t:Ms)(n d:Nat):Prop where
 n:n+(tkM P (N - j) t).1=(tkM P N s).1
 d:max d (tkM P (N - j) t).2.1=(tkM P N s).2.1
 e:(tkM P (N - j) t).2.2=(tkM P N s).2.2
theorem Tk.start (P:PImg)(N:Nat)(s:Ms):Tk P N s 0 s 0 0:=⟨by simp,by simp,by simp⟩
theorem Tk.next {P:PImg}{N:Nat}{s:Ms}{j:Nat}{t:Ms}{n d:Nat}(h:Tk P N s j t n d)(hj:j<N)(h0:(stepsM P 1 t).over.e=0):Tk P N s (j+1) (stepsM P 1 t) (n+tkC P t) (max d (stepsM P 1 t).st.length):=by
 have e:N - j=(N - (j+1))+1:=by omega
 have h1:=h.n;have h2:=h.d;have h3:=h.e;rw[e,tk_next h0]at h1 h2 h3;dsimp only at h1 h2 h3;exact⟨by omega,by omega,h3⟩
theorem Tk.last {P:PImg}{N:Nat}{s:Ms}{j:Nat}{t:Ms}{n d:Nat}(h:Tk P N s j t n d)(hj:j<N)(h0:(stepsM P 1 t).over.e≠0):n+tkC P t=(tkM P N s).1∧max d (stepsM P 1 t).st.length=(tkM P N s).2.1∧stepsM P 1 t=(tkM P N s).2.2:=by
 have e:N - j=(N - (j+1))+1:=by omega
 have h1:=h.n;have h2:=h.d;have h3:=h.e;rw[e,tk_last h0]at h1 h2 h3;exact⟨h1,h2,h3⟩
theorem Tk.full {P:PImg}{N:Nat}{s:Ms}{t:Ms}{n d:Nat}(h:Tk P N s N t n d):n=(tkM P N s).1∧d=(tkM P N s).2.1∧t=(tkM P N s).2.2:=by
 have h1:=h.n;have h2:=h.d;have h3:=h.e;rw[Nat.sub_self]at h1 h2 h3;have e:tkM P 0 t=(0,0,t):=rfl;rw[e]at h1 h2 h3;exact⟨by simpa using h1,by simpa using h2,h3⟩
theorem wO_tl (s:Ms)(j:Nat)(h:j≠0):wO s j=[Value.int .i64 s.over.e,.int .u64 s.over.v,.int .i64 s.over.f,.int .i64 s.at_.gate,.int .i64 s.at_.pc]:=by unfold wO;rw[if_neg h];rfl
theorem taken_any (m P:PImg)(hP:POk P)(hg:P.gates=m.gates)(hc:P.comps=m.comps)(ra ca ga:Option Addr)(rc cc gc:Nat)(LB B:Nat)(hLB:LB≤B)(w:World)(hm:ImgIn LB w ra ca ga m)(a:Nat)(s:Ms)(l:List Ob)(n0 N:Nat)(hs:Okm P n0 s)(h0:s.over.e=0)(hN:1≤N∧N≤5000)(hn:n0≤100000)(h:MIn B w a P s l):
 Calls Tryz.prog 13 #[.agg #[.slice ra m.regs.length rc,.slice ca m.comps.length cc,.slice ga m.gates.length gc,.int .i64 m.depth],.pointer (some ⟨a,0,none⟩),.int .u64 N] w fun x w'=>x=.returned (.tuple #[.int .u64 (tkM P N s).1,.int .i64 (tkM P N s).2.1,.agg (List.toArray [Value.int .i64 (tkM P N s).2.2.over.e,.int .u64 (tkM P N s).2.2.over.v,.int .i64 (tkM P N s).2.2.over.f,.int .i64 (tkM P N s).2.2.at_.gate,.int .i64 (tkM P N s).2.2.at_.pc])])∧MIn B w' a P (tkM P N s).2.2 l∧Below B w w':=by
 have hgN:=ζ (fun g (q:g<m.gates.length)=>hm.gates g q);have hcN:=ζ (fun k (q:k<m.comps.length)=>hm.comps k q);have hI:=ζ hm;have hP0:=ζ hP;have hgc:=ζ (And.intro hg hc);have hl:=h.le;have hL0:LB≤w.heap.size:=Nat.le_trans hLB hl;clear hm hP hg hc;go_enter Tryz.func13,Tryz.ntmps13;go_upto_region 1 with fail
 refine wp_world (fun X=>MIn B X a P s (boxOb (w.heap.size+1) #[.int .i64 0,.int .u64 0,.int .i64 0,.int .i64 0,.int .i64 0]::boxOb w.heap.size #[.slice ra m.regs.length rc,.slice ca m.comps.length cc,.slice ga m.gates.length gc,.int .i64 m.depth]::l)∧Below B w X) ⟨by simpa using((h.new #[.slice ra m.regs.length rc,.slice ca m.comps.length cc,.slice ga m.gates.length gc,.int .i64 m.depth] 40).1.new #[.int .i64 0,.int .u64 0,.int .i64 0,.int .i64 0,.int .i64 0] 50).1,(h.new #[.slice ra m.regs.length rc,.slice ca m.comps.length cc,.slice ga m.gates.length gc,.int .i64 m.depth] 40).2.trans ((h.new #[.slice ra m.regs.length rc,.slice ca m.comps.length cc,.slice ga m.gates.length gc,.int .i64 m.depth] 40).1.new #[.int .i64 0,.int .u64 0,.int .i64 0,.int .i64 0,.int .i64 0] 50).2⟩ ?_;clear h;rintro W ⟨h,hB⟩;obtain⟨k8,e8⟩:∃k8,w.heap.size+1=k8:=⟨_,rfl⟩;obtain⟨k3,e3⟩:∃k3,w.heap.size=k3:=⟨_,rfl⟩;rw[e8]at h ⊢
 rw[e3]at h ⊢;replace e8:=ζ e8;replace e3:=ζ e3;go_upto_region 4 with fail
 refine wp_world (fun X=>MIn B X a P s (boxOb W.heap.size (wO s 0).toArray::boxOb k8 #[.int .i64 0,.int .u64 0,.int .i64 0,.int .i64 0,.int .i64 0]::boxOb k3 #[.slice ra m.regs.length rc,.slice ca m.comps.length cc,.slice ga m.gates.length gc,.int .i64 m.depth]::l)∧Below B w X) ⟨(h.new (wO s 0).toArray 50).1,hB.trans (h.new (wO s 0).toArray 50).2⟩ ?_;clear h hB;rintro W1 ⟨h,hB⟩;generalize W.heap.size=k11 at*;have st:Hz (MIn B W1 a P s (boxOb k11 (wO s 0).toArray::boxOb k8 #[.int .i64 0,.int .u64 0,.int .i64 0,.int .i64 0,.int .i64 0]::boxOb k3 #[.slice ra m.regs.length rc,.slice ca m.comps.length cc,.slice ga m.gates.length gc,.int .i64 m.depth]::l)∧Below B w W1∧Okm P (n0+0) s∧s.over.e=0∧Tk P N s 0 s 0 0):=ζ ⟨h,hB,hs,h0,Tk.start P N s⟩;clear h hB hs h0;go_upto_region 5 with fail
 go_loopw [9,10,12] (fun nv dv iv wr=>∃(j n d:Nat) (t:Ms),nv=.int .u64 n∧dv=.int .i64 d∧iv=.int .u64 j∧j≤N∧n≤j∧d≤100∧Hz (MIn B wr a P t (boxOb k11 (wO t j).toArray::boxOb k8 #[.int .i64 0,.int .u64 0,.int .i64 0,.int .i64 0,.int .i64 0]::boxOb k3 #[.slice ra m.regs.length rc,.slice ca m.comps.length cc,.slice ga m.gates.length gc,.int .i64 m.depth]::l)∧Below B w wr∧Okm P (n0+j) t∧t.over.e=0∧Tk P N s j t n d)) (fun _ _ iv _=>N - (intOf iv).toNat)
 case atStart=>exact⟨0,0,0,s,rfl,rfl,rfl,by omega,by omega,by omega,st⟩
 case round=>
  clear st;obtain⟨j,n,d,t,rfl,rfl,rfl,hj,hnj,hd,⟨h,hB,ok,h0,tk⟩⟩:=hrel;by_cases hjl:j<N
  ·have hji:(j:Int)<N:=by omega
   have hPP:=hP0.out;have hgl:t.at_.gate<m.gates.length:=by have:=ok.f.g;rwa [hgc.out.1]at this
   have hkl:=hPP.kl t.at_.gate ok.f.g;have hcl:kOf P t.at_.gate<m.comps.length:=by have:=hkl.1;rwa [hgc.out.2]at this
   have hcode:codeOf P (kOf P t.at_.gate)=m.comps[kOf P t.at_.gate].code:=by
    rw[codeOf_at P _ hkl.1];simp only[hgc.out.2]
   obtain⟨gb,goff,xa,xc,ya,yc,rfl,hgb,hgb2,cg, -⟩:=hgN.out t.at_.gate hgl;obtain⟨cb,coff,ra2,rc2,ka,kc,rfl,hcb,hcb2,_,cd,_,hl2⟩:=hcN.out (kOf P t.at_.gate) hcl;have hcg:m.gates[t.at_.gate].c=(kOf P t.at_.gate:Nat):=by have:=hkl.2.1;simpa only[hgc.out.1]using this
   rw[hcg]at cg;have hpl:t.at_.pc≤m.comps[kOf P t.at_.gate].code.length:=by have:=ok.f.pc;rwa [hcode]at this
   have hdl:(t.st.length:Int)≤16:=by have:=ok.dp;have:=hPP.dp.2;omega
   have ok2:=okm_steps hPP 1 ok;have hdl2:((stepsM P 1 t).st.length:Int)≤16:=by have:=ok2.dp;have:=hPP.dp.2;omega
   have htc:Hz (tkC P t=if inB P t=true∧(stepsM P 1 t).over.e≠6 then 1 else 0):=ζ rfl;have hib:Hz (inB P t=match m.comps[kOf P t.at_.gate].code[t.at_.pc]? with|none=>false|some k=>k.op==29):=ζ (by unfold inB;rw[hcode];try(rcases m.comps[kOf P t.at_.gate].code[t.at_.pc]? with _|_<;>rfl));clear hcode hcg;replace hkl:=ζ hkl;replace hPP:=ζ hPP;replace ok:=ζ ok;replace ok2:=ζ ok2;replace h0:=ζ h0;replace tk:=ζ tk;replace hl2:=ζ hl2;replace h:=ζ h;replace hB:=ζ hB;go_upto_region 7 with fail
   refine wp_region_lit ?_;refine xp fun K hK=>?_
   go_simp;with_reducible refine hK _ _ ?_
   clear hK K;try simp only[xap]
   refine xp fun K hK=>?_
   go_simp
   (refine(snap_any B a P t _ _ h.out).mono ?_;rintro r Y1 ⟨rfl,e1⟩;replace hB:=ζ (hB.out.trans (h.out.bl e1).2);replace h:=ζ (h.out.bl e1).1;clear e1;have hA7:At (Y1.alloc (.cells (snR zS).toArray 103)) Y1.heap.size (snR zS).toArray:=At.new Y1 _ _;have hth:=ζ (At.there hA7 0 115 (by rw[snR_len];decide));have hA8:=ζ (At.setAll hA7 (snR t) (by rw[snR_len,snR_len]));have g9:=ζ (((Bl.refl Y1).alloc (.cells (snR zS).toArray 103)).sets Y1.heap.size (Nat.le_refl _) (snR t) 0);replace hA7:=ζ hA7)
   with_reducible refine hK _ _ ?_
   clear hK K;try simp only[xap]
   refine xp fun K hK=>?_
   refine wp_alloc_sn rfl (hK _ _ ?_);clear hK K;try simp only[xap]
   refine wpList_store_mid rfl _ _ _ rfl _ _ (List.toArray (snR t)) rfl rfl (show World.there _ _ _ _ by rw[show (snR t).toArray.size=115 from snR_len t];exact hth.out) (by rw[List.size_toArray,snR_len];kernel_rfl) (snR_one t) ?_;try simp only[Act.put]
   clear hth hA7;have h9:=ζ (h.out.add (boxOb Y1.heap.size (snR t).toArray) hA8.out (fun k q=>by have:k=Y1.heap.size:=q;omega) g9.out);replace hB:=ζ (hB.out.trans (Below.mono g9.out h.out.le));replace h:=h9;clear h9 g9 hA8;generalize World.setCells _ _ _ _=X1 at*;generalize Y1.heap.size=ks at*;obtain⟨t',ht'⟩:∃t',stepsM P 1 t=t':=⟨_,rfl⟩;have hcl:=ζ (step_oc P hPP.out t (n0+j) ok.out (by omega) t' ht' B X1 a _ h.out);have hnx:=fun(q:t'.over.e=0)=>tk.out.next hjl (by rw[ht'];exact q)
   have hla:=fun(q:t'.over.e≠0)=>tk.out.last hjl (by rw[ht'];exact q)
   rw[ht']at hnx hla ok2 hdl2 htc;replace hnx:=ζ hnx;replace hla:=ζ hla;replace ht':=ζ ht';clear tk;go_upto_region 8 with fail
   refine wp_region_lit ?_;refine xp fun K hK=>?_
   go_simp;with_reducible refine hK _ _ ?_
   clear hK K;try simp only[xap]
   refine xp fun K hK=>?_
   go_simp;refine hcl.out.mono ?_;rintro r X2 ⟨rfl,hM1,hBn⟩;clear hcl;replace hB:=ζ (hB.out.trans hBn);with_reducible refine hK _ _ ?_
   clear hK K;try simp only[xap]
   replace hM1:=hM1.swap;have A1:=hM1.there (boxOb k11 (wO t j).toArray) (by simp);have hth:=ζ (A1.there 0 5 (by rw[wO_len];omega));have hA9:=At.setAll A1 [Value.int .i64 t'.over.e,.int .u64 t'.over.v,.int .i64 t'.over.f,.int .i64 t'.at_.gate,.int .i64 t'.at_.pc] (by rw[wO_len];rfl);have hK9:=T.kp_setCells (fun k=>k=k11) k11 rfl [Value.int .i64 t'.over.e,.int .u64 t'.over.v,.int .i64 t'.over.f,.int .i64 t'.at_.gate,.int .i64 t'.at_.pc] 0 X2;obtain⟨hM3,hB3⟩:=hM1.side (o':=boxOb k11 (List.toArray [Value.int .i64 t'.over.e,.int .u64 t'.over.v,.int .i64 t'.over.f,.int .i64 t'.at_.gate,.int .i64 t'.at_.pc])) hA9 hK9 (fun _ r=>.inl r);replace hB:=ζ (hB.out.trans hB3);replace h:=ζ hM3;clear hM1 hM3 hA9 hK9 hB3 A1 hBn;refine xp fun K hK=>?_
   refine wp_store_mid _ _ _ rfl _ _ (List.toArray [Value.int .i64 t'.over.e,.int .u64 t'.over.v,.int .i64 t'.over.f,.int .i64 t'.at_.gate,.int .i64 t'.at_.pc]) rfl rfl hth.out (by kernel_rfl) (by simp[Value.oneCell']) (hK _ _ ?_);clear hK K hth;try simp only[Act.put]
   generalize World.setCells _ _ _ _=X3 at*;go_upto_region 9 with fail
   have A3:=h.out.there (boxOb k3 #[.slice ra m.regs.length rc,.slice (some ⟨cb,coff,none⟩) m.comps.length cc,.slice (some ⟨gb,goff,none⟩) m.gates.length gc,.int .i64 m.depth]) (by simp);have As:=h.out.there (boxOb ks (snR t).toArray) (by simp);have y1:X3.cell? ⟨k3,1,none⟩=some (.slice (some ⟨cb,coff,none⟩) m.comps.length cc):=A3.2.1 1;have y2:X3.cell? ⟨k3,2,none⟩=some (.slice (some ⟨gb,goff,none⟩) m.gates.length gc):=A3.2.1 2;have y3:X3.cell? ⟨ks,0,none⟩=some (.int .i64 t.at_.gate):=As.2.1 0;have y4:=(hB.out.cell (p:=⟨gb,_,none⟩) (show gb<B by omega)).trans cg;have y5:=(hB.out.cell (p:=⟨cb,_,none⟩) (show cb<B by omega)).trans cd;have y6:gb<X3.heap.size:=Nat.lt_of_lt_of_le hgb2 hB.out.size;have y7:cb<X3.heap.size:=Nat.lt_of_lt_of_le hcb2 hB.out.size;have y8:=A3.1;have y9:=As.1;have z1:(t.at_.gate:Int)<m.gates.length:=by omega
   have z2:(kOf P t.at_.gate:Int)<m.comps.length:=by omega
   clear A3 As;go_cut [14] (fun v wx=>v=.slice ka m.comps[kOf P t.at_.gate].code.length kc∧Hz (Below X3.heap.size X3 wx))
   case first=>
    go_quiet (fail)
    all_goals
     go_wp2_with fail;go_meet;exact⟨rfl,ζ (T.drewN_below _ _)⟩
   case rest=>
    obtain⟨e14,hbx⟩:=hcut;subst e14;replace hB:=ζ (hB.out.trans (hbx.out.mono (Nat.le_trans h.out.le (Nat.le_refl _))));replace h:=ζ (h.out.gr hbx.out);clear y1 y2 y3 y4 y5 y6 y7 y8 y9 z1 z2 hbx;have As:=h.out.there (boxOb ks (snR t).toArray) (by simp);have Ao:=h.out.there (boxOb k11 (List.toArray [Value.int .i64 t'.over.e,.int .u64 t'.over.v,.int .i64 t'.over.f,.int .i64 t'.at_.gate,.int .i64 t'.at_.pc])) (by simp);have y1:wc.cell? ⟨ks,1,none⟩=some (.int .i64 t.at_.pc):=As.2.1 1;have y2:wc.cell? ⟨k11,0,none⟩=some (.int .i64 t'.over.e):=Ao.2.1 0;have y3:=As.1;have y4:=Ao.1;clear As Ao;go_upto_region 10 with fail;go_cut [56] (fun v wx=>v=.bool (decide (tkC P t=1))∧wc=wx)
    case first=>
     by_cases hp:t.at_.pc<m.comps[kOf P t.at_.gate].code.length
     ·have hpi:(t.at_.pc:Int)<m.comps[kOf P t.at_.gate].code.length:=by omega
      obtain⟨kb,koff,rfl,hkb,hkb2,five⟩:=hl2.out t.at_.pc hp;have f0:=(hB.out.cell (p:=⟨kb,_,none⟩) (show kb<B by omega)).trans five.1;have f1:kb<wc.heap.size:=Nat.lt_of_lt_of_le hkb2 hB.out.size;have hib2:=hib.out;rw[List.getElem?_eq_getElem hp]at hib2;clear five;by_cases h29:m.comps[kOf P t.at_.gate].code[t.at_.pc].op=29
      ·have hi3:inB P t=true:=by rw[hib2];simpa using h29
       rw[h29]at f0;by_cases h6:t'.over.e=6
       ·have hv:Hz (tkC P t=0):=ζ (by rw[htc.out,if_neg (fun q=>q.2 h6)]);have h6b:(t'.over.e != 6)=false:=by simpa using h6
        clear hib2 hi3 h29;replace h6:=ζ h6;go_wp2_with fail;go_meet;exact⟨by rw[hv.out];rfl,rfl⟩
       ·have hv:Hz (tkC P t=1):=ζ (by rw[htc.out,if_pos ⟨hi3,h6⟩]);have h6b:(t'.over.e != 6)=true:=by simpa using h6
        clear hib2 hi3 h29;replace h6:=ζ h6;go_wp2_with fail;go_meet;exact⟨by rw[hv.out];rfl,rfl⟩
      ·have h29b:(m.comps[kOf P t.at_.gate].code[t.at_.pc].op==29)=false:=by simpa using h29
       have hi3:inB P t=false:=by rw[hib2];exact h29b
       have hv:Hz (tkC P t=0):=ζ (by rw[htc.out,if_neg (fun q=>by rw[hi3]at q;cases q.1)]);clear hib2 hi3;replace h29:=ζ h29;generalize m.comps[kOf P t.at_.gate].code[t.at_.pc].op=op at*;go_wp2_with fail;go_meet;exact⟨by rw[hv.out];rfl,rfl⟩
     ·have hpi:¬(t.at_.pc:Int)<m.comps[kOf P t.at_.gate].code.length:=by omega
      have hib2:=hib.out;rw[List.getElem?_eq_none (by omega)]at hib2;have hv:Hz (tkC P t=0):=ζ (by rw[htc.out,if_neg (fun q=>by rw[hib2]at q;cases q.1)]);clear hib2;go_wp2_with fail;go_meet;exact⟨by rw[hv.out];rfl,rfl⟩
    case rest=>
     obtain⟨e56,hwx⟩:=hcut;subst hwx;subst e56;have htk:tkC P t=0∨tkC P t=1:=by rw[htc.out];split<;>simp
     have nw:IntKind.u64.wrap ((n:Int)+1)=(n:Int)+1:=by rw[IntKind.wrap_u64];omega
     clear y1 y3;go_upto_if 56 with fail
     go_cut [9] (fun v wx=>v=.int .u64 ((n+tkC P t:Nat):Int)∧wc=wx)
     case first=>
      rcases htk with q|q
      ·rw[q];go_wp2_with fail;go_meet;exact⟨by simp[q],rfl⟩
      ·rw[q];go_wp2_with fail;go_meet;exact⟨by simp[q],rfl⟩
     case rest=>
      obtain⟨e9,hwx⟩:=hcut;subst hwx;subst e9;clear y2 y4;generalize hn2:n+tkC P t=n2 at*;have hn2b:n2≤j+1:=by omega
      clear nw htk hn2 htc hib;go_upto_region 13 with(go_at_call 30;refine(snap_any B a P t' _ _ h.out).mono ?_;rintro r Y ⟨rfl,e1⟩;have f2:=sn_f2 t' Y;replace hB:=ζ (hB.out.trans (h.out.bl e1).2);replace h:=ζ (h.out.bl e1).1;clear e1)
      clear f2;have Ao:=h.out.there (boxOb k11 (List.toArray [Value.int .i64 t'.over.e,.int .u64 t'.over.v,.int .i64 t'.over.f,.int .i64 t'.at_.gate,.int .i64 t'.at_.pc])) (by simp);have y2:Y.cell? ⟨k11,0,none⟩=some (.int .i64 t'.over.e):=Ao.2.1 0;have y4:=Ao.1;clear Ao;go_upto_if 64 with fail
      go_cut [10] (fun v wx=>v=.int .i64 ((max d t'.st.length:Nat):Int)∧Y=wx)
      case first=>
       by_cases q:d<t'.st.length
       ·have q1:(d:Int)<t'.st.length:=by omega
        have q2:max d t'.st.length=t'.st.length:=by omega
        go_wp2_with fail;go_meet;exact⟨by rw[q2],rfl⟩
       ·have q1:¬(d:Int)<t'.st.length:=by omega
        have q2:max d t'.st.length=d:=by omega
        go_wp2_with fail;go_meet;exact⟨by rw[q2],rfl⟩
      case rest=>
       obtain⟨e10,hwx⟩:=hcut;subst hwx;subst e10;generalize hd2:max d t'.st.length=d2 at*;have hd2b:d2≤100:=by omega
       by_cases he:t'.over.e=0
       ·have heb:(t'.over.e != 0)=false:=by simpa using he
        have jw:IntKind.u64.wrap ((j:Int)+1)=((j+1:Nat):Int):=by rw[IntKind.wrap_u64];omega
        have hnew:Hz (MIn B Y a P t' (boxOb k11 (wO t' (j+1)).toArray::boxOb k8 #[.int .i64 0,.int .u64 0,.int .i64 0,.int .i64 0,.int .i64 0]::boxOb k3 #[.slice ra m.regs.length rc,.slice (some ⟨cb,coff,none⟩) m.comps.length cc,.slice (some ⟨gb,goff,none⟩) m.gates.length gc,.int .i64 m.depth]::l)∧Below B w Y∧Okm P (n0+(j+1)) t'∧t'.over.e=0∧Tk P N s (j+1) t' n2 d2):=ζ ⟨by rw[wO_succ];exact h.out.swap.drop,hB.out,by have:=ok2.out;rwa [Nat.add_assoc]at this,he,hnx.out he⟩;replace he:=ζ he;go_wp2_with fail;go_roundw
        all_goals first|exact⟨j+1,n2,d2,t',rfl,rfl,by first|rfl|simp,by omega,by omega,by omega,hnew⟩|(simp only[intOf];omega)
       ·have heb:(t'.over.e != 0)=true:=by simpa using he
        obtain⟨x1,x2,x3⟩:=hla.out he;have hx:=ζ (And.intro x1 (And.intro x2 x3));replace he:=ζ he;replace h:=ζ h.out.swap.drop;clear x1 x2 x3 y2 y4 hnx hla;have Ao:=h.out.there (boxOb k11 (List.toArray [Value.int .i64 t'.over.e,.int .u64 t'.over.v,.int .i64 t'.over.f,.int .i64 t'.at_.gate,.int .i64 t'.at_.pc])) (by simp);have y2:Y.cell? ⟨k11,0,none⟩=some (.int .i64 t'.over.e):=Ao.2.1 0;have y4:=Ao.1;clear Ao;go_upto_region 16 with fail;clear y2 y4 heb;have Ao:=h.out.there (boxOb k11 (List.toArray [Value.int .i64 t'.over.e,.int .u64 t'.over.v,.int .i64 t'.over.f,.int .i64 t'.at_.gate,.int .i64 t'.at_.pc])) (by simp);have A8:=h.out.there (boxOb k8 #[.int .i64 0,.int .u64 0,.int .i64 0,.int .i64 0,.int .i64 0]) (by simp);have o0:Y.cell? ⟨k11,0,none⟩=some (.int .i64 t'.over.e):=Ao.2.1 0;have o1:Y.cell? ⟨k11,1,none⟩=some (.int .u64 t'.over.v):=Ao.2.1 1;have o2:Y.cell? ⟨k11,2,none⟩=some (.int .i64 t'.over.f):=Ao.2.1 2
        have o3:Y.cell? ⟨k11,3,none⟩=some (.int .i64 t'.at_.gate):=Ao.2.1 3;have o4:Y.cell? ⟨k11,4,none⟩=some (.int .i64 t'.at_.pc):=Ao.2.1 4;have olt:=Ao.1;have⟨zl,zp,zf⟩:=A8;have hA9:=ζ (At.setAll (cs:=[Value.int .i64 0,.int .u64 0,.int .i64 0,.int .i64 0,.int .i64 0]) A8 [Value.int .i64 t'.over.e,.int .u64 t'.over.v,.int .i64 t'.over.f,.int .i64 t'.at_.gate,.int .i64 t'.at_.pc] rfl);have hK9:=T.kp_setCells (fun k=>k=k8) k8 rfl [Value.int .i64 t'.over.e,.int .u64 t'.over.v,.int .i64 t'.over.f,.int .i64 t'.at_.gate,.int .i64 t'.at_.pc] 0 Y;have hS:=ζ (h.out.swap.side (o':=boxOb k8 (List.toArray [Value.int .i64 t'.over.e,.int .u64 t'.over.v,.int .i64 t'.over.f,.int .i64 t'.at_.gate,.int .i64 t'.at_.pc])) hA9.out hK9 (fun _ r=>.inl r));clear Ao A8 hK9;go_region;generalize hZ:World.drew _=Z;have hD:MIn B Z a P t' (boxOb k8 (List.toArray [Value.int .i64 t'.over.e,.int .u64 t'.over.v,.int .i64 t'.over.f,.int .i64 t'.at_.gate,.int .i64 t'.at_.pc])::boxOb k11 (List.toArray [Value.int .i64 t'.over.e,.int .u64 t'.over.v,.int .i64 t'.over.f,.int .i64 t'.at_.gate,.int .i64 t'.at_.pc])::boxOb k3 #[.slice ra m.regs.length rc,.slice (some ⟨cb,coff,none⟩) m.comps.length cc,.slice (some ⟨gb,goff,none⟩) m.gates.length gc,.int .i64 m.depth]::l)∧Below B Y Z:=by
         subst hZ;exact⟨(hS.out.1.bl (Bl.refl _).drew).1,hS.out.2.trans (hS.out.1.bl (Bl.refl _).drew).2⟩
        have hh:=ζ hD.1;have hB2:=ζ (hB.out.trans hD.2);clear hS hA9 o0 o1 o2 o3 o4 olt zl zp zf hZ;have A8:=hh.out.there (boxOb k8 (List.toArray [Value.int .i64 t'.over.e,.int .u64 t'.over.v,.int .i64 t'.over.f,.int .i64 t'.at_.gate,.int .i64 t'.at_.pc])) (by simp);have hrun:=run_loadVar_mid (P:=Tryz.prog) Z k8 0 50 [Value.int .i64 t'.over.e,.int .u64 t'.over.v,.int .i64 t'.over.f,.int .i64 t'.at_.gate,.int .i64 t'.at_.pc] _ (At.range A8) Tryz.underlying50 rfl (by kernel_rfl);clear A8 hD;go_wp2_with fail;have⟨x1,x2,x3⟩:=hx.out;refine bodyPost_ret (v:=.tuple #[.int .u64 n2,.int .i64 d2,.agg (List.toArray [Value.int .i64 t'.over.e,.int .u64 t'.over.v,.int .i64 t'.over.f,.int .i64 t'.at_.gate,.int .i64 t'.at_.pc])]) ?_ rfl ⟨by rw[←x1,←x2,←x3],by rw[←x3];exact hh.out.drop.drop.drop,hB2.out⟩;exact results_3 Tryz.results13 _ _ rfl rfl rfl hrun
  ·have hji:¬(j:Int)<N:=by omega
   have ejN:j=N:=by omega
   subst ejN;obtain⟨x1,x2,x3⟩:=tk.full;have hx:=ζ (And.intro x1 (And.intro x2 x3));have ew:=wO_tl t j (by omega);rw[ew]at h;replace h:=ζ h;replace hB:=ζ hB;clear x1 x2 x3 tk ok h0 ew;go_upto_region 16 with fail
   have Ao:=h.out.there (boxOb k11 (List.toArray [Value.int .i64 t.over.e,.int .u64 t.over.v,.int .i64 t.over.f,.int .i64 t.at_.gate,.int .i64 t.at_.pc])) (by simp);have A8:=h.out.there (boxOb k8 #[.int .i64 0,.int .u64 0,.int .i64 0,.int .i64 0,.int .i64 0]) (by simp);have o0:wr.cell? ⟨k11,0,none⟩=some (.int .i64 t.over.e):=Ao.2.1 0;have o1:wr.cell? ⟨k11,1,none⟩=some (.int .u64 t.over.v):=Ao.2.1 1;have o2:wr.cell? ⟨k11,2,none⟩=some (.int .i64 t.over.f):=Ao.2.1 2;have o3:wr.cell? ⟨k11,3,none⟩=some (.int .i64 t.at_.gate):=Ao.2.1 3;have o4:wr.cell? ⟨k11,4,none⟩=some (.int .i64 t.at_.pc):=Ao.2.1 4;have olt:=Ao.1;have⟨zl,zp,zf⟩:=A8;have hA9:=ζ (At.setAll (cs:=[Value.int .i64 0,.int .u64 0,.int .i64 0,.int .i64 0,.int .i64 0]) A8 [Value.int .i64 t.over.e,.int .u64 t.over.v,.int .i64 t.over.f,.int .i64 t.at_.gate,.int .i64 t.at_.pc] rfl);have hK9:=T.kp_setCells (fun k=>k=k8) k8 rfl [Value.int .i64 t.over.e,.int .u64 t.over.v,.int .i64 t.over.f,.int .i64 t.at_.gate,.int .i64 t.at_.pc] 0 wr
   have hS:=ζ (h.out.swap.side (o':=boxOb k8 (List.toArray [Value.int .i64 t.over.e,.int .u64 t.over.v,.int .i64 t.over.f,.int .i64 t.at_.gate,.int .i64 t.at_.pc])) hA9.out hK9 (fun _ r=>.inl r));clear Ao A8 hK9;go_region;generalize hZ:World.drew _=Z;have hD:MIn B Z a P t (boxOb k8 (List.toArray [Value.int .i64 t.over.e,.int .u64 t.over.v,.int .i64 t.over.f,.int .i64 t.at_.gate,.int .i64 t.at_.pc])::boxOb k11 (List.toArray [Value.int .i64 t.over.e,.int .u64 t.over.v,.int .i64 t.over.f,.int .i64 t.at_.gate,.int .i64 t.at_.pc])::boxOb k3 #[.slice ra m.regs.length rc,.slice ca m.comps.length cc,.slice ga m.gates.length gc,.int .i64 m.depth]::l)∧Below B wr Z:=by
    subst hZ;exact⟨(hS.out.1.bl (Bl.refl _).drew).1,hS.out.2.trans (hS.out.1.bl (Bl.refl _).drew).2⟩
   have hh:=ζ hD.1;have hB2:=ζ (hB.out.trans hD.2);clear hS hA9 o0 o1 o2 o3 o4 olt zl zp zf hZ;have A8:=hh.out.there (boxOb k8 (List.toArray [Value.int .i64 t.over.e,.int .u64 t.over.v,.int .i64 t.over.f,.int .i64 t.at_.gate,.int .i64 t.at_.pc])) (by simp);have hrun:=run_loadVar_mid (P:=Tryz.prog) Z k8 0 50 [Value.int .i64 t.over.e,.int .u64 t.over.v,.int .i64 t.over.f,.int .i64 t.at_.gate,.int .i64 t.at_.pc] _ (At.range A8) Tryz.underlying50 rfl (by kernel_rfl);clear A8 hD;go_wp2_with fail;have⟨x1,x2,x3⟩:=hx.out;refine bodyPost_ret (v:=.tuple #[.int .u64 n,.int .i64 d,.agg (List.toArray [Value.int .i64 t.over.e,.int .u64 t.over.v,.int .i64 t.over.f,.int .i64 t.at_.gate,.int .i64 t.at_.pc])]) ?_ rfl ⟨by rw[←x1,←x2,←x3],by rw[←x3];exact hh.out.drop.drop.drop,hB2.out⟩;exact results_3 Tryz.results13 _ _ rfl rfl rfl hrun
open T (Sep Ob Kp Mf TgIn boxOb Fm Tc Ed Vl Cp Bx tgOb mRow)
theorem sep_same {B B':Nat}{W:World}{l l':List Ob}(h:Sep B W l)(hS:l'.map Ob.S=l.map Ob.S)(hin:∀o∈l',o.In W)(hB:B'≤B):Sep B' W l':=by
 refine⟨hin,?_,fun o ho k q=>?_⟩
 ·have h1:(l.map Ob.S).Pairwise (fun s t=>∀k,s k→¬t k):=List.pairwise_map.2 h.dis;rw[←hS]at h1;exact List.pairwise_map.1 h1
 ·have h1:o.S∈l'.map Ob.S:=List.mem_map_of_mem ho;rw[hS]at h1;obtain⟨p,hp,e⟩:=List.mem_map.1 h1;exact Nat.le_trans hB (h.ge p hp k (by rw[e];exact q))
theorem sep_append {B:Nat}{W:World}{l l':List Ob}(h:Sep B W l)(h':Sep B W l')(hd:∀o∈l,∀p∈l',∀k,o.S k→¬p.S k):Sep B W (l++l'):=by
 refine⟨fun o ho=>?_,List.pairwise_append.2 ⟨h.dis,h'.dis,hd⟩,fun o ho=>?_⟩
 ·rcases List.mem_append.1 ho with r|r
  ·exact h.ins o r
  ·exact h'.ins o r
 ·rcases List.mem_append.1 ho with r|r
  ·exact h.ge o r
  ·exact h'.ge o r
theorem own_monoC {w:World}{lo lo2 e s n:Nat}{v:Value}{xs:List Value}(h:w.ownsRow lo e s v n xs)(hl:lo2≤lo):w.ownsRow lo2 e s v n xs:=by
 refine⟨h.1,?_⟩;rcases h.2 with q|⟨g,cap,cur,e1,e2,e3⟩
 ·exact .inl q
 ·exact .inr ⟨g,cap,cur,e1,Nat.le_trans hl e2,e3⟩
section
variable {B B':Nat} {W W':World} {a b:Nat} {P P':PImg} {s s' t:Ms} {l:List Ob} {q:Pt}
theorem obs_low (h1:Sep B W (obs B a P s q++l))(hB:B'≤B):Sep B' W (obs B' a P s q++l):=by
 refine sep_same h1 rfl (fun o ho=>?_) hB;rcases List.mem_append.1 ho with r|r
 ·simp only[obs,List.mem_cons,List.not_mem_nil,or_false]at r;rcases r with rfl|rfl|rfl|rfl|rfl|rfl|rfl
  ·exact h1.ins _ (by simp[obs])
  ·exact h1.ins _ (by simp[obs])
  ·exact own_monoC (h1.ins (stOb B q.sv s.st) (by simp[obs])) hB
  ·exact h1.ins _ (by simp[obs])
  ·exact own_monoC (h1.ins (ouOb B q.ov_ s.out) (by simp[obs])) hB
  ·exact own_monoC (h1.ins (tcOb B q.tv s.tou) (by simp[obs])) hB
  ·exact h1.ins _ (by simp[obs])
 ·exact h1.ins o (by simp[r])
def M2 (B:Nat)(W:World)(P:PImg)(a:Nat)(s:Ms)(b:Nat)(t:Ms)(l:List Ob):Prop:=∃q,PgOk P q∧MIn B W a P s (obs B b P t q++l)
theorem MIn.both (h:MIn B W a P s l)(h2:MIn B' W' b P t [])(hB:W.heap.size≤B')(hb:Below W.heap.size W W'):M2 B W' P a s b t l:=by
 obtain⟨⟨q,h1,hp⟩,le⟩:=h;obtain⟨⟨q',h3,hp'⟩,_⟩:=h2;have h4:=obs_low h3 (Nat.le_trans le hB);have hge:∀o∈obs B b P t q',∀k,o.S k→W.heap.size≤k:=fun o ho k r=>by
  have e:(obs B b P t q').map Ob.S=(obs B' b P t q').map Ob.S:=rfl;have h5:o.S∈(obs B b P t q').map Ob.S:=List.mem_map_of_mem ho;rw[e]at h5;obtain⟨p,hp,e2⟩:=List.mem_map.1 h5;exact Nat.le_trans hB (h3.ge p (by simp[hp]) k (by rw[e2];exact r))
 rw[List.append_nil]at h4;have h5:=sep_append (h1.gr hb) h4 (fun o ho p hp k r t=>by
  have:=hge p hp k t;have:=o.lt W (h1.ins o ho) k r;omega)
 refine⟨q',hp',⟨q,?_,hp⟩,Nat.le_trans le hb.size⟩;refine sep_perm h5 ?_;rw[List.append_assoc];exact List.Perm.append_left _ List.perm_append_comm
theorem M2.turn (h:M2 B W P a s b t l):M2 B W P b t a s l:=by
 obtain⟨q,hq,⟨q2,h1,hq2⟩,le⟩:=h;exact⟨q2,hq2,⟨q,sep_perm h1 (List.perm_append_comm_assoc _ _ _),hq⟩,le⟩
theorem M2.new (h:M2 B W P a s b t l)(cs:Array Value)(ty:TypeId):M2 B (W.alloc (.cells cs ty)) P a s b t (boxOb W.heap.size cs::l)∧Below B W (W.alloc (.cells cs ty)):=by
 obtain⟨q,hq,h⟩:=h;obtain⟨h2,hb⟩:=h.new cs ty;refine⟨⟨q,hq,?_⟩,hb⟩;obtain⟨⟨q2,h3,h4⟩,le⟩:=h2;exact⟨⟨q2,sep_perm h3 (List.Perm.append_left _ List.perm_middle.symm),h4⟩,le⟩
theorem M2.there (h:M2 B W P a s b t l)(o:Ob)(ho:o∈l):o.In W:=by
 obtain⟨q,_,h⟩:=h;exact h.there o (by simp[ho])
theorem M2.call (h:M2 B W P a s b t l){f:Nat}{args:Array Value}{r:Ending}(hc:∀l',MIn B W a P s l'→Calls Tryz.prog f args W fun x w'=>x=r∧MIn B w' a P s' l'∧Below B W w'):
 Calls Tryz.prog f args W fun x w'=>x=r∧M2 B w' P a s' b t l∧Below B W w':=by
 obtain⟨q,hq,h⟩:=h;refine(hc _ h).mono ?_;rintro x w' ⟨e,h1,h2⟩;exact⟨e,⟨q,hq,h1⟩,h2⟩
end
theorem own_cells {w:World}{lo e k n:Nat}{v:Value}{xs:List Value}(h:w.ownsRow lo e k v n xs)(h0:0<n):∃g cap,v=.slice (some ⟨g,0,none⟩) n cap∧g<w.heap.size∧∀j u,xs[j]?=some u→w.cell? ⟨g,j,none⟩=some u:=by
 have hlt:=h.lt;rcases h.2 with⟨_,h9⟩|⟨g,cap,cur,rfl,hb,hg,hc1,hc2,hc3,hc4⟩
 ·omega
 ·refine⟨g,cap,rfl,(hlt g rfl).2,fun j u q=>?_⟩;have hj:j<n*k:=by have:=(List.getElem?_eq_some_iff.1 q).1;rwa [h.1]at this
  rw[←hc4,List.getElem?_take_of_lt hj]at q;have:w.cell? ⟨g,j,none⟩=cur[j]?:=by simp[World.cell?,hg]
  rw[this,←q];simp
end C
end Go.Proofs.YthlpjlnehonpdaaGreatDoor
