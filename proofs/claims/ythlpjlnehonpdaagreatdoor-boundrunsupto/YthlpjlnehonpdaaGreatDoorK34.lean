import Derived.Test.YthlpjlnehonpdaaGreatDoorK33
import Derived.Laws.AppendOwn
import Derived.Test.YthlpjlnehonpdaaGreatDoorK26
import Derived.Test.YthlpjlnehonpdaaGreatDoorK17
namespace Go.Proofs.YthlpjlnehonpdaaGreatDoor
set_option maxRecDepth 100000
set_option maxHeartbeats 40000000
namespace C
open Go.RowKit
open T (Sep Ob Kp Mf TgIn boxOb Fm Tc Ed Vl Cp Bx tgOb mRow mRow_idx mRow_tail mRow_at updV flt)
theorem steps_any (B:Nat)(W0:World)(a:Nat)(P:PImg)(s:Ms)(l:List Ob)(n k:Nat)(most:Int)(hmk:most.toNat=k)(hP:POk P)(h:MIn B W0 a P s l)(ok:Okm P n s)(hn:n+k≤1000000)(h0:s.over.e=0):
 Calls Tryz.prog 21 #[.pointer (some ⟨a,0,none⟩),.int .i64 most] W0 fun x w'=>x=.returned (.tuple #[])∧MIn B w' a P (stepsM P k s) l∧Below B W0 w':=by
 have hmf:∀(fn:Fn) (first cap:Array Value) (w:World),(Instr.makeFunc fn first cap).run Tryz.prog w=.ok (.func fn first cap) w:=fun _ _ _ _=>rfl
 have h2:=ζ (h.new #[.pointer (some ⟨a,0,none⟩)] 44);clear h;have hs0:Hz (Okm P (n+0) s∧s.over.e=0∧stepsM P (k - 0) s=stepsM P k s):=ζ ⟨ok,h0,rfl⟩;replace h0:=ζ h0;replace ok:=ζ ok;generalize hR:stepsM P k s=sR;replace hR:=ζ hR;go_enter_defers Tryz.func21,Tryz.ntmps21;go_upto_region 2 with fail
 refine wp_world (fun W=>MIn B W a P s (boxOb W0.heap.size #[.pointer (some ⟨a,0,none⟩)]::l)∧Below B W0 W) h2.out ?_;clear h2;rintro W ⟨h,hB⟩;generalize W0.heap.size=kb at*;have⟨_,p0,_⟩:=h.there (boxOb kb #[.pointer (some ⟨a,0,none⟩)]) (.head _);have c123:=h.cell.2.2.1;rw[h0.out]at c123;have hlt:=h.alt;replace h:=ζ h;replace hB:=ζ hB;go_wp2_with fail;clear p0 c123 hlt;go_loopw [12] (fun i wr=>∃(j:Nat) (sj:Ms),i=.int .i64 j∧j≤k∧MIn B wr a P sj (boxOb kb #[.pointer (some ⟨a,0,none⟩)]::l)∧Below B W0 wr∧Okm P (n+j) sj∧sj.over.e=0∧stepsM P (k - j) sj=stepsM P k s) (fun i _=>k - (intOf i).toNat)
 case atStart=>exact⟨0,s,rfl,Nat.zero_le _,h.out,hB.out,hs0.out⟩
 case round=>
  clear h hB hs0 ok;obtain⟨j,sj,rfl,hj,h,hB,ok,h0j,hst⟩:=hrel;by_cases hjk:j<k
  ·have hkj:k - j=(k - (j+1))+1:=by omega
   cases hq:stepM P sj with
   |ok s'=>
    rw[hkj,stepsM_ok h0j hq]at hst;obtain⟨iv,hG⟩:=goes_of (B:=B) (a:=a) hP ok (by omega) hq;have hok':=ζ (okm_step hP ok hq);have hov:Hz (s'.over.e=0):=ζ (by rw[step_over hq];exact h0j);replace hG:=ζ hG;replace hst:=ζ hst;replace ok:=ζ ok;clear hq;have jl:(j:Int)<most:=by omega
    replace hB:=ζ (hB.trans (h.bl (Bl.refl wr).drew).2);replace h:=ζ (h.bl (Bl.refl wr).drew).1;go_upto_region 5 with fail
    refine wp_region_held_drew (S:=(fun X=>X.cell? ⟨kb,0,none⟩=some (.pointer (some ⟨a,0,none⟩)))) (by kernel_rfl) (((h.out.there (boxOb kb #[.pointer (some ⟨a,0,none⟩)]) (.head _)).2.1 0)) (fun hHeld=>?_);generalize wr.drew=X0 at*;refine wpAnyH_ready (rs:=[0,1]) (by kernel_rfl) (by simp) ?_;refine(xcn rfl (fun K hK=>?_) (xcn rfl (fun K hK=>?_) AllReadyH.nil))
    ·skip
     go_simp;clear hHeld;refine hK.out _ _ ((h.out.there (boxOb kb #[.pointer (some ⟨a,0,none⟩)]) (.head _)).2.1 0) (fun hHeld=>?_);clear hK K;try simp only[xap]
     refine xrd 1 rfl (fun K hK=>?_);go_simp;clear hHeld;refine hK.out _ _ ((h.out.there (boxOb kb #[.pointer (some ⟨a,0,none⟩)]) (.head _)).2.1 0) (fun hHeld=>?_);clear hK K;try simp only[xap]
     refine xrd 2 rfl (fun K hK=>?_);go_simp;refine(hG.out.fe _ _ h.out).mono ?_;rintro r Y1 ⟨rfl,e1⟩;replace hB:=ζ (hB.out.trans (h.out.bl e1).2);replace h:=ζ (h.out.bl e1).1;clear e1 hHeld;refine hK.out _ _ ((h.out.there (boxOb kb #[.pointer (some ⟨a,0,none⟩)]) (.head _)).2.1 0) (fun hHeld=>?_);clear hK K;try simp only[xap]
     refine xrd 3 rfl (fun K hK=>?_);go_simp;refine(hG.out.go _ _ h.out).mono ?_;rintro r Y2 ⟨rfl,h6,hB6⟩;replace hB:=ζ (hB.out.trans hB6);replace h:=ζ h6;clear h6 hB6 hHeld;refine hK.out _ _ ((h.out.there (boxOb kb #[.pointer (some ⟨a,0,none⟩)]) (.head _)).2.1 0) (fun hHeld=>?_);clear hK K;try simp only[xap]
     refine xdn ?_ _;clear hHeld;go_wp2_with fail;exact⟨⟨j+1,s',by go_num,by omega,h.out,hB.out,by rw[←Nat.add_assoc];exact hok'.out,hov.out,hst.out⟩,by simp[intOf];omega⟩
    ·skip
     go_simp;clear hHeld;refine hK.out _ _ ((h.out.there (boxOb kb #[.pointer (some ⟨a,0,none⟩)]) (.head _)).2.1 0) (fun hHeld=>?_);clear hK K;try simp only[xap]
     refine wpAnyH_ready (rs:=[0,2]) (by kernel_rfl) (by simp) ?_;refine(xcn rfl (fun K hK=>?_) (xcn rfl (fun K hK=>?_) AllReadyH.nil))
     ·skip
      go_simp;clear hHeld;refine hK.out _ _ ((h.out.there (boxOb kb #[.pointer (some ⟨a,0,none⟩)]) (.head _)).2.1 0) (fun hHeld=>?_);clear hK K;try simp only[xap]
      refine xrd 2 rfl (fun K hK=>?_);go_simp;refine(hG.out.fe _ _ h.out).mono ?_;rintro r Y1 ⟨rfl,e1⟩;replace hB:=ζ (hB.out.trans (h.out.bl e1).2);replace h:=ζ (h.out.bl e1).1;clear e1 hHeld;refine hK.out _ _ ((h.out.there (boxOb kb #[.pointer (some ⟨a,0,none⟩)]) (.head _)).2.1 0) (fun hHeld=>?_);clear hK K;try simp only[xap]
      refine xrd 3 rfl (fun K hK=>?_);go_simp;refine(hG.out.go _ _ h.out).mono ?_;rintro r Y2 ⟨rfl,h6,hB6⟩;replace hB:=ζ (hB.out.trans hB6);replace h:=ζ h6;clear h6 hB6 hHeld;refine hK.out _ _ ((h.out.there (boxOb kb #[.pointer (some ⟨a,0,none⟩)]) (.head _)).2.1 0) (fun hHeld=>?_);clear hK K;try simp only[xap]
      refine xdn ?_ _;clear hHeld;go_wp2_with fail;exact⟨⟨j+1,s',by go_num,by omega,h.out,hB.out,by rw[←Nat.add_assoc];exact hok'.out,hov.out,hst.out⟩,by simp[intOf];omega⟩
     ·skip
      go_simp;refine(hG.out.fe _ _ h.out).mono ?_;rintro r Y1 ⟨rfl,e1⟩;replace hB:=ζ (hB.out.trans (h.out.bl e1).2);replace h:=ζ (h.out.bl e1).1;clear e1 hHeld;refine hK.out _ _ ((h.out.there (boxOb kb #[.pointer (some ⟨a,0,none⟩)]) (.head _)).2.1 0) (fun hHeld=>?_);clear hK K;try simp only[xap]
      refine xrd 0 rfl (fun K hK=>?_);go_simp;clear hHeld;refine hK.out _ _ ((h.out.there (boxOb kb #[.pointer (some ⟨a,0,none⟩)]) (.head _)).2.1 0) (fun hHeld=>?_);clear hK K;try simp only[xap]
      refine xrd 3 rfl (fun K hK=>?_);go_simp;refine(hG.out.go _ _ h.out).mono ?_;rintro r Y2 ⟨rfl,h6,hB6⟩;replace hB:=ζ (hB.out.trans hB6);replace h:=ζ h6;clear h6 hB6 hHeld;refine hK.out _ _ ((h.out.there (boxOb kb #[.pointer (some ⟨a,0,none⟩)]) (.head _)).2.1 0) (fun hHeld=>?_);clear hK K;try simp only[xap]
      refine xdn ?_ _;clear hHeld;go_wp2_with fail;exact⟨⟨j+1,s',by go_num,by omega,h.out,hB.out,by rw[←Nat.add_assoc];exact hok'.out,hov.out,hst.out⟩,by simp[intOf];omega⟩
   |error e=>
    rw[hkj,stepsM_err h0j hq]at hst;have hse:sj.ended e=sR:=hst.trans hR.out;subst hse;rcases ends_of (B:=B) (a:=a) hP ok (by omega) hq with hO|⟨iv,hG⟩
    ·replace hO:=ζ hO;replace hst:=ζ hst;replace ok:=ζ ok;clear hq;have jl:(j:Int)<most:=by omega
     replace hB:=ζ (hB.trans (h.bl (Bl.refl wr).drew).2);replace h:=ζ (h.bl (Bl.refl wr).drew).1;go_upto_region 5 with fail
     refine wp_region_held_drew (S:=(fun X=>X.cell? ⟨kb,0,none⟩=some (.pointer (some ⟨a,0,none⟩)))) (by kernel_rfl) (((h.out.there (boxOb kb #[.pointer (some ⟨a,0,none⟩)]) (.head _)).2.1 0)) (fun hHeld=>?_);generalize wr.drew=X0 at*;refine wpAnyH_ready (rs:=[0,1]) (by kernel_rfl) (by simp) ?_;refine(xcn rfl (fun K hK=>?_) (xcn rfl (fun K hK=>?_) AllReadyH.nil))
     ·skip
      go_simp;clear hHeld;refine hK.out _ _ ((h.out.there (boxOb kb #[.pointer (some ⟨a,0,none⟩)]) (.head _)).2.1 0) (fun hHeld=>?_);clear hK K;try simp only[xap]
      refine xrd 1 rfl (fun K hK=>?_);go_simp;clear hHeld;refine hK.out _ _ ((h.out.there (boxOb kb #[.pointer (some ⟨a,0,none⟩)]) (.head _)).2.1 0) (fun hHeld=>?_);clear hK K;try simp only[xap]
      refine xrd 2 rfl (fun K hK=>?_);go_simp;refine(hO.out _ _ h.out).mono ?_;rintro r Y1 ⟨rfl,e1⟩;replace hB:=ζ (hB.out.trans (h.out.bl e1).2);replace h:=ζ (h.out.bl e1).1;clear e1
      (show bodyPostD Tryz.prog _ _ (Exit.panic _) _ _)
      refine leaves_cons (f:=48) (args:=#[.pointer (some ⟨kb,0,none⟩)]) (by simp) (by simp[go_sem]) ?_;refine(caught h.out e).mono ?_;rintro y u' w'' ⟨rfl,rfl,h9,B9⟩;simp[Leaves,settle,results,Tryz.results21,go_sem];exact⟨h9,hB.out.trans B9⟩
     ·skip
      go_simp;clear hHeld;refine hK.out _ _ ((h.out.there (boxOb kb #[.pointer (some ⟨a,0,none⟩)]) (.head _)).2.1 0) (fun hHeld=>?_);clear hK K;try simp only[xap]
      refine wpAnyH_ready (rs:=[0,2]) (by kernel_rfl) (by simp) ?_;refine(xcn rfl (fun K hK=>?_) (xcn rfl (fun K hK=>?_) AllReadyH.nil))
      ·skip
       go_simp;clear hHeld;refine hK.out _ _ ((h.out.there (boxOb kb #[.pointer (some ⟨a,0,none⟩)]) (.head _)).2.1 0) (fun hHeld=>?_);clear hK K;try simp only[xap]
       refine xrd 2 rfl (fun K hK=>?_);go_simp;refine(hO.out _ _ h.out).mono ?_;rintro r Y1 ⟨rfl,e1⟩;replace hB:=ζ (hB.out.trans (h.out.bl e1).2);replace h:=ζ (h.out.bl e1).1;clear e1
       (show bodyPostD Tryz.prog _ _ (Exit.panic _) _ _)
       refine leaves_cons (f:=48) (args:=#[.pointer (some ⟨kb,0,none⟩)]) (by simp) (by simp[go_sem]) ?_;refine(caught h.out e).mono ?_;rintro y u' w'' ⟨rfl,rfl,h9,B9⟩;simp[Leaves,settle,results,Tryz.results21,go_sem];exact⟨h9,hB.out.trans B9⟩
      ·skip
       go_simp;refine(hO.out _ _ h.out).mono ?_;rintro r Y1 ⟨rfl,e1⟩;replace hB:=ζ (hB.out.trans (h.out.bl e1).2);replace h:=ζ (h.out.bl e1).1;clear e1
       (show bodyPostD Tryz.prog _ _ (Exit.panic _) _ _)
       refine leaves_cons (f:=48) (args:=#[.pointer (some ⟨kb,0,none⟩)]) (by simp) (by simp[go_sem]) ?_;refine(caught h.out e).mono ?_;rintro y u' w'' ⟨rfl,rfl,h9,B9⟩;simp[Leaves,settle,results,Tryz.results21,go_sem];exact⟨h9,hB.out.trans B9⟩
    ·replace hG:=ζ hG;replace hst:=ζ hst;replace ok:=ζ ok;clear hq;have jl:(j:Int)<most:=by omega
     replace hB:=ζ (hB.trans (h.bl (Bl.refl wr).drew).2);replace h:=ζ (h.bl (Bl.refl wr).drew).1;go_upto_region 5 with fail
     refine wp_region_held_drew (S:=(fun X=>X.cell? ⟨kb,0,none⟩=some (.pointer (some ⟨a,0,none⟩)))) (by kernel_rfl) (((h.out.there (boxOb kb #[.pointer (some ⟨a,0,none⟩)]) (.head _)).2.1 0)) (fun hHeld=>?_);generalize wr.drew=X0 at*;refine wpAnyH_ready (rs:=[0,1]) (by kernel_rfl) (by simp) ?_;refine(xcn rfl (fun K hK=>?_) (xcn rfl (fun K hK=>?_) AllReadyH.nil))
     ·skip
      go_simp;clear hHeld;refine hK.out _ _ ((h.out.there (boxOb kb #[.pointer (some ⟨a,0,none⟩)]) (.head _)).2.1 0) (fun hHeld=>?_);clear hK K;try simp only[xap]
      refine xrd 1 rfl (fun K hK=>?_);go_simp;clear hHeld;refine hK.out _ _ ((h.out.there (boxOb kb #[.pointer (some ⟨a,0,none⟩)]) (.head _)).2.1 0) (fun hHeld=>?_);clear hK K;try simp only[xap]
      refine xrd 2 rfl (fun K hK=>?_);go_simp;refine(hG.out.fe _ _ h.out).mono ?_;rintro r Y1 ⟨rfl,e1⟩;replace hB:=ζ (hB.out.trans (h.out.bl e1).2);replace h:=ζ (h.out.bl e1).1;clear e1 hHeld;refine hK.out _ _ ((h.out.there (boxOb kb #[.pointer (some ⟨a,0,none⟩)]) (.head _)).2.1 0) (fun hHeld=>?_);clear hK K;try simp only[xap]
      refine xrd 3 rfl (fun K hK=>?_);go_simp;refine(hG.out.go _ _ h.out).mono ?_;rintro r Y2 ⟨rfl,h6,hB6⟩;replace hB:=ζ (hB.out.trans hB6);replace h:=ζ h6;clear h6 hB6
      (show bodyPostD Tryz.prog _ _ (Exit.panic _) _ _)
      refine leaves_cons (f:=48) (args:=#[.pointer (some ⟨kb,0,none⟩)]) (by simp) (by simp[go_sem]) ?_;refine(caught h.out e).mono ?_;rintro y u' w'' ⟨rfl,rfl,h9,B9⟩;simp[Leaves,settle,results,Tryz.results21,go_sem];exact⟨h9,hB.out.trans B9⟩
     ·skip
      go_simp;clear hHeld;refine hK.out _ _ ((h.out.there (boxOb kb #[.pointer (some ⟨a,0,none⟩)]) (.head _)).2.1 0) (fun hHeld=>?_);clear hK K;try simp only[xap]
      refine wpAnyH_ready (rs:=[0,2]) (by kernel_rfl) (by simp) ?_;refine(xcn rfl (fun K hK=>?_) (xcn rfl (fun K hK=>?_) AllReadyH.nil))
      ·skip
       go_simp;clear hHeld;refine hK.out _ _ ((h.out.there (boxOb kb #[.pointer (some ⟨a,0,none⟩)]) (.head _)).2.1 0) (fun hHeld=>?_);clear hK K;try simp only[xap]
       refine xrd 2 rfl (fun K hK=>?_);go_simp;refine(hG.out.fe _ _ h.out).mono ?_;rintro r Y1 ⟨rfl,e1⟩;replace hB:=ζ (hB.out.trans (h.out.bl e1).2);replace h:=ζ (h.out.bl e1).1;clear e1 hHeld;refine hK.out _ _ ((h.out.there (boxOb kb #[.pointer (some ⟨a,0,none⟩)]) (.head _)).2.1 0) (fun hHeld=>?_);clear hK K;try simp only[xap]
       refine xrd 3 rfl (fun K hK=>?_);go_simp;refine(hG.out.go _ _ h.out).mono ?_;rintro r Y2 ⟨rfl,h6,hB6⟩;replace hB:=ζ (hB.out.trans hB6);replace h:=ζ h6;clear h6 hB6
       (show bodyPostD Tryz.prog _ _ (Exit.panic _) _ _)
       refine leaves_cons (f:=48) (args:=#[.pointer (some ⟨kb,0,none⟩)]) (by simp) (by simp[go_sem]) ?_;refine(caught h.out e).mono ?_;rintro y u' w'' ⟨rfl,rfl,h9,B9⟩;simp[Leaves,settle,results,Tryz.results21,go_sem];exact⟨h9,hB.out.trans B9⟩
      ·skip
       go_simp;refine(hG.out.fe _ _ h.out).mono ?_;rintro r Y1 ⟨rfl,e1⟩;replace hB:=ζ (hB.out.trans (h.out.bl e1).2);replace h:=ζ (h.out.bl e1).1;clear e1 hHeld;refine hK.out _ _ ((h.out.there (boxOb kb #[.pointer (some ⟨a,0,none⟩)]) (.head _)).2.1 0) (fun hHeld=>?_);clear hK K;try simp only[xap]
       refine xrd 0 rfl (fun K hK=>?_);go_simp;clear hHeld;refine hK.out _ _ ((h.out.there (boxOb kb #[.pointer (some ⟨a,0,none⟩)]) (.head _)).2.1 0) (fun hHeld=>?_);clear hK K;try simp only[xap]
       refine xrd 3 rfl (fun K hK=>?_);go_simp;refine(hG.out.go _ _ h.out).mono ?_;rintro r Y2 ⟨rfl,h6,hB6⟩;replace hB:=ζ (hB.out.trans hB6);replace h:=ζ h6;clear h6 hB6
       (show bodyPostD Tryz.prog _ _ (Exit.panic _) _ _)
       refine leaves_cons (f:=48) (args:=#[.pointer (some ⟨kb,0,none⟩)]) (by simp) (by simp[go_sem]) ?_;refine(caught h.out e).mono ?_;rintro y u' w'' ⟨rfl,rfl,h9,B9⟩;simp[Leaves,settle,results,Tryz.results21,go_sem];exact⟨h9,hB.out.trans B9⟩
  ·have:j=k:=by omega
   have jl:¬(j:Int)<most:=by omega
   subst this;rw[Nat.sub_self]at hst;have hse:sj=sR:=(show stepsM P 0 sj=_ from hst).trans hR.out;subst hse;have hC:=ζ (fun W=>catch_idle kb W);replace h:=ζ h;replace hB:=ζ hB;replace hst:=ζ hst;go_wp2_with fail;refine leaves_cons (f:=48) (args:=#[.pointer (some ⟨kb,0,none⟩)]) (by simp) (by simp[go_sem]) ?_;refine(hC.out _).mono ?_;rintro y u' w'' ⟨rfl,rfl,rfl⟩;exact⟨.tuple #[],results_none rfl _ _ _,rfl,h.out.drop,hB.out⟩
theorem steps_over (B:Nat)(W0:World)(a:Nat)(P:PImg)(s:Ms)(l:List Ob)(most:Int)(h:MIn B W0 a P s l)(h0:¬s.over.e=0):
 Calls Tryz.prog 21 #[.pointer (some ⟨a,0,none⟩),.int .i64 most] W0 fun x w'=>x=.returned (.tuple #[])∧MIn B w' a P s l∧Below B W0 w':=by
 have hmf:∀(fn:Fn) (first cap:Array Value) (w:World),(Instr.makeFunc fn first cap).run Tryz.prog w=.ok (.func fn first cap) w:=fun _ _ _ _=>rfl
 have h2:=ζ (h.new #[.pointer (some ⟨a,0,none⟩)] 44);clear h;go_enter_defers Tryz.func21,Tryz.ntmps21;go_upto_region 2 with fail
 refine wp_world (fun W=>MIn B W a P s (boxOb W0.heap.size #[.pointer (some ⟨a,0,none⟩)]::l)∧Below B W0 W) h2.out ?_;clear h2;rintro W ⟨h,hB⟩;generalize W0.heap.size=kb at*;have⟨_,p0,_⟩:=h.there (boxOb kb #[.pointer (some ⟨a,0,none⟩)]) (.head _);have c123:=h.cell.2.2.1;have hlt:=h.alt;have hC:=ζ (fun W=>catch_idle kb W);replace h:=ζ h;replace hB:=ζ hB;have h1:(s.over.e != 0)=true:=by simpa using h0
 generalize s.over.e=x at*;go_wp2_with fail;refine leaves_cons (f:=48) (args:=#[.pointer (some ⟨kb,0,none⟩)]) (by simp) (by simp[go_sem]) ?_;refine(hC.out _).mono ?_;rintro y u' w'' ⟨rfl,rfl,rfl⟩;exact⟨.tuple #[],results_none rfl _ _ _,rfl,h.out.drop,hB.out⟩
open T (Sep Ob Kp Mf boxOb)
theorem eqs_u64 (ad:Addr)(n c:Nat)(W:World):(binOp .eql 46 (.slice (some ad) n c) (.slice none 0 0)).run Tryz.prog W=.ok (.bool false) W:=rfl
theorem eqn_u64 (n c:Nat)(W:World):(binOp .eql 46 (.slice none n c) (.slice none 0 0)).run Tryz.prog W=.ok (.bool true) W:=rfl
theorem clone_u64 (b off n c:Nat)(xs:List Value)(w:World)(hb:b<w.heap.size)(hl:xs.length=n*1)(hc:∀j u,xs[j]?=some u→w.cell? ⟨b,off+j,none⟩=some u)(h1:∀u∈xs,u.oneCell'=true)(hn:n≤2000000):
 Calls Tryz.prog 47 #[.slice (some ⟨b,off,none⟩) n c] w fun x w'=>∃v,x=.returned v∧w'.ownsRow w.heap.size 25 1 v n xs∧Below w.heap.size w w':=by
 have eq0:=eqs_u64 ⟨b,off,none⟩ n c;obtain⟨i0,hi,hz0,hz1,hz2⟩:=T.info_parts' (t:=25) (z:=.int .u64 0) (s:=1) (b:=8) (by kernel_rfl);have hO:(w.alloc (.cells #[] 25)).ownsRow w.heap.size 25 1 (.slice (some ⟨w.heap.size,0,none⟩) 0 0) 0 []:=⟨by simp,.inr ⟨w.heap.size,0,#[],rfl,Nat.le_refl _,(MapKept.heap_alloc w _).1,Nat.le_refl _,by simp[maxLen],by simp,by simp⟩⟩;have hc2:∀j u,xs[j]?=some u→(w.alloc (.cells #[] 25)).cell? ((⟨b,off,none⟩:Addr).add j)=some u:=fun j u q=>by
  rw[addr_addZ];exact(T.cell_of_block (((Below.refl _ w).alloc (Nat.le_refl _) _).block b hb) _).trans (hc j u q)
 have hby:(0+n)*8≤140737488355328:=by omega
 replace hO:=ζ hO;replace hc2:=ζ hc2;replace hc:=ζ hc;replace h1:=ζ h1;go_enter Tryz.func47,Tryz.ntmps47;go_wp2_with(at_builtin;refine wpList_append_own_at _ rfl (.tmp 5) (.tmp 6) 46 rfl w.heap.size 25 i0 (.int .u64 0) 1 8 Tryz.underlying46 hi hz0 hz1 hz2 rfl (by decide) (.slice (some ⟨w.heap.size,0,none⟩) 0 0) 0 [] rfl hO.out ⟨b,off,none⟩ n c xs rfl hl hc2.out h1.out (by unfold maxLen;omega) hby (by simp) ?_);intro v' w' g1 g2 _ _;replace g1:=ζ g1;have g4:Hz (Below w.heap.size w w'):=ζ (Below.trans (((Below.refl _ w).alloc (Nat.le_refl _) _)) (T.Below.of_grown g2 (by simp) (fun k r=>by simp[Value.ownBlock]at r;omega)));clear g2;go_wp2_with fail;go_ret;exact⟨_,rfl,g1.out,g4.out⟩
theorem clnil_u64 (w:World):Calls Tryz.prog 47 #[.slice none 0 0] w fun x w'=>x=.returned (.slice none 0 0)∧w'=w:=by
 have eq0:=eqn_u64 0 0;go_enter Tryz.func47,Tryz.ntmps47;go_wp2_with fail;go_ret;exact⟨rfl,rfl⟩
open T (Sep Ob Kp Mf TgIn boxOb Fm Tc Ed Vl Cp Bx tgOb mRow mRow_idx mRow_tail mRow_at updV flt Vl.row_len integer_any ofI)
theorem entry1_any (t:PTyp)(w:World):Calls Tryz.prog 67 #[.agg #[.bool t.cap,.int .u64 t.b,.int .u64 t.e,.int .u64 t.lo,.int .u64 t.hi,.int .u8 t.p,.int .i64 t.s]] w fun x w'=>x=.returned (.bool t.cap)∧Bl w w':=by
 go_enter Tryz.func67,Tryz.ntmps67;go_wp2_with fail;go_ret;exact⟨rfl,(Bl.refl _).alloc _⟩
def IxOk (r:Int)(b:Bool):Prop:=decide (0≤r)=b
theorem index_any (Ty:List PTyp)(ta:Option Addr)(tc:Nat)(w:World)(hT:FIn 7 PTyp.vals w.heap.size w ta Ty)(hl:Ty.length≤1000):
 Calls Tryz.prog 98 #[.slice ta Ty.length tc,.func (.func 67) #[] #[]] w fun x w'=>∃r:Int,x=.returned (.int .i64 r)∧IxOk r (Ty.any PTyp.cap)∧Bl w w':=by
 have hE:=ζ entry1_any;replace hT:=ζ hT;go_enter Tryz.func98,Tryz.ntmps98;go_wp2_with fail;go_loopw [8] (fun i wr=>∃j:Nat,i=.int .i64 j∧j≤Ty.length∧Bl w wr∧(Ty.take j).any PTyp.cap=false) (fun i _=>Ty.length - (intOf i).toNat)
 case atStart=>exact⟨0,rfl,Nat.zero_le _,Bl.refl _,rfl⟩
 case round=>
  obtain⟨j,rfl,hj,g,hf⟩:=hrel;by_cases hjl:j<Ty.length
  ·have jl:(j:Int)<Ty.length:=by omega
   obtain⟨b,off,rfl,_,hb,hc⟩:=hT.out j hjl;have q0:=(g.cell (p:=⟨b,_,none⟩) hb).trans (hc 0 (by omega));have q1:=(g.cell (p:=⟨b,_,none⟩) hb).trans (hc 1 (by omega));have q2:=(g.cell (p:=⟨b,_,none⟩) hb).trans (hc 2 (by omega));have q3:=(g.cell (p:=⟨b,_,none⟩) hb).trans (hc 3 (by omega));have q4:=(g.cell (p:=⟨b,_,none⟩) hb).trans (hc 4 (by omega));have q5:=(g.cell (p:=⟨b,_,none⟩) hb).trans (hc 5 (by omega));have q6:=(g.cell (p:=⟨b,_,none⟩) hb).trans (hc 6 (by omega));simp only[PTyp.vals,List.getElem?_cons_zero,List.getElem?_cons_succ,Nat.add_zero]at q0 q1 q2 q3 q4 q5 q6;have hb':b<wr.heap.size:=Nat.lt_of_lt_of_le hb g.size;have hS:(Ty.take (j+1)).any PTyp.cap=Ty[j].cap:=by rw[List.take_succ_eq_append_getElem hjl,List.any_append,hf];simp
   have hS2:Ty[j].cap=true→Ty.any PTyp.cap=true:=fun e=>List.any_eq_true.2 ⟨Ty[j],List.getElem_mem hjl,e⟩
   have hv:=hE.out Ty[j];clear hc;generalize Ty[j]=t at*;obtain⟨cb,hcb⟩:∃cb,t.cap=cb:=⟨_,rfl⟩;rw[hcb]at hS hS2 hv q0;replace hS:=ζ hS;replace hS2:=ζ hS2;replace hf:=ζ hf;replace hv:=ζ hv;replace hcb:=ζ hcb;go_wp2_with fail;refine(hv.out _).mono ?_;rintro r X1 ⟨rfl,e1⟩;clear q0 q1 q2 q3 q4 q5 q6
   cases cb
   ·go_wp2_with fail;exact⟨⟨j+1,by go_num,by omega,g.trans e1,hS.out⟩,by simp[intOf];omega⟩
   ·go_wp2_with fail;have e:=hS2.out (by first|rfl|trivial);go_ret;exact⟨(j:Int),rfl,by unfold IxOk;rw[e];simp,g.trans e1⟩
  ·have jl:¬(j:Int)<Ty.length:=by omega
   have:j=Ty.length:=by omega
   subst this;rw[List.take_length]at hf;replace hf:=ζ hf;go_wp2_with fail;go_ret;exact⟨(-1:Int),rfl,by unfold IxOk;rw[hf.out];rfl,g⟩
theorem contains_any (Ty:List PTyp)(ta:Option Addr)(tc:Nat)(w:World)(hT:FIn 7 PTyp.vals w.heap.size w ta Ty)(hl:Ty.length≤1000):
 Calls Tryz.prog 66 #[.slice ta Ty.length tc,.func (.func 67) #[] #[]] w fun x w'=>x=.returned (.bool (Ty.any PTyp.cap))∧Bl w w':=by
 have hX:=index_any Ty ta tc w hT hl;generalize Ty.any PTyp.cap=q at*;replace hX:=ζ hX;go_enter Tryz.func66,Tryz.ntmps66;go_wp2_with fail;refine hX.out.mono ?_;rintro x w1 ⟨r,rfl,h1,h2⟩;have h3:q=decide (0≤r):=h1.symm;clear h1 hX;subst h3;go_wp2_with fail;go_ret;exact⟨rfl,h2⟩
def isEnt (m:PImg)(g:Int):Bool:=if 0≤g∧g<m.gates.length then !((argsOf m g.toNat).any PTyp.cap)else false
theorem isEntry_any (m:PImg)(g:Int)(ra ca ga:Option Addr)(rn rc cn cc gc:Nat)(d:Int)(w:World)(hG:GateIn w.heap.size w ga m.gates)(hl:∀x∈m.gates,x.args.length≤1000):
 Calls Tryz.prog 42 #[.agg #[.slice ra rn rc,.slice ca cn cc,.slice ga m.gates.length gc,.int .i64 d],.int .i64 g] w fun x w'=>x=.returned (.bool (isEnt m g))∧Bl w w':=by
 unfold isEnt;by_cases h1:0≤g∧g<m.gates.length
 ·rw[if_pos h1];obtain⟨k,rfl⟩:∃k:Nat,g=k:=⟨g.toNat,by omega⟩;have hk:k<m.gates.length:=by omega
  rw[Int.toNat_natCast,argsOf_at m k hk];obtain⟨b,off,xa,xc,ya,yc,rfl,_,hb,c0,c1,c2,c3,hx,_⟩:=hG k hk;replace c2:w.cell? ⟨b,off+k*4+2,none⟩=_:=c2;have hC:=ζ (fun X (q:Bl w X)=>contains_any m.gates[k].args xa xc X ((hx.below q).mono q.size) (hl _ (List.getElem_mem hk)));have hb2:b<w.heap.size+1:=by omega
  have e1:¬(k:Int)<0:=by omega
  have e2:¬(m.gates.length:Int)≤(k:Int):=by omega
  have e3:(k:Int)<(m.gates.length:Int):=by omega
  generalize m.gates[k].args.any PTyp.cap=q at*;clear hG h1 c0 c1 c3 hx;go_enter Tryz.func42,Tryz.ntmps42;go_wp2_with fail;refine(hC.out _ ((Bl.refl _).alloc _)).mono ?_;rintro x w1 ⟨rfl,e9⟩;replace e9:=ζ (((Bl.refl w).alloc _).trans e9);clear c2;go_wp2_with fail;go_ret;exact⟨rfl,e9.out⟩
 ·rw[if_neg h1];clear hG hl;by_cases h2:g<0
  ·go_enter Tryz.func42,Tryz.ntmps42;go_wp2_with fail;go_ret;exact⟨rfl,(Bl.refl _).alloc _⟩
  ·have h3:(m.gates.length:Int)≤g:=by omega
   clear h1;go_enter Tryz.func42,Tryz.ntmps42;go_wp2_with fail;go_ret;exact⟨rfl,(Bl.refl _).alloc _⟩
def NumIn (w:World)(a:Option Addr)(L:List Nat):Prop:=∀i (h:i<L.length),∃b off,a=some ⟨b,off,none⟩∧b<w.heap.size∧w.cell? ⟨b,off+i,none⟩=some (.int .u64 L[i])
theorem NumIn.bl {w W:World}{a:Option Addr}{L:List Nat}(h:NumIn w a L)(g:Bl w W):NumIn W a L:=fun i hi=>by
 obtain⟨b,off,e,hl,hc⟩:=h i hi;exact⟨b,off,e,Nat.lt_of_lt_of_le hl g.size,(g.cell (p:=⟨b,_,none⟩) hl).trans hc⟩
def intsF (L:List Nat):Nat→Vl:=fun j=>intV ((L[j - 1]?).getD 0)
theorem vl_one (v:Vl):v.row.toArray.all (fun x=>x.oneCell')=true:=by
 rw[Array.all_eq_true_iff_forall_mem];intro u hu;exact oneCell_vl v u (by simpa using hu)
theorem integers_any (L:List Nat)(a:Option Addr)(c:Nat)(w:World)(h:NumIn w a L)(hl:L.length≤15):
 Calls Tryz.prog 46 #[.slice a L.length c] w fun x w'=>∃va,x=.returned (.slice va L.length L.length)∧SrcV w' va (intsF L) L.length∧Bl w w':=by
 have hmk:=fun W=>Q.make_k (vals:=Vl.row) (t:=122) (e:=79) (k:=7) (b:=56) (Z:=zV) (by decide) Vl.row_len (by kernel_rfl) (by kernel_rfl) L.length (by omega) (by omega) W
 have hI:=ζ (fun(x:Nat) W=>integer_any (x:Int) W);have st0:Hz (At (w.alloc (.cells (rowV [] Vl.row (List.replicate L.length zV)).toArray 79)) w.heap.size (rowV [] Vl.row (List.replicate L.length zV)).toArray):=ζ (At.new w _ _);have g0:Hz (Bl w (w.alloc (.cells (rowV [] Vl.row (List.replicate L.length zV)).toArray 79))):=ζ ((Bl.refl w).alloc _);replace h:=ζ h;go_enter Tryz.func46,Tryz.ntmps46;go_wp2_with fail;clear hmk;generalize w.alloc _=W1 at*;go_loopw [11] (fun i wr=>∃(j:Nat) (M:List Vl),i=.int .i64 j∧j≤L.length∧M.length=L.length∧(∀i,i<j→M[i]?=some (intV ((L[i]?).getD 0)))∧At wr w.heap.size (rowV [] Vl.row M).toArray∧Bl w wr) (fun i _=>L.length - (intOf i).toNat)
 case atStart=>exact⟨0,List.replicate L.length zV,rfl,Nat.zero_le _,by simp,fun i hi=>absurd hi (Nat.not_lt_zero i),st0.out,g0.out⟩
 case round=>
  clear st0 g0;obtain⟨j,M,rfl,hj,hM,hMi,A0,g⟩:=hrel;by_cases hjl:j<L.length
  ·have jl:(j:Int)<L.length:=by omega
   obtain⟨b,off,rfl,hb,hc⟩:=h.out j hjl;have q0:=(g.cell (p:=⟨b,_,none⟩) hb).trans hc;have hb':b<wr.heap.size:=Nat.lt_of_lt_of_le hb g.size;have hrl:=row_len (pre:=[]) Vl.row_len M;rw[hM]at hrl;have eL:L[j]?=some L[j]:=List.getElem?_eq_getElem hjl;generalize L[j]=kx at*;replace hI:=ζ (hI.out kx);replace hMi:=ζ hMi;replace eL:=ζ eL;replace hrl:(rowV [] Vl.row M).length=L.length*7:=by simpa using hrl
   clear hc;go_upto_region 5 with fail
   refine wp_region_lit ?_;iterate 3 (refine xp fun K hK=>?_;go_simp;with_reducible refine hK _ _ ?_;clear hK K;(try simp only[xap]))
   refine xp fun K hK=>?_
   go_simp
   (refine(hI.out _).mono ?_;rintro r X1 ⟨rfl,rfl⟩;have hA1:=ζ (A0.alloc (.cells #[.bool false,.int .u64 (kx:Int),.int .u64 0,.int .u64 0,.int .u64 0,.int .u8 0,.int .i64 0] 79));have hth:=ζ (At.there hA1.out (j*7) 7 (by rw[hrl];omega));have hA2:=ζ (At.setElem Vl.row_len hA1.out j (by omega) (intV kx) (j*7) (by simp)))
   with_reducible refine hK _ _ ?_
   clear hK K;try simp only[xap]
   refine xp fun K hK=>?_
   go_simp;with_reducible refine hK _ _ ?_
   clear hK K;try simp only[xap]
   refine wpList_store_mid rfl _ _ _ rfl _ _ (List.toArray (intV kx).row) rfl rfl (show World.there _ _ _ _ from hth.out) (by kernel_rfl) (vl_one _) ?_;try simp only[Act.put]
   clear hth hA1 q0;have g2:=ζ ((g.alloc (.cells #[.bool false,.int .u64 (kx:Int),.int .u64 0,.int .u64 0,.int .u64 0,.int .u8 0,.int .i64 0] 79)).sets w.heap.size (Nat.le_refl _) (intV kx).row (j*7));generalize World.setCells _ _ _ _=W9 at*;go_wp2_with fail;refine And.intro ⟨j+1,M.set j (intV kx),by go_num,by omega,by simp[hM],fun i hi=>?_,hA2.out,g2.out⟩ (by simp[intOf];omega);by_cases hij:i=j
   ·subst hij;rw[eL.out];simp[hM,hjl]
   ·rw[List.getElem?_set_ne (by omega)];exact hMi.out i (by omega)
  ·have jl:¬(j:Int)<L.length:=by omega
   have hjL:j=L.length:=by omega
   subst hjL;have hsrc:SrcV wr (some ⟨w.heap.size,0,none⟩) (intsF L) L.length:=by
    refine .inr ⟨w.heap.size,0,rfl,A0.1,fun o ho=>?_⟩;have hd:o/7<M.length:=by omega
    have r:=flat_at' Vl.row_len M (o/7) hd (o%7) (by omega);rw[show o/7*7+o%7=o by omega]at r;rw[Nat.zero_add,A0.2.1,List.getElem?_toArray];unfold rowV;rw[List.nil_append,r];have e:=hMi (o/7) (by omega);rw[List.getElem?_eq_getElem hd]at e;injection e with e
    rw[e];unfold intsF;rw[show 1+o/7 - 1=o/7 by omega]
   replace hsrc:=ζ hsrc;replace hMi:=ζ hMi;replace A0:=ζ A0;go_wp2_with fail;go_ret;exact⟨_,rfl,hsrc.out,g⟩
end C
open Go.RowKit
structure PImg.Fits (m:PImg):Prop where
 regs:FitB 56 m.regs.length∧∀r∈m.regs,r.data.length≤140737488355328∧FitB 64 r.slots.length
 comps:FitB 48 m.comps.length∧∀r∈m.comps,FitB 48 r.roots.length∧FitB 40 r.code.length
 gates:FitB 64 m.gates.length∧∀r∈m.gates,FitB 56 r.args.length∧FitB 56 r.res.length
theorem step_below2 {B:Nat}{R W w1:World}(h:Below B R W)(hB:B≤R.heap.size)(hg:Below W.heap.size W w1):Below B R w1:=h.trans (hg.mono (Nat.le_trans hB h.size))
theorem Copy_any (m:PImg)(ra ca ga:Option Addr)(rc cc gc:Nat)(w:World)(hm:ImgIn w.heap.size w ra ca ga m)(hf:m.Fits):
 Calls Tryz.prog 43 #[.agg #[.slice ra m.regs.length rc,.slice ca m.comps.length cc,.slice ga m.gates.length gc,.int .i64 m.depth]] w fun x w'=>∃ra2 rc2 ca2 cc2 ga2 gc2,x=.returned (.agg #[.slice ra2 m.regs.length rc2,.slice ca2 m.comps.length cc2,.slice ga2 m.gates.length gc2,.int .i64 m.depth])∧ImgOwn w.heap.size w' (.slice ra2 m.regs.length rc2) (.slice ca2 m.comps.length cc2) (.slice ga2 m.gates.length gc2) m∧Below w.heap.size w w':=by
 have hC1:=fun W h1=>copiedRegion_any m.regs ra rc W h1 hf.regs.2 hf.regs.1
 have hC2:=fun W h1=>copiedComp_any m.comps ca cc W h1 hf.comps.2 hf.comps.1
 have hC3:=fun W h1=>copiedGate_any m.gates ga gc W h1 hf.gates.2 hf.gates.1
 have hB:Below w.heap.size w ((w.alloc (.cells #[.slice ra m.regs.length rc,.slice ca m.comps.length cc,.slice ga m.gates.length gc,.int .i64 m.depth] 40)).alloc (.cells #[.slice none 0 0,.slice none 0 0,.slice none 0 0,.int .i64 0] 40)):=(((Gr.refl w).alloc _).alloc _).below;have RB:Box ((w.alloc (.cells #[.slice ra m.regs.length rc,.slice ca m.comps.length cc,.slice ga m.gates.length gc,.int .i64 m.depth] 40)).alloc (.cells #[.slice none 0 0,.slice none 0 0,.slice none 0 0,.int .i64 0] 40)) w.heap.size #[.slice ra m.regs.length rc,.slice ca m.comps.length cc,.slice ga m.gates.length gc,.int .i64 m.depth] 40:=(Box.new w _ _).alloc _;have X:Box ((w.alloc (.cells #[.slice ra m.regs.length rc,.slice ca m.comps.length cc,.slice ga m.gates.length gc,.int .i64 m.depth] 40)).alloc (.cells #[.slice none 0 0,.slice none 0 0,.slice none 0 0,.int .i64 0] 40)) (w.heap.size+1) #[.slice none 0 0,.slice none 0 0,.slice none 0 0,.int .i64 0] 40:=Box.next _ _ _ _
 replace hm:=Hid.mk hm;replace hB:=Hid.mk hB;replace RB:=Hid.mk RB;replace X:=Hid.mk X;clear hf;go_enter Tryz.func43,Tryz.ntmps43;go_wp2_with fail;generalize (w.alloc (.cells #[.slice ra m.regs.length rc,.slice ca m.comps.length cc,.slice ga m.gates.length gc,.int .i64 m.depth] 40)).alloc (.cells #[.slice none 0 0,.slice none 0 0,.slice none 0 0,.int .i64 0] 40)=R0 at*;have hn1:w.heap.size+1≤R0.heap.size:=Nat.le_of_lt X.out.lt;have KS:∀W,Below (w.heap.size+1) R0 W→W.cell? ⟨w.heap.size,0,none⟩=some (.slice ra m.regs.length rc)∧W.cell? ⟨w.heap.size,1,none⟩=some (.slice ca m.comps.length cc)∧W.cell? ⟨w.heap.size,2,none⟩=some (.slice ga m.gates.length gc)∧W.cell? ⟨w.heap.size,3,none⟩=some (.int .i64 m.depth):=fun W hW=>⟨(hW.cell (p:=⟨w.heap.size,0,none⟩) (Nat.lt_succ_self _)).trans (RB.out.at.2.1 0),(hW.cell (p:=⟨w.heap.size,1,none⟩) (Nat.lt_succ_self _)).trans (RB.out.at.2.1 1),(hW.cell (p:=⟨w.heap.size,2,none⟩) (Nat.lt_succ_self _)).trans (RB.out.at.2.1 2),(hW.cell (p:=⟨w.heap.size,3,none⟩) (Nat.lt_succ_self _)).trans (RB.out.at.2.1 3)⟩
 have hI:∀W,Below (w.heap.size+1) R0 W→ImgIn W.heap.size W ra ca ga m:=fun W hW=>(hm.out.below (hB.out.trans (hW.mono (Nat.le_succ _)))).mono (Nat.le_trans hB.out.size hW.size)
 have hI1:=Hid.mk (fun W h=>(hI W h).regs);have hI2:=Hid.mk (fun W h=>(hI W h).comps);have hI3:=Hid.mk (fun W h=>(hI W h).gates);replace KS:=Hid.mk KS;clear hI
 (go_region_held3 (fun W=>W.cell? ⟨w.heap.size,0,none⟩=some (.slice ra m.regs.length rc)∧W.cell? ⟨w.heap.size,1,none⟩=some (.slice ca m.comps.length cc)∧W.cell? ⟨w.heap.size,2,none⟩=some (.slice ga m.gates.length gc)∧W.cell? ⟨w.heap.size,3,none⟩=some (.int .i64 m.depth)) (first|(refine KS.out _ ?_;((repeat(first|assumption|with_reducible exact Below.refl _ _|with_reducible refine Below.drew ?_)));done)|exact KS.out _ (Below.setCell (p:=⟨w.heap.size+1,3,none⟩) (Below.setCell (p:=⟨w.heap.size+1,2,none⟩) (Below.setCell (p:=⟨w.heap.size+1,1,none⟩) (Below.setCell (p:=⟨w.heap.size+1,0,none⟩) (by assumption) (Nat.le_refl _) _) (Nat.le_refl _) _) (Nat.le_refl _) _) (Nat.le_refl _) _)|exact KS.out _ (Below.drew (Below.setCell (p:=⟨w.heap.size+1,3,none⟩) (Below.setCell (p:=⟨w.heap.size+1,2,none⟩) (Below.setCell (p:=⟨w.heap.size+1,1,none⟩) (Below.setCell (p:=⟨w.heap.size+1,0,none⟩) (by assumption) (Nat.le_refl _) _) (Nat.le_refl _) _) (Nat.le_refl _) _) (Nat.le_refl _) _))) (first|(go_at_call 68;refine(hC1 _ (hI1.out _ (by((repeat(first|assumption|with_reducible exact Below.refl _ _|with_reducible refine Below.drew ?_)))))).mono ?_;rintro x w1 ⟨v,rfl,s1,hO1,hE1,hb1⟩;obtain⟨ra2,rc2,rfl⟩:=own_slice hO1;have d1:Below R0.heap.size R0 w1:=step_below2 (by((repeat(first|assumption|with_reducible exact Below.refl _ _|with_reducible refine Below.drew ?_)))) (Nat.le_refl _) hb1;have b1:Below (w.heap.size+1) R0 w1:=d1.mono hn1)|(go_at_call 70;refine(hC2 _ (hI2.out _ (by((repeat(first|assumption|with_reducible exact Below.refl _ _|with_reducible refine Below.drew ?_)))))).mono ?_;rintro x w2 ⟨v,rfl,s2,hO2,hE2,hb2⟩;obtain⟨ca2,cc2,rfl⟩:=own_slice hO2;have d2:Below R0.heap.size R0 w2:=step_below2 (by((repeat(first|assumption|with_reducible exact Below.refl _ _|with_reducible refine Below.drew ?_)))) (Nat.le_refl _) hb2;have b2:Below (w.heap.size+1) R0 w2:=d2.mono hn1)|(go_at_call 72;refine(hC3 _ (hI3.out _ (by((repeat(first|assumption|with_reducible exact Below.refl _ _|with_reducible refine Below.drew ?_)))))).mono ?_;rintro x w3 ⟨v,rfl,s3,hO3,hE3,hb3⟩;obtain⟨ga2,gc2,rfl⟩:=own_slice hO3;have d3:Below R0.heap.size R0 w3:=step_below2 (by((repeat(first|assumption|with_reducible exact Below.refl _ _|with_reducible refine Below.drew ?_)))) (Nat.le_refl _) hb3;have b3:Below (w.heap.size+1) R0 w3:=d3.mono hn1;have⟨z1,p1,f1⟩:=(X.out.below d3 X.out.lt).at)))
 all_goals
  go_wp2_with fail;have X2:=X.out.below d3 X.out.lt;have g2:=grown_of hb2 none;have g3:=grown_of hb3 none;have e1:w.heap.size≤w1.heap.size:=Nat.le_trans hB.out.size d1.size;have e2:w.heap.size≤w2.heap.size:=Nat.le_trans hB.out.size d2.size;have hm1:ImgOwn w.heap.size w3 (.slice ra2 m.regs.length rc2) (.slice ca2 m.comps.length cc2) (.slice ga2 m.gates.length gc2) m:=
   ⟨⟨s1,own_base (own_below (own_below hO1 hb2) hb3) hB.out.size,((hE1.imp fun _ _ q=>q.step g2 (nes_none _)).imp fun _ _ q=>q.step g3 (nes_none _)).imp fun _ _ q=>q.base hB.out.size⟩,
    ⟨s2,own_base (own_below hO2 hb3) e1,(hE2.imp fun _ _ q=>q.step g3 (nes_none _)).imp fun _ _ q=>q.base e1⟩,
    ⟨s3,own_base hO3 e2,hE3.imp fun _ _ q=>q.base e2⟩⟩
  have B2:=hB.out.trans (d3.mono hB.out.size);have b4:Box (((((w3).setCell ⟨(w.heap.size+1),0,none⟩ (.slice ra2 m.regs.length rc2)).setCell ⟨(w.heap.size+1),1,none⟩ (.slice ca2 m.comps.length cc2)).setCell ⟨(w.heap.size+1),2,none⟩ (.slice ga2 m.gates.length gc2)).setCell ⟨(w.heap.size+1),3,none⟩ (.int .i64 m.depth)) (w.heap.size+1) #[.slice ra2 m.regs.length rc2,.slice ca2 m.comps.length cc2,.slice ga2 m.gates.length gc2,.int .i64 m.depth] 40:=Box.setRow X2 [.slice ra2 m.regs.length rc2,.slice ca2 m.comps.length cc2,.slice ga2 m.gates.length gc2,.int .i64 m.depth] rfl;have B4:Below w.heap.size w (((((w3).setCell ⟨(w.heap.size+1),0,none⟩ (.slice ra2 m.regs.length rc2)).setCell ⟨(w.heap.size+1),1,none⟩ (.slice ca2 m.comps.length cc2)).setCell ⟨(w.heap.size+1),2,none⟩ (.slice ga2 m.gates.length gc2)).setCell ⟨(w.heap.size+1),3,none⟩ (.int .i64 m.depth)):=below_row [.slice ra2 m.regs.length rc2,.slice ca2 m.comps.length cc2,.slice ga2 m.gates.length gc2,.int .i64 m.depth] B2 (by omega)
  have O4:ImgOwn w.heap.size (((((w3).setCell ⟨(w.heap.size+1),0,none⟩ (.slice ra2 m.regs.length rc2)).setCell ⟨(w.heap.size+1),1,none⟩ (.slice ca2 m.comps.length cc2)).setCell ⟨(w.heap.size+1),2,none⟩ (.slice ga2 m.gates.length gc2)).setCell ⟨(w.heap.size+1),3,none⟩ (.int .i64 m.depth)) (.slice ra2 m.regs.length rc2) (.slice ca2 m.comps.length cc2) (.slice ga2 m.gates.length gc2) m:=ImgOwn.row (by decide) [.slice ra2 m.regs.length rc2,.slice ca2 m.comps.length cc2,.slice ga2 m.gates.length gc2,.int .i64 m.depth] hm1 X2;have⟨_,q4,_⟩:=b4.at;clear z1 p1 f1 RB X hB b4 X2 hm1 B2;generalize ((((w3).setCell ⟨(w.heap.size+1),0,none⟩ (.slice ra2 m.regs.length rc2)).setCell ⟨(w.heap.size+1),1,none⟩ (.slice ca2 m.comps.length cc2)).setCell ⟨(w.heap.size+1),2,none⟩ (.slice ga2 m.gates.length gc2)).setCell ⟨(w.heap.size+1),3,none⟩ (.int .i64 m.depth)=W4 at*;simp[bodyPost,results,Tryz.results43,go_sem,q4]
  exact⟨ra2,rc2,ca2,cc2,ga2,gc2,⟨⟨rfl,rfl⟩,⟨rfl,rfl⟩,rfl,rfl⟩,O4,B4⟩
namespace C
open T (Sep Ob Kp Mf TgIn boxOb Fm Tc Ed Vl Cp Bx tgOb mRow mRow_idx mRow_tail mRow_at updV flt Vl.row_len Sl Rg rgB rgT RgIn)
theorem own_iv {w:World}{lo:Nat}{v:Value}{L:List Int}(h:w.ownsRow lo 25 1 v L.length (L.map u64I)):IvIn w v L∧∀k,v.ownBlock=some k→lo≤k:=by
 have hlt:=h.lt;refine⟨⟨?_,fun k q=>(hlt k q).2,?_⟩,fun k q=>(hlt k q).1⟩
 ·rcases h.2 with⟨rfl,h9⟩|⟨g,cap,cur,rfl,hb,hg,hc1,hc2,hc3,hc4⟩
  ·exact⟨none,0,by rw[h9],by omega,.inl h9⟩
  ·refine⟨_,cap,rfl,hc1,.inr ⟨g,0,rfl,fun i hi=>?_⟩⟩;have:w.cell? ⟨g,0+i,none⟩=cur[i]?:=by simp[World.cell?,hg]
   rw[this];have h2:(L.map u64I)[i]?=some (.int .u64 L[i]):=by simp[hi,u64I]
   rw[←hc4,List.getElem?_take_of_lt (by omega)]at h2;rw[←h2];simp
 ·rcases h.2 with⟨rfl,h9⟩|⟨g,cap,cur,rfl,hb,hg,hc1,hc2,hc3,hc4⟩
  ·exact⟨none,0,by rw[h9],.inl ⟨rfl,rfl⟩⟩
  ·refine⟨_,cap,rfl,.inr ⟨g,0,rfl,fun j hj=>?_⟩⟩;have e1:w.cell? ⟨g,0+j,none⟩=cur[j]?:=by simp[World.cell?,hg]
   rw[e1];have hj2:j<cur.size:=by omega
   exact⟨by simp[hj2],by simp[World.frozen?,hg]⟩
def slOf (k:PSlot):Sl:=⟨k.t.cap,k.t.b,k.t.e,k.t.lo,k.t.hi,k.t.p,k.t.s,k.c.toNat⟩
def rgOf (r:PReg):Rg:=⟨r.b.toNat,r.n,r.data,r.slots.map slOf⟩
theorem rg_in {w:World}{a:Option Addr}{L:List PReg}(h:RegIn w.heap.size w a L)(hr:∀r∈L,r.Rng):RgIn w a (L.map rgOf):=fun i hi=>by
 have hi':i<L.length:=by simpa using hi
 obtain⟨b,off,sa,sc,ha,h1,h2,c0,c1,c2,c3,hs⟩:=h i hi';have hR:=hr L[i] (List.getElem_mem hi');have e:(L.map rgOf)[i]=rgOf L[i]:=by simp
 rw[e];refine⟨b,off,sa,sc,ha,h2,?_,c1,c2,?_,fun j hj=>?_⟩
 ·rw[c0];show _=some (Value.int .u64 ((L[i].b.toNat:Nat):Int));rw[Int.toNat_of_nonneg hR.1.1]
 ·show _=some (Value.slice sa (L[i].slots.map slOf).length sc);rw[List.length_map];exact c3
 ·have hj':j<L[i].slots.length:=by
   have:j<(L[i].slots.map slOf).length:=hj;simpa using this
  obtain⟨b2,off2,ha2,_,hb2,hc⟩:=hs j hj';refine⟨b2,off2,ha2,hb2,fun o v q=>?_⟩;have e2:(rgOf L[i]).slots[j]=slOf L[i].slots[j]:=by simp[rgOf]
  rw[e2]at q;have ho:o<8:=by have:=(List.getElem?_eq_some_iff.1 q).1;simpa [Sl.vals]using this
  have e3:(slOf L[i].slots[j]).vals=L[i].slots[j].vals:=by
   have hk:=(hR.2.2.2.2 L[i].slots[j] (List.getElem_mem hj')).2.1;simp only[slOf,T.Sl.vals,PSlot.vals,PTyp.vals,List.cons_append,List.nil_append];rw[Int.toNat_of_nonneg hk]
  rw[e3]at q;rw[hc o ho];exact q
theorem rg_ok {L:List PReg}(hr:∀r∈L,r.Rng):∀r∈L.map rgOf,r.Ok:=fun r hx=>by
 obtain⟨x,hx2,rfl⟩:=List.mem_map.1 hx;have h:=hr x hx2;refine⟨by have:=h.1.2;have:=h.1.1;show x.b.toNat<_;omega,h.2.2.1,?_⟩;show(x.slots.map slOf).length≤_;rw[List.length_map];exact h.2.2.2.1
def bare (m:PImg):PImg:={m with regs:=[]}
theorem fits_of {m:PImg}(hP:POk (bare m)):(bare m).Fits:=by
 refine⟨⟨by unfold FitB;show 0*56≤_;omega,fun r hr=>by cases hr⟩,⟨?_,fun r hr=>?_⟩,⟨?_,fun r hr=>?_⟩⟩
 ·have:=hP.cl;unfold FitB;omega
 ·obtain⟨k,hk,rfl⟩:=List.getElem_of_mem hr;have h1:=(hP.roots k).1;have h2:=(hP.code k).1;rw[rootsOf_at _ k hk]at h1;rw[codeOf_at _ k hk]at h2;unfold FitB;omega
 ·have:=hP.gl;unfold FitB;omega
 ·obtain⟨k,hk,rfl⟩:=List.getElem_of_mem hr;have h1:=hP.gates k hk;unfold FitB;omega
def start (m:PImg)(g:Nat)(A I:List Nat):Ms:=⟨entF (bare m) g (intsF A) A.length,[],I.map fun x:Nat=>(x:Int),[],[],⟨0,0,0⟩,rgB (m.regs.map rgOf) m.regs.length,rgT (m.regs.map rgOf) m.regs.length⟩
theorem nil_in (B e k:Nat)(W:World):(rowOb B e k (.slice none 0 0) 0 []).In W:=World.ownsRow_nil _ _ _ _
theorem sep_void {B:Nat}{W:World}{l:List Ob}(h:Sep B W l)(e k:Nat)(hB:B≤W.heap.size):Sep B W (rowOb B e k (.slice none 0 0) 0 []::l):=
 h.add _ (nil_in B e k W) (fun _ q=>by cases q) (Below.refl _ _) hB
theorem sep_low {B B':Nat}{W:World}{l:List Ob}(h:Sep B W l)(hb:B'≤B):Sep B' W l:=⟨h.ins,h.dis,fun o ho k q=>Nat.le_trans hb (h.ge o ho k q)⟩
def zrow (p0 p1 p2:Value)(d:Int)(km:Nat)(f:Fm)(iv:Value):List Value:=mRow p0 p1 p2 d km f (.slice none 0 0) iv (.slice none 0 0) (.slice none 0 0) ⟨0,0,0⟩
theorem build_mc (r0 c0 g0 i0:Option Addr)(r1 r2 c1 c2 g1 g2 i1 i2 km:Nat)(d:Int)(f:Fm)(W:World):(Instr.build 86 #[(0,.agg #[.slice r0 r1 r2,.slice c0 c1 c2,.slice g0 g1 g2,.int .i64 d]),(1,.pointer (some ⟨km,0,none⟩)),(2,.agg f.row.toArray),(4,.slice i0 i1 i2)]).run Tryz.prog W=.ok (.agg (zrow (.slice r0 r1 r2) (.slice c0 c1 c2) (.slice g0 g1 g2) d km f (.slice i0 i1 i2)).toArray) W:=by kernel_rfl
theorem yields_mc {ops:Array Oper}{S:World→Prop}{op:Oper}{a:Act}(hw:Region.wanted op (yielded ops a.tmps)=true)(x0 x1 x2 x3:Operand)(ho:op.op=.build 86 #[(0,x0),(1,x1),(2,x2),(4,x3)])
 (r0 c0 g0 i0:Option Addr)(r1 r2 c1 c2 g1 g2 i1 i2 km:Nat)(d:Int)(f:Fm)(h0:a.eval x0=.agg #[.slice r0 r1 r2,.slice c0 c1 c2,.slice g0 g1 g2,.int .i64 d])(h1:a.eval x1=.pointer (some ⟨km,0,none⟩))(h2:a.eval x2=.agg f.row.toArray)(h3:a.eval x3=.slice i0 i1 i2):
 YieldsIf Tryz.prog ops S op (.agg (zrow (.slice r0 r1 r2) (.slice c0 c1 c2) (.slice g0 g1 g2) d km f (.slice i0 i1 i2)).toArray) a:=
 .inl ⟨hw,fun w _=>by
  unfold execOp;simp only[ho,List.map_toArray,List.map_cons,List.map_nil,h0,h1,h2,h3,build_mc,Sem.run_bind,Sem.run_pure,Result.andThen_ok]⟩
def InS (w:World)(a:Option Addr)(L:List Nat)(c:Nat):Prop:=(a=none∧L=[]∧c=0)∨∃b off,a=some ⟨b,off,none⟩∧b<w.heap.size∧∀i (h:i<L.length),w.cell? ⟨b,off+i,none⟩=some (.int .u64 L[i])
theorem InS.bl {w W:World}{a:Option Addr}{L:List Nat}{c:Nat}(h:InS w a L c)(g:Bl w W):InS W a L c:=by
 rcases h with h|⟨b,off,e,hl,hc⟩
 ·exact .inl h
 ·exact .inr ⟨b,off,e,Nat.lt_of_lt_of_le hl g.size,fun i hi=>(g.cell (p:=⟨b,_,none⟩) hl).trans (hc i hi)⟩
theorem clone_in (L:List Nat)(a:Option Addr)(c:Nat)(w:World)(h:InS w a L c)(hl:L.length≤2000000):
 Calls Tryz.prog 47 #[.slice a L.length c] w fun x w'=>∃i0 i2,x=.returned (.slice i0 L.length i2)∧IvIn w' (.slice i0 L.length i2) (L.map fun x:Nat=>(x:Int))∧(∀k,(Value.slice i0 L.length i2).ownBlock=some k→w.heap.size≤k)∧Bl w w':=by
 rcases h with⟨rfl,rfl,rfl⟩|⟨b,off,rfl,hb,hc⟩
 ·refine(clnil_u64 w).mono ?_;rintro x w' ⟨rfl,rfl⟩;exact⟨none,0,rfl,⟨⟨none,0,rfl,Nat.le_refl _,.inl rfl⟩,fun k q=>(by cases q),⟨none,0,rfl,.inl ⟨rfl,rfl⟩⟩⟩,fun k q=>(by cases q),Bl.refl _⟩
 ·refine(clone_u64 b off L.length c ((L.map fun x:Nat=>(x:Int)).map u64I) w hb (by simp) (fun j u q=>?_) (fun u q=>?_) hl).mono ?_
  ·rw[List.getElem?_map,List.getElem?_map]at q;by_cases hj:j<L.length
   ·rw[List.getElem?_eq_getElem hj]at q;injection q with q
    rw[hc j hj,←q]
    rfl
   ·rw[List.getElem?_eq_none (by omega)]at q
    cases q
  ·obtain⟨x,_,rfl⟩:=List.mem_map.1 q
   rfl
  ·rintro x w' ⟨v,rfl,h1,h2⟩;have h3:w'.ownsRow w.heap.size 25 1 v (L.map fun x:Nat=>(x:Int)).length ((L.map fun x:Nat=>(x:Int)).map u64I):=by rw[List.length_map];exact h1
   obtain⟨h4,h5⟩:=own_iv h3;obtain⟨i0,i2,e,_⟩:=h4.go;rw[List.length_map]at e;subst e;exact⟨i0,i2,rfl,h4,h5,h2⟩
end C
end Go.Proofs.YthlpjlnehonpdaaGreatDoor
