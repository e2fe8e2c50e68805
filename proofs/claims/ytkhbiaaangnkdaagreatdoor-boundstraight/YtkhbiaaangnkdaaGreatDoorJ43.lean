import Derived.Test.YtkhbiaaangnkdaaGreatDoorJ42
import Derived.Laws.AppendOwn
import Derived.Test.YtkhbiaaangnkdaaGreatDoorJ35
namespace Go.Proofs.YtkhbiaaangnkdaaGreatDoor
set_option maxRecDepth 100000
set_option maxHeartbeats 40000000
namespace C
open Go.RowKit
open T (Sep Ob Kp Mf TgIn boxOb Fm Tc Ed Vl Cp Bx tgOb mRow mRow_idx mRow_tail mRow_at updV flt)
theorem assert_end (v:Value)(w:World):(Instr.typeAssert (.iface 69 v) 20 69 true).run Tryz.prog w=.ok (.tuple #[v,.bool true]) w:=by kernel_rfl
theorem catch_end (b a:Nat)(e:Ed)(older:List PanicEntry)(w:World)(hb:w.cell? ⟨b,0,none⟩=some (.pointer (some ⟨a,0,none⟩)))(c0 c1 c2:Value)(h0:w.cell? ⟨a,123,none⟩=some c0)(h1:w.cell? ⟨a,124,none⟩=some c1)(h2:w.cell? ⟨a,125,none⟩=some c2)(hf:∀o,w.frozen? ⟨a,o,none⟩=false)(hl:a<w.heap.size)(hlb:b<w.heap.size):
 CallsD Tryz.prog 38 #[.pointer (some ⟨b,0,none⟩)] (.panicking ({v:=.iface 69 (.agg #[.int .i64 e.e,.int .u64 e.v,.int .i64 e.f]),recovered:=false}::older)) w fun x u' w'=>x=.returned (.tuple #[])∧u'=.panicking ({v:=.iface 69 (.agg #[.int .i64 e.e,.int .u64 e.v,.int .i64 e.f]),recovered:=true}::older)∧∃o,w'=(((w.setCell ⟨a,123,none⟩ (.int .i64 e.e)).setCell ⟨a,124,none⟩ (.int .u64 e.v)).setCell ⟨a,125,none⟩ (.int .i64 e.f)).alloc o:=by
 have hta:=assert_end;refine callsD_of_wpS Tryz.func38 rfl fun c₀ cs hu=>?_
 apply wpS_seq;apply wpS_region;simp[wpOpsS,go_sem,recoverD,hu,Tryz.ntmps38,Exit.thenS];refine wpS_of_wp ?_;have hr:Array.replicate 13 undef=#[undef,undef,undef,undef,undef,undef,undef,undef,undef,undef,undef,undef,undef]:=rfl;simp only[hr,List.setIfInBounds_toArray,List.set_cons_zero,List.set_cons_succ,List.append_toArray,List.cons_append,List.nil_append];go_wp2_with fail;simp[bodyPostS,results,Tryz.results38,go_sem];exact⟨_,rfl⟩
theorem catch_idle (b:Nat)(w:World):
 CallsD Tryz.prog 38 #[.pointer (some ⟨b,0,none⟩)] .returning w fun x u' w'=>x=.returned (.tuple #[])∧u'=.returning∧w'=w:=by
 refine callsD_of_wpS Tryz.func38 rfl fun c₀ cs hu=>?_
 apply wpS_seq;apply wpS_region;simp[wpOpsS,go_sem,recoverD,hu,Tryz.ntmps38,Exit.thenS];refine wpS_of_wp ?_;go_wp2_with fail
 cases c₀
 simp_all [bodyPostS,results,Tryz.results38]
section
variable {B kb:Nat} {W W':World} {a:Nat} {P:PImg} {s s':Ms} {l:List Ob}
theorem MIn.setOv4 (h:MIn B W a P s l)(x:Int):MIn B (W.setCell ⟨a,123,none⟩ (.int .i64 x)) a P (s.ended ⟨x,s.over.v,s.over.f⟩) l∧Below B W (W.setCell ⟨a,123,none⟩ (.int .i64 x)):=
 h.box (s':=s.ended ⟨x,s.over.v,s.over.f⟩) ⟨rfl,rfl,rfl,rfl,rfl,rfl⟩ (fun q hb=>T.Bx.setAt 123 _ hb (mRow_tail (i:=4) fun y hy=>by
  match y,hy with
  |0,hy=>first|rfl|exact absurd rfl hy
  |1,hy=>first|rfl|exact absurd rfl hy
  |2,hy=>first|rfl|exact absurd rfl hy
  |3,hy=>first|rfl|exact absurd rfl hy
  |4,hy=>first|rfl|exact absurd rfl hy
  |5,hy=>first|rfl|exact absurd rfl hy
  |6,hy=>first|rfl|exact absurd rfl hy
  |_+7,_=>rfl) (mRow_at 4) ⟨_,mRow_at 4⟩) (Kp.set (S:=fun k=>k=a) W ⟨a,123,none⟩ _ rfl)
theorem MIn.setOv5 (h:MIn B W a P s l)(x:Int):MIn B (W.setCell ⟨a,124,none⟩ (.int .u64 x)) a P (s.ended ⟨s.over.e,x,s.over.f⟩) l∧Below B W (W.setCell ⟨a,124,none⟩ (.int .u64 x)):=
 h.box (s':=s.ended ⟨s.over.e,x,s.over.f⟩) ⟨rfl,rfl,rfl,rfl,rfl,rfl⟩ (fun q hb=>T.Bx.setAt 124 _ hb (mRow_tail (i:=5) fun y hy=>by
  match y,hy with
  |0,hy=>first|rfl|exact absurd rfl hy
  |1,hy=>first|rfl|exact absurd rfl hy
  |2,hy=>first|rfl|exact absurd rfl hy
  |3,hy=>first|rfl|exact absurd rfl hy
  |4,hy=>first|rfl|exact absurd rfl hy
  |5,hy=>first|rfl|exact absurd rfl hy
  |6,hy=>first|rfl|exact absurd rfl hy
  |_+7,_=>rfl) (mRow_at 5) ⟨_,mRow_at 5⟩) (Kp.set (S:=fun k=>k=a) W ⟨a,124,none⟩ _ rfl)
theorem MIn.setOv6 (h:MIn B W a P s l)(x:Int):MIn B (W.setCell ⟨a,125,none⟩ (.int .i64 x)) a P (s.ended ⟨s.over.e,s.over.v,x⟩) l∧Below B W (W.setCell ⟨a,125,none⟩ (.int .i64 x)):=
 h.box (s':=s.ended ⟨s.over.e,s.over.v,x⟩) ⟨rfl,rfl,rfl,rfl,rfl,rfl⟩ (fun q hb=>T.Bx.setAt 125 _ hb (mRow_tail (i:=6) fun y hy=>by
  match y,hy with
  |0,hy=>first|rfl|exact absurd rfl hy
  |1,hy=>first|rfl|exact absurd rfl hy
  |2,hy=>first|rfl|exact absurd rfl hy
  |3,hy=>first|rfl|exact absurd rfl hy
  |4,hy=>first|rfl|exact absurd rfl hy
  |5,hy=>first|rfl|exact absurd rfl hy
  |6,hy=>first|rfl|exact absurd rfl hy
  |_+7,_=>rfl) (mRow_at 6) ⟨_,mRow_at 6⟩) (Kp.set (S:=fun k=>k=a) W ⟨a,125,none⟩ _ rfl)
theorem MIn.setOver (h:MIn B W a P s l)(e:Ed):MIn B (((W.setCell ⟨a,123,none⟩ (.int .i64 e.e)).setCell ⟨a,124,none⟩ (.int .u64 e.v)).setCell ⟨a,125,none⟩ (.int .i64 e.f)) a P (s.ended e) l∧Below B W (((W.setCell ⟨a,123,none⟩ (.int .i64 e.e)).setCell ⟨a,124,none⟩ (.int .u64 e.v)).setCell ⟨a,125,none⟩ (.int .i64 e.f)):=by
 have h1:=h.setOv4 e.e;have h2:=h1.1.setOv5 e.v;have h3:=h2.1.setOv6 e.f;exact⟨h3.1,(h1.2.trans h2.2).trans h3.2⟩
theorem caught (h:MIn B W a P s (boxOb kb #[.pointer (some ⟨a,0,none⟩)]::l))(e:Ed):CallsD Tryz.prog 38 #[.pointer (some ⟨kb,0,none⟩)] (.panicking [{v:=.iface 69 (.agg #[.int .i64 e.e,.int .u64 e.v,.int .i64 e.f]),recovered:=false}]) W fun x u' w'=>x=.returned (.tuple #[])∧u'=.panicking [{v:=.iface 69 (.agg #[.int .i64 e.e,.int .u64 e.v,.int .i64 e.f]),recovered:=true}]∧MIn B w' a P (s.ended e) l∧Below B W w':=by
 have hk:=h.there (boxOb kb #[.pointer (some ⟨a,0,none⟩)]) (.head _);obtain⟨_,_,k3,k4,k5,kf⟩:=h.cell;refine(catch_end kb a e [] W (hk.2.1 0) _ _ _ k3 k4 k5 kf h.alt hk.1).mono ?_;rintro x u' w' ⟨rfl,rfl,o,rfl⟩;obtain⟨m1,m2⟩:=h.setOver e;exact⟨rfl,rfl,(m1.gr ((Below.refl _ _).alloc (Nat.le_refl _) _)).drop,m2.trans (Below.mono ((Below.refl _ _).alloc (Nat.le_refl _) _) m1.le)⟩
end
theorem stepsM_ok {P:PImg}{s s':Ms}{n:Nat}(h0:s.over.e=0)(h:stepM P s=.ok s'):stepsM P (n+1) s=stepsM P n s':=by rw[stepsM,if_pos h0,h]
theorem stepsM_err {P:PImg}{s:Ms}{n:Nat}{e:Ed}(h0:s.over.e=0)(h:stepM P s=.error e):stepsM P (n+1) s=s.ended e:=by rw[stepsM,if_pos h0,h]
theorem stepsM_end {P:PImg}{s:Ms}(h0:¬s.over.e=0)(n:Nat):stepsM P n s=s:=by
 cases n with
 |zero=>rfl
 |succ n=>rw[stepsM,if_neg h0]
theorem step_over {P:PImg}{s s':Ms}(h:stepM P s=.ok s'):s'.over=s.over:=by
 unfold stepM at h
 split at h
 ·cases h
 ·rename_i i _
  unfold insM at h
  split at h
  ·obtain⟨v,_,rfl⟩:=lay_ok h;rfl
  split at h
  ·unfold strM at h
   split at h
   ·injection h with h;subst h;rfl
   split at h
   ·unfold braM at h
    split at h
    ·cases h
    ·split at h
     ·cases h
     ·injection h with h;subst h;split<;>rfl
   split at h
   ·injection h with h;subst h;rfl
   split at h
   ·unfold goR at h
    split at h
    ·injection h with h;subst h;rfl
    ·cases h
   split at h
   ·unfold haltM at h
    split at h<;>cases h
   split at h
   ·cases h
   split at h
   ·unfold inM at h
    split at h
    ·cases h
    ·injection h with h;subst h;rfl
   split at h
   ·unfold outM at h
    split at h
    ·cases h
    ·injection h with h;subst h;rfl
   split at h
   ·unfold callM at h
    split at h
    ·split at h
     ·cases h
     ·injection h with h;subst h;rfl
    ·cases h
   ·unfold retM at h
    split at h
    ·split at h
     ·cases h
     ·injection h with h;subst h;rfl
    ·cases h
  split at h
  ·obtain⟨v,_,rfl⟩:=lay_ok h;rfl
  split at h
  ·obtain⟨v,_,rfl⟩:=lay_ok h;rfl
  split at h
  ·have l1:∀sz,loadM s i.a.toNat i.b.toNat i.m sz=.ok s'→s'.over=s.over:=fun sz h=>by
    unfold loadM at h
    split at h
    ·cases h
    ·split at h
     ·injection h with h;subst h;rfl
     ·cases h
   have l2:∀sz,storeM s i.a.toNat i.b.toNat i.m sz=.ok s'→s'.over=s.over:=fun sz h=>by
    unfold storeM at h
    split at h
    ·cases h
    ·split at h
     ·cases h
     ·split at h
      ·injection h with h;subst h;rfl
      ·cases h
   unfold touM at h
   split at h
   ·exact l1 _ h
   split at h
   ·exact l1 _ h
   split at h
   ·exact l2 _ h
   split at h
   ·exact l2 _ h
   split at h
   ·unfold ldcM at h
    split at h
    ·cases h
    ·split at h
     ·injection h with h;subst h;rfl
     ·cases h
   ·unfold stcM at h
    split at h
    ·cases h
    ·split at h
     ·injection h with h;subst h;rfl
     ·cases h
  ·unfold grdR at h
   split at h
   ·cases h
   ·injection h with h;subst h;rfl
   ·cases h
theorem steps_any (B:Nat)(W0:World)(a:Nat)(P:PImg)(s:Ms)(l:List Ob)(n k:Nat)(most:Int)(hmk:most.toNat=k)(hP:POk P)(h:MIn B W0 a P s l)(ok:Okm P n s)(hn:n+k≤1000000)(h0:s.over.e=0):
 Calls Tryz.prog 17 #[.pointer (some ⟨a,0,none⟩),.int .i64 most] W0 fun x w'=>x=.returned (.tuple #[])∧MIn B w' a P (stepsM P k s) l∧Below B W0 w':=by
 have hmf:∀(fn:Fn) (first cap:Array Value) (w:World),(Instr.makeFunc fn first cap).run Tryz.prog w=.ok (.func fn first cap) w:=fun _ _ _ _=>rfl
 have h2:=ζ (h.new #[.pointer (some ⟨a,0,none⟩)] 44);clear h;have hs0:Hz (Okm P (n+0) s∧s.over.e=0∧stepsM P (k - 0) s=stepsM P k s):=ζ ⟨ok,h0,rfl⟩;replace h0:=ζ h0;replace ok:=ζ ok;generalize hR:stepsM P k s=sR;replace hR:=ζ hR;go_enter_defers Tryz.func17,Tryz.ntmps17;go_upto_region 2 with fail
 refine wp_world (fun W=>MIn B W a P s (boxOb W0.heap.size #[.pointer (some ⟨a,0,none⟩)]::l)∧Below B W0 W) h2.out ?_;clear h2;rintro W ⟨h,hB⟩;generalize W0.heap.size=kb at*;have⟨_,p0,_⟩:=h.there (boxOb kb #[.pointer (some ⟨a,0,none⟩)]) (.head _);have c123:=h.cell.2.2.1;rw[h0.out]at c123;have hlt:=h.alt;replace h:=ζ h;replace hB:=ζ hB;go_wp2_with fail;clear p0 c123 hlt;go_loopw [12] (fun i wr=>∃(j:Nat) (sj:Ms),i=.int .i64 j∧j≤k∧MIn B wr a P sj (boxOb kb #[.pointer (some ⟨a,0,none⟩)]::l)∧Below B W0 wr∧Okm P (n+j) sj∧sj.over.e=0∧stepsM P (k - j) sj=stepsM P k s) (fun i _=>k - (intOf i).toNat)
 case atStart=>exact⟨0,s,rfl,Nat.zero_le _,h.out,hB.out,hs0.out⟩
 case round=>
  clear h hB hs0 ok;obtain⟨j,sj,rfl,hj,h,hB,ok,h0j,hst⟩:=hrel;by_cases hjk:j<k
  ·have hkj:k - j=(k - (j+1))+1:=by omega
   cases hq:stepM P sj with
   |ok s'=>
    rw[hkj,stepsM_ok h0j hq]at hst;obtain⟨iv,hG⟩:=goes_of (B:=B) (a:=a) hP ok (by omega) hq;have hok':=ζ (okm_step hP ok hq);have hov:Hz (s'.over.e=0):=ζ (by rw[step_over hq];exact h0j);replace hG:=ζ hG;replace hst:=ζ hst;replace ok:=ζ ok;clear hq;have jl:(j:Int)<most:=by omega
    replace hB:=ζ (hB.trans (h.bl (Bl.refl wr).drew).2);replace h:=ζ (h.bl (Bl.refl wr).drew).1;go_upto_region 5 with fail
    refine wp_region_held_drew (S:=(fun X=>X.cell? ⟨kb,0,none⟩=some (.pointer (some ⟨a,0,none⟩)))) (by kernel_rfl) (((h.out.there (boxOb kb #[.pointer (some ⟨a,0,none⟩)]) (.head _)).2.1 0)) (fun hHeld=>?_);generalize wr.drew=X0 at*;refine wpAnyH_ready (rs:=[0,1]) (by kernel_rfl) (by simp) ?_;refine(xcn rfl (fun K hK=>?_) (xcn rfl (fun K hK=>?_) AllReadyH.nil))
    ·skip
     go_simp;clear hHeld;refine hK.out _ _ ((h.out.there (boxOb kb #[.pointer (some ⟨a,0,none⟩)]) (.head _)).2.1 0) (fun hHeld=>?_);clear hK K;try simp only[xap]
     refine xrd 1 rfl (fun K hK=>?_);go_simp;clear hHeld;refine hK.out _ _ ((h.out.there (boxOb kb #[.pointer (some ⟨a,0,none⟩)]) (.head _)).2.1 0) (fun hHeld=>?_);clear hK K;try simp only[xap]
     refine xrd 2 rfl (fun K hK=>?_);go_simp;refine(hG.out.fe _ _ h.out).mono ?_;rintro r Y1 ⟨rfl,e1⟩;replace hB:=ζ (hB.out.trans (h.out.bl e1).2);replace h:=ζ (h.out.bl e1).1;clear e1 hHeld;refine hK.out _ _ ((h.out.there (boxOb kb #[.pointer (some ⟨a,0,none⟩)]) (.head _)).2.1 0) (fun hHeld=>?_);clear hK K;try simp only[xap]
     refine xrd 3 rfl (fun K hK=>?_);go_simp;refine(hG.out.go _ _ h.out).mono ?_;rintro r Y2 ⟨rfl,h6,hB6⟩;replace hB:=ζ (hB.out.trans hB6);replace h:=ζ h6;clear h6 hB6 hHeld;refine hK.out _ _ ((h.out.there (boxOb kb #[.pointer (some ⟨a,0,none⟩)]) (.head _)).2.1 0) (fun hHeld=>?_);clear hK K;try simp only[xap]
     refine xdn ?_ _;clear hHeld;go_wp2_with fail;exact⟨⟨j+1,s',by go_num,by omega,h.out,hB.out,by rw[←Nat.add_assoc];exact hok'.out,hov.out,hst.out⟩,by simp[intOf];omega⟩
    ·skip
     go_simp;clear hHeld;refine hK.out _ _ ((h.out.there (boxOb kb #[.pointer (some ⟨a,0,none⟩)]) (.head _)).2.1 0) (fun hHeld=>?_);clear hK K;try simp only[xap]
     refine wpAnyH_ready (rs:=[0,2]) (by kernel_rfl) (by simp) ?_;refine(xcn rfl (fun K hK=>?_) (xcn rfl (fun K hK=>?_) AllReadyH.nil))
     ·skip
      go_simp;clear hHeld;refine hK.out _ _ ((h.out.there (boxOb kb #[.pointer (some ⟨a,0,none⟩)]) (.head _)).2.1 0) (fun hHeld=>?_);clear hK K;try simp only[xap]
      refine xrd 2 rfl (fun K hK=>?_);go_simp;refine(hG.out.fe _ _ h.out).mono ?_;rintro r Y1 ⟨rfl,e1⟩;replace hB:=ζ (hB.out.trans (h.out.bl e1).2);replace h:=ζ (h.out.bl e1).1;clear e1 hHeld;refine hK.out _ _ ((h.out.there (boxOb kb #[.pointer (some ⟨a,0,none⟩)]) (.head _)).2.1 0) (fun hHeld=>?_);clear hK K;try simp only[xap]
      refine xrd 3 rfl (fun K hK=>?_);go_simp;refine(hG.out.go _ _ h.out).mono ?_;rintro r Y2 ⟨rfl,h6,hB6⟩;replace hB:=ζ (hB.out.trans hB6);replace h:=ζ h6;clear h6 hB6 hHeld;refine hK.out _ _ ((h.out.there (boxOb kb #[.pointer (some ⟨a,0,none⟩)]) (.head _)).2.1 0) (fun hHeld=>?_);clear hK K;try simp only[xap]
      refine xdn ?_ _;clear hHeld;go_wp2_with fail;exact⟨⟨j+1,s',by go_num,by omega,h.out,hB.out,by rw[←Nat.add_assoc];exact hok'.out,hov.out,hst.out⟩,by simp[intOf];omega⟩
     ·skip
      go_simp;refine(hG.out.fe _ _ h.out).mono ?_;rintro r Y1 ⟨rfl,e1⟩;replace hB:=ζ (hB.out.trans (h.out.bl e1).2);replace h:=ζ (h.out.bl e1).1;clear e1 hHeld;refine hK.out _ _ ((h.out.there (boxOb kb #[.pointer (some ⟨a,0,none⟩)]) (.head _)).2.1 0) (fun hHeld=>?_);clear hK K;try simp only[xap]
      refine xrd 0 rfl (fun K hK=>?_);go_simp;clear hHeld;refine hK.out _ _ ((h.out.there (boxOb kb #[.pointer (some ⟨a,0,none⟩)]) (.head _)).2.1 0) (fun hHeld=>?_);clear hK K;try simp only[xap]
      refine xrd 3 rfl (fun K hK=>?_);go_simp;refine(hG.out.go _ _ h.out).mono ?_;rintro r Y2 ⟨rfl,h6,hB6⟩;replace hB:=ζ (hB.out.trans hB6);replace h:=ζ h6;clear h6 hB6 hHeld;refine hK.out _ _ ((h.out.there (boxOb kb #[.pointer (some ⟨a,0,none⟩)]) (.head _)).2.1 0) (fun hHeld=>?_);clear hK K;try simp only[xap]
      refine xdn ?_ _;clear hHeld;go_wp2_with fail;exact⟨⟨j+1,s',by go_num,by omega,h.out,hB.out,by rw[←Nat.add_assoc];exact hok'.out,hov.out,hst.out⟩,by simp[intOf];omega⟩
   |error e=>
    rw[hkj,stepsM_err h0j hq]at hst;have hse:sj.ended e=sR:=hst.trans hR.out;subst hse;rcases ends_of (B:=B) (a:=a) hP ok (by omega) hq with hO|⟨iv,hG⟩
    ·replace hO:=ζ hO;replace hst:=ζ hst;replace ok:=ζ ok;clear hq;have jl:(j:Int)<most:=by omega
     replace hB:=ζ (hB.trans (h.bl (Bl.refl wr).drew).2);replace h:=ζ (h.bl (Bl.refl wr).drew).1;go_upto_region 5 with fail
     refine wp_region_held_drew (S:=(fun X=>X.cell? ⟨kb,0,none⟩=some (.pointer (some ⟨a,0,none⟩)))) (by kernel_rfl) (((h.out.there (boxOb kb #[.pointer (some ⟨a,0,none⟩)]) (.head _)).2.1 0)) (fun hHeld=>?_);generalize wr.drew=X0 at*;refine wpAnyH_ready (rs:=[0,1]) (by kernel_rfl) (by simp) ?_;refine(xcn rfl (fun K hK=>?_) (xcn rfl (fun K hK=>?_) AllReadyH.nil))
     ·skip
      go_simp;clear hHeld;refine hK.out _ _ ((h.out.there (boxOb kb #[.pointer (some ⟨a,0,none⟩)]) (.head _)).2.1 0) (fun hHeld=>?_);clear hK K;try simp only[xap]
      refine xrd 1 rfl (fun K hK=>?_);go_simp;clear hHeld;refine hK.out _ _ ((h.out.there (boxOb kb #[.pointer (some ⟨a,0,none⟩)]) (.head _)).2.1 0) (fun hHeld=>?_);clear hK K;try simp only[xap]
      refine xrd 2 rfl (fun K hK=>?_);go_simp;refine(hO.out _ _ h.out).mono ?_;rintro r Y1 ⟨rfl,e1⟩;replace hB:=ζ (hB.out.trans (h.out.bl e1).2);replace h:=ζ (h.out.bl e1).1;clear e1
      (show bodyPostD Tryz.prog _ _ (Exit.panic _) _ _)
      refine leaves_cons (f:=38) (args:=#[.pointer (some ⟨kb,0,none⟩)]) (by simp) (by simp[go_sem]) ?_;refine(caught h.out e).mono ?_;rintro y u' w'' ⟨rfl,rfl,h9,B9⟩;simp[Leaves,settle,results,Tryz.results17,go_sem];exact⟨h9,hB.out.trans B9⟩
     ·skip
      go_simp;clear hHeld;refine hK.out _ _ ((h.out.there (boxOb kb #[.pointer (some ⟨a,0,none⟩)]) (.head _)).2.1 0) (fun hHeld=>?_);clear hK K;try simp only[xap]
      refine wpAnyH_ready (rs:=[0,2]) (by kernel_rfl) (by simp) ?_;refine(xcn rfl (fun K hK=>?_) (xcn rfl (fun K hK=>?_) AllReadyH.nil))
      ·skip
       go_simp;clear hHeld;refine hK.out _ _ ((h.out.there (boxOb kb #[.pointer (some ⟨a,0,none⟩)]) (.head _)).2.1 0) (fun hHeld=>?_);clear hK K;try simp only[xap]
       refine xrd 2 rfl (fun K hK=>?_);go_simp;refine(hO.out _ _ h.out).mono ?_;rintro r Y1 ⟨rfl,e1⟩;replace hB:=ζ (hB.out.trans (h.out.bl e1).2);replace h:=ζ (h.out.bl e1).1;clear e1
       (show bodyPostD Tryz.prog _ _ (Exit.panic _) _ _)
       refine leaves_cons (f:=38) (args:=#[.pointer (some ⟨kb,0,none⟩)]) (by simp) (by simp[go_sem]) ?_;refine(caught h.out e).mono ?_;rintro y u' w'' ⟨rfl,rfl,h9,B9⟩;simp[Leaves,settle,results,Tryz.results17,go_sem];exact⟨h9,hB.out.trans B9⟩
      ·skip
       go_simp;refine(hO.out _ _ h.out).mono ?_;rintro r Y1 ⟨rfl,e1⟩;replace hB:=ζ (hB.out.trans (h.out.bl e1).2);replace h:=ζ (h.out.bl e1).1;clear e1
       (show bodyPostD Tryz.prog _ _ (Exit.panic _) _ _)
       refine leaves_cons (f:=38) (args:=#[.pointer (some ⟨kb,0,none⟩)]) (by simp) (by simp[go_sem]) ?_;refine(caught h.out e).mono ?_;rintro y u' w'' ⟨rfl,rfl,h9,B9⟩;simp[Leaves,settle,results,Tryz.results17,go_sem];exact⟨h9,hB.out.trans B9⟩
    ·replace hG:=ζ hG;replace hst:=ζ hst;replace ok:=ζ ok;clear hq;have jl:(j:Int)<most:=by omega
     replace hB:=ζ (hB.trans (h.bl (Bl.refl wr).drew).2);replace h:=ζ (h.bl (Bl.refl wr).drew).1;go_upto_region 5 with fail
     refine wp_region_held_drew (S:=(fun X=>X.cell? ⟨kb,0,none⟩=some (.pointer (some ⟨a,0,none⟩)))) (by kernel_rfl) (((h.out.there (boxOb kb #[.pointer (some ⟨a,0,none⟩)]) (.head _)).2.1 0)) (fun hHeld=>?_);generalize wr.drew=X0 at*;refine wpAnyH_ready (rs:=[0,1]) (by kernel_rfl) (by simp) ?_;refine(xcn rfl (fun K hK=>?_) (xcn rfl (fun K hK=>?_) AllReadyH.nil))
     ·skip
      go_simp;clear hHeld;refine hK.out _ _ ((h.out.there (boxOb kb #[.pointer (some ⟨a,0,none⟩)]) (.head _)).2.1 0) (fun hHeld=>?_);clear hK K;try simp only[xap]
      refine xrd 1 rfl (fun K hK=>?_);go_simp;clear hHeld;refine hK.out _ _ ((h.out.there (boxOb kb #[.pointer (some ⟨a,0,none⟩)]) (.head _)).2.1 0) (fun hHeld=>?_);clear hK K;try simp only[xap]
      refine xrd 2 rfl (fun K hK=>?_);go_simp;refine(hG.out.fe _ _ h.out).mono ?_;rintro r Y1 ⟨rfl,e1⟩;replace hB:=ζ (hB.out.trans (h.out.bl e1).2);replace h:=ζ (h.out.bl e1).1;clear e1 hHeld;refine hK.out _ _ ((h.out.there (boxOb kb #[.pointer (some ⟨a,0,none⟩)]) (.head _)).2.1 0) (fun hHeld=>?_);clear hK K;try simp only[xap]
      refine xrd 3 rfl (fun K hK=>?_);go_simp;refine(hG.out.go _ _ h.out).mono ?_;rintro r Y2 ⟨rfl,h6,hB6⟩;replace hB:=ζ (hB.out.trans hB6);replace h:=ζ h6;clear h6 hB6
      (show bodyPostD Tryz.prog _ _ (Exit.panic _) _ _)
      refine leaves_cons (f:=38) (args:=#[.pointer (some ⟨kb,0,none⟩)]) (by simp) (by simp[go_sem]) ?_;refine(caught h.out e).mono ?_;rintro y u' w'' ⟨rfl,rfl,h9,B9⟩;simp[Leaves,settle,results,Tryz.results17,go_sem];exact⟨h9,hB.out.trans B9⟩
     ·skip
      go_simp;clear hHeld;refine hK.out _ _ ((h.out.there (boxOb kb #[.pointer (some ⟨a,0,none⟩)]) (.head _)).2.1 0) (fun hHeld=>?_);clear hK K;try simp only[xap]
      refine wpAnyH_ready (rs:=[0,2]) (by kernel_rfl) (by simp) ?_;refine(xcn rfl (fun K hK=>?_) (xcn rfl (fun K hK=>?_) AllReadyH.nil))
      ·skip
       go_simp;clear hHeld;refine hK.out _ _ ((h.out.there (boxOb kb #[.pointer (some ⟨a,0,none⟩)]) (.head _)).2.1 0) (fun hHeld=>?_);clear hK K;try simp only[xap]
       refine xrd 2 rfl (fun K hK=>?_);go_simp;refine(hG.out.fe _ _ h.out).mono ?_;rintro r Y1 ⟨rfl,e1⟩;replace hB:=ζ (hB.out.trans (h.out.bl e1).2);replace h:=ζ (h.out.bl e1).1;clear e1 hHeld;refine hK.out _ _ ((h.out.there (boxOb kb #[.pointer (some ⟨a,0,none⟩)]) (.head _)).2.1 0) (fun hHeld=>?_);clear hK K;try simp only[xap]
       refine xrd 3 rfl (fun K hK=>?_);go_simp;refine(hG.out.go _ _ h.out).mono ?_;rintro r Y2 ⟨rfl,h6,hB6⟩;replace hB:=ζ (hB.out.trans hB6);replace h:=ζ h6;clear h6 hB6
       (show bodyPostD Tryz.prog _ _ (Exit.panic _) _ _)
       refine leaves_cons (f:=38) (args:=#[.pointer (some ⟨kb,0,none⟩)]) (by simp) (by simp[go_sem]) ?_;refine(caught h.out e).mono ?_;rintro y u' w'' ⟨rfl,rfl,h9,B9⟩;simp[Leaves,settle,results,Tryz.results17,go_sem];exact⟨h9,hB.out.trans B9⟩
      ·skip
       go_simp;refine(hG.out.fe _ _ h.out).mono ?_;rintro r Y1 ⟨rfl,e1⟩;replace hB:=ζ (hB.out.trans (h.out.bl e1).2);replace h:=ζ (h.out.bl e1).1;clear e1 hHeld;refine hK.out _ _ ((h.out.there (boxOb kb #[.pointer (some ⟨a,0,none⟩)]) (.head _)).2.1 0) (fun hHeld=>?_);clear hK K;try simp only[xap]
       refine xrd 0 rfl (fun K hK=>?_);go_simp;clear hHeld;refine hK.out _ _ ((h.out.there (boxOb kb #[.pointer (some ⟨a,0,none⟩)]) (.head _)).2.1 0) (fun hHeld=>?_);clear hK K;try simp only[xap]
       refine xrd 3 rfl (fun K hK=>?_);go_simp;refine(hG.out.go _ _ h.out).mono ?_;rintro r Y2 ⟨rfl,h6,hB6⟩;replace hB:=ζ (hB.out.trans hB6);replace h:=ζ h6;clear h6 hB6
       (show bodyPostD Tryz.prog _ _ (Exit.panic _) _ _)
       refine leaves_cons (f:=38) (args:=#[.pointer (some ⟨kb,0,none⟩)]) (by simp) (by simp[go_sem]) ?_;refine(caught h.out e).mono ?_;rintro y u' w'' ⟨rfl,rfl,h9,B9⟩;simp[Leaves,settle,results,Tryz.results17,go_sem];exact⟨h9,hB.out.trans B9⟩
  ·have:j=k:=by omega
   have jl:¬(j:Int)<most:=by omega
   subst this;rw[Nat.sub_self]at hst;have hse:sj=sR:=(show stepsM P 0 sj=_ from hst).trans hR.out;subst hse;have hC:=ζ (fun W=>catch_idle kb W);replace h:=ζ h;replace hB:=ζ hB;replace hst:=ζ hst;go_wp2_with fail;refine leaves_cons (f:=38) (args:=#[.pointer (some ⟨kb,0,none⟩)]) (by simp) (by simp[go_sem]) ?_;refine(hC.out _).mono ?_;rintro y u' w'' ⟨rfl,rfl,rfl⟩;exact⟨.tuple #[],results_none rfl _ _ _,rfl,h.out.drop,hB.out⟩
theorem steps_over (B:Nat)(W0:World)(a:Nat)(P:PImg)(s:Ms)(l:List Ob)(most:Int)(h:MIn B W0 a P s l)(h0:¬s.over.e=0):
 Calls Tryz.prog 17 #[.pointer (some ⟨a,0,none⟩),.int .i64 most] W0 fun x w'=>x=.returned (.tuple #[])∧MIn B w' a P s l∧Below B W0 w':=by
 have hmf:∀(fn:Fn) (first cap:Array Value) (w:World),(Instr.makeFunc fn first cap).run Tryz.prog w=.ok (.func fn first cap) w:=fun _ _ _ _=>rfl
 have h2:=ζ (h.new #[.pointer (some ⟨a,0,none⟩)] 44);clear h;go_enter_defers Tryz.func17,Tryz.ntmps17;go_upto_region 2 with fail
 refine wp_world (fun W=>MIn B W a P s (boxOb W0.heap.size #[.pointer (some ⟨a,0,none⟩)]::l)∧Below B W0 W) h2.out ?_;clear h2;rintro W ⟨h,hB⟩;generalize W0.heap.size=kb at*;have⟨_,p0,_⟩:=h.there (boxOb kb #[.pointer (some ⟨a,0,none⟩)]) (.head _);have c123:=h.cell.2.2.1;have hlt:=h.alt;have hC:=ζ (fun W=>catch_idle kb W);replace h:=ζ h;replace hB:=ζ hB;have h1:(s.over.e != 0)=true:=by simpa using h0
 generalize s.over.e=x at*;go_wp2_with fail;refine leaves_cons (f:=38) (args:=#[.pointer (some ⟨kb,0,none⟩)]) (by simp) (by simp[go_sem]) ?_;refine(hC.out _).mono ?_;rintro y u' w'' ⟨rfl,rfl,rfl⟩;exact⟨.tuple #[],results_none rfl _ _ _,rfl,h.out.drop,hB.out⟩
open T (Sep Ob Kp Mf boxOb)
theorem eqs_u64 (ad:Addr)(n c:Nat)(W:World):(binOp .eql 46 (.slice (some ad) n c) (.slice none 0 0)).run Tryz.prog W=.ok (.bool false) W:=rfl
theorem eqn_u64 (n c:Nat)(W:World):(binOp .eql 46 (.slice none n c) (.slice none 0 0)).run Tryz.prog W=.ok (.bool true) W:=rfl
theorem clone_u64 (b off n c:Nat)(xs:List Value)(w:World)(hb:b<w.heap.size)(hl:xs.length=n*1)(hc:∀j u,xs[j]?=some u→w.cell? ⟨b,off+j,none⟩=some u)(h1:∀u∈xs,u.oneCell'=true)(hn:n≤2000000):
 Calls Tryz.prog 37 #[.slice (some ⟨b,off,none⟩) n c] w fun x w'=>∃v,x=.returned v∧w'.ownsRow w.heap.size 25 1 v n xs∧Below w.heap.size w w':=by
 have eq0:=eqs_u64 ⟨b,off,none⟩ n c;obtain⟨i0,hi,hz0,hz1,hz2⟩:=T.info_parts' (t:=25) (z:=.int .u64 0) (s:=1) (b:=8) (by kernel_rfl);have hO:(w.alloc (.cells #[] 25)).ownsRow w.heap.size 25 1 (.slice (some ⟨w.heap.size,0,none⟩) 0 0) 0 []:=⟨by simp,.inr ⟨w.heap.size,0,#[],rfl,Nat.le_refl _,(MapKept.heap_alloc w _).1,Nat.le_refl _,by simp[maxLen],by simp,by simp⟩⟩;have hc2:∀j u,xs[j]?=some u→(w.alloc (.cells #[] 25)).cell? ((⟨b,off,none⟩:Addr).add j)=some u:=fun j u q=>by
  rw[addr_addZ];exact(T.cell_of_block (((Below.refl _ w).alloc (Nat.le_refl _) _).block b hb) _).trans (hc j u q)
 have hby:(0+n)*8≤140737488355328:=by omega
 replace hO:=ζ hO;replace hc2:=ζ hc2;replace hc:=ζ hc;replace h1:=ζ h1;go_enter Tryz.func37,Tryz.ntmps37;go_wp2_with(at_builtin;refine wpList_append_own_at _ rfl (.tmp 5) (.tmp 6) 46 rfl w.heap.size 25 i0 (.int .u64 0) 1 8 Tryz.underlying46 hi hz0 hz1 hz2 rfl (by decide) (.slice (some ⟨w.heap.size,0,none⟩) 0 0) 0 [] rfl hO.out ⟨b,off,none⟩ n c xs rfl hl hc2.out h1.out (by unfold maxLen;omega) hby (by simp) ?_);intro v' w' g1 g2 _ _;replace g1:=ζ g1;have g4:Hz (Below w.heap.size w w'):=ζ (Below.trans (((Below.refl _ w).alloc (Nat.le_refl _) _)) (T.Below.of_grown g2 (by simp) (fun k r=>by simp[Value.ownBlock]at r;omega)));clear g2;go_wp2_with fail;go_ret;exact⟨_,rfl,g1.out,g4.out⟩
theorem clnil_u64 (w:World):Calls Tryz.prog 37 #[.slice none 0 0] w fun x w'=>x=.returned (.slice none 0 0)∧w'=w:=by
 have eq0:=eqn_u64 0 0;go_enter Tryz.func37,Tryz.ntmps37;go_wp2_with fail;go_ret;exact⟨rfl,rfl⟩
open T (Sep Ob Kp Mf TgIn boxOb Fm Tc Ed Vl Cp Bx tgOb mRow mRow_idx mRow_tail mRow_at updV flt Vl.row_len integer_any ofI)
theorem entry1_any (t:PTyp)(w:World):Calls Tryz.prog 55 #[.agg #[.bool t.cap,.int .u64 t.b,.int .u64 t.e,.int .u64 t.lo,.int .u64 t.hi,.int .u8 t.p,.int .i64 t.s]] w fun x w'=>x=.returned (.bool t.cap)∧Bl w w':=by
 go_enter Tryz.func55,Tryz.ntmps55;go_wp2_with fail;go_ret;exact⟨rfl,(Bl.refl _).alloc _⟩
def IxOk (r:Int)(b:Bool):Prop:=decide (0≤r)=b
theorem index_any (Ty:List PTyp)(ta:Option Addr)(tc:Nat)(w:World)(hT:FIn 7 PTyp.vals w.heap.size w ta Ty)(hl:Ty.length≤1000):
 Calls Tryz.prog 86 #[.slice ta Ty.length tc,.func (.func 55) #[] #[]] w fun x w'=>∃r:Int,x=.returned (.int .i64 r)∧IxOk r (Ty.any PTyp.cap)∧Bl w w':=by
 have hE:=ζ entry1_any;replace hT:=ζ hT;go_enter Tryz.func86,Tryz.ntmps86;go_wp2_with fail;go_loopw [8] (fun i wr=>∃j:Nat,i=.int .i64 j∧j≤Ty.length∧Bl w wr∧(Ty.take j).any PTyp.cap=false) (fun i _=>Ty.length - (intOf i).toNat)
 case atStart=>exact⟨0,rfl,Nat.zero_le _,Bl.refl _,rfl⟩
 case round=>
  obtain⟨j,rfl,hj,g,hf⟩:=hrel;by_cases hjl:j<Ty.length
  ·have jl:(j:Int)<Ty.length:=by omega
   obtain⟨b,off,rfl,_,hb,hc⟩:=hT.out j hjl;have q0:=(g.cell (p:=⟨b,_,none⟩) hb).trans (hc 0 (by omega));have q1:=(g.cell (p:=⟨b,_,none⟩) hb).trans (hc 1 (by omega));have q2:=(g.cell (p:=⟨b,_,none⟩) hb).trans (hc 2 (by omega));have q3:=(g.cell (p:=⟨b,_,none⟩) hb).trans (hc 3 (by omega));have q4:=(g.cell (p:=⟨b,_,none⟩) hb).trans (hc 4 (by omega));have q5:=(g.cell (p:=⟨b,_,none⟩) hb).trans (hc 5 (by omega));have q6:=(g.cell (p:=⟨b,_,none⟩) hb).trans (hc 6 (by omega));simp only[PTyp.vals,List.getElem?_cons_zero,List.getElem?_cons_succ,Nat.add_zero]at q0 q1 q2 q3 q4 q5 q6;have hb':b<wr.heap.size:=Nat.lt_of_lt_of_le hb g.size;have hS:(Ty.take (j+1)).any PTyp.cap=Ty[j].cap:=by rw[List.take_succ_eq_append_getElem hjl,List.any_append,hf];simp
   have hS2:Ty[j].cap=true→Ty.any PTyp.cap=true:=fun e=>List.any_eq_true.2 ⟨Ty[j],List.getElem_mem hjl,e⟩
   have hv:=hE.out Ty[j];clear hc;generalize Ty[j]=t at*;obtain⟨cb,hcb⟩:∃cb,t.cap=cb:=⟨_,rfl⟩;rw[hcb]at hS hS2 hv q0;replace hS:=ζ hS;replace hS2:=ζ hS2;replace hf:=ζ hf;replace hv:=ζ hv;replace hcb:=ζ hcb;go_wp2_with fail;refine(hv.out _).mono ?_;rintro r X1 ⟨rfl,e1⟩;clear q0 q1 q2 q3 q4 q5 q6
   cases cb
   ·go_wp2_with fail;exact⟨⟨j+1,by go_num,by omega,g.trans e1,hS.out⟩,by simp[intOf];omega⟩
   ·go_wp2_with fail;have e:=hS2.out (by first|rfl|trivial);go_ret;exact⟨(j:Int),rfl,by unfold IxOk;rw[e];simp,g.trans e1⟩
  ·have jl:¬(j:Int)<Ty.length:=by omega
   have:j=Ty.length:=by omega
   subst this;rw[List.take_length]at hf;replace hf:=ζ hf;go_wp2_with fail;go_ret;exact⟨(-1:Int),rfl,by unfold IxOk;rw[hf.out];rfl,g⟩
theorem contains_any (Ty:List PTyp)(ta:Option Addr)(tc:Nat)(w:World)(hT:FIn 7 PTyp.vals w.heap.size w ta Ty)(hl:Ty.length≤1000):
 Calls Tryz.prog 54 #[.slice ta Ty.length tc,.func (.func 55) #[] #[]] w fun x w'=>x=.returned (.bool (Ty.any PTyp.cap))∧Bl w w':=by
 have hX:=index_any Ty ta tc w hT hl;generalize Ty.any PTyp.cap=q at*;replace hX:=ζ hX;go_enter Tryz.func54,Tryz.ntmps54;go_wp2_with fail;refine hX.out.mono ?_;rintro x w1 ⟨r,rfl,h1,h2⟩;have h3:q=decide (0≤r):=h1.symm;clear h1 hX;subst h3;go_wp2_with fail;go_ret;exact⟨rfl,h2⟩
def isEnt (m:PImg)(g:Int):Bool:=if 0≤g∧g<m.gates.length then !((argsOf m g.toNat).any PTyp.cap)else false
theorem isEntry_any (m:PImg)(g:Int)(ra ca ga:Option Addr)(rn rc cn cc gc:Nat)(d:Int)(w:World)(hG:GateIn w.heap.size w ga m.gates)(hl:∀x∈m.gates,x.args.length≤1000):
 Calls Tryz.prog 32 #[.agg #[.slice ra rn rc,.slice ca cn cc,.slice ga m.gates.length gc,.int .i64 d],.int .i64 g] w fun x w'=>x=.returned (.bool (isEnt m g))∧Bl w w':=by
 unfold isEnt;by_cases h1:0≤g∧g<m.gates.length
 ·rw[if_pos h1];obtain⟨k,rfl⟩:∃k:Nat,g=k:=⟨g.toNat,by omega⟩;have hk:k<m.gates.length:=by omega
  rw[Int.toNat_natCast,argsOf_at m k hk];obtain⟨b,off,xa,xc,ya,yc,rfl,_,hb,c0,c1,c2,c3,hx,_⟩:=hG k hk;replace c2:w.cell? ⟨b,off+k*4+2,none⟩=_:=c2;have hC:=ζ (fun X (q:Bl w X)=>contains_any m.gates[k].args xa xc X ((hx.below q).mono q.size) (hl _ (List.getElem_mem hk)));have hb2:b<w.heap.size+1:=by omega
  have e1:¬(k:Int)<0:=by omega
  have e2:¬(m.gates.length:Int)≤(k:Int):=by omega
  have e3:(k:Int)<(m.gates.length:Int):=by omega
  generalize m.gates[k].args.any PTyp.cap=q at*;clear hG h1 c0 c1 c3 hx;go_enter Tryz.func32,Tryz.ntmps32;go_wp2_with fail;refine(hC.out _ ((Bl.refl _).alloc _)).mono ?_;rintro x w1 ⟨rfl,e9⟩;replace e9:=ζ (((Bl.refl w).alloc _).trans e9);clear c2;go_wp2_with fail;go_ret;exact⟨rfl,e9.out⟩
 ·rw[if_neg h1];clear hG hl;by_cases h2:g<0
  ·go_enter Tryz.func32,Tryz.ntmps32;go_wp2_with fail;go_ret;exact⟨rfl,(Bl.refl _).alloc _⟩
  ·have h3:(m.gates.length:Int)≤g:=by omega
   clear h1;go_enter Tryz.func32,Tryz.ntmps32;go_wp2_with fail;go_ret;exact⟨rfl,(Bl.refl _).alloc _⟩
def NumIn (w:World)(a:Option Addr)(L:List Nat):Prop:=∀i (h:i<L.length),∃b off,a=some ⟨b,off,none⟩∧b<w.heap.size∧w.cell? ⟨b,off+i,none⟩=some (.int .u64 L[i])
theorem NumIn.bl {w W:World}{a:Option Addr}{L:List Nat}(h:NumIn w a L)(g:Bl w W):NumIn W a L:=fun i hi=>by
 obtain⟨b,off,e,hl,hc⟩:=h i hi;exact⟨b,off,e,Nat.lt_of_lt_of_le hl g.size,(g.cell (p:=⟨b,_,none⟩) hl).trans hc⟩
def intsF (L:List Nat):Nat→Vl:=fun j=>intV ((L[j - 1]?).getD 0)
theorem vl_one (v:Vl):v.row.toArray.all (fun x=>x.oneCell')=true:=by
 rw[Array.all_eq_true_iff_forall_mem];intro u hu;exact oneCell_vl v u (by simpa using hu)
theorem integers_any (L:List Nat)(a:Option Addr)(c:Nat)(w:World)(h:NumIn w a L)(hl:L.length≤15):
 Calls Tryz.prog 36 #[.slice a L.length c] w fun x w'=>∃va,x=.returned (.slice va L.length L.length)∧SrcV w' va (intsF L) L.length∧Bl w w':=by
 have hmk:=fun W=>Q.make_k (vals:=Vl.row) (t:=107) (e:=75) (k:=7) (b:=56) (Z:=zV) (by decide) Vl.row_len (by kernel_rfl) (by kernel_rfl) L.length (by omega) (by omega) W
 have hI:=ζ (fun(x:Nat) W=>integer_any (x:Int) W);have st0:Hz (At (w.alloc (.cells (rowV [] Vl.row (List.replicate L.length zV)).toArray 75)) w.heap.size (rowV [] Vl.row (List.replicate L.length zV)).toArray):=ζ (At.new w _ _);have g0:Hz (Bl w (w.alloc (.cells (rowV [] Vl.row (List.replicate L.length zV)).toArray 75))):=ζ ((Bl.refl w).alloc _);replace h:=ζ h;go_enter Tryz.func36,Tryz.ntmps36;go_wp2_with fail;clear hmk;generalize w.alloc _=W1 at*;go_loopw [11] (fun i wr=>∃(j:Nat) (M:List Vl),i=.int .i64 j∧j≤L.length∧M.length=L.length∧(∀i,i<j→M[i]?=some (intV ((L[i]?).getD 0)))∧At wr w.heap.size (rowV [] Vl.row M).toArray∧Bl w wr) (fun i _=>L.length - (intOf i).toNat)
 case atStart=>exact⟨0,List.replicate L.length zV,rfl,Nat.zero_le _,by simp,fun i hi=>absurd hi (Nat.not_lt_zero i),st0.out,g0.out⟩
 case round=>
  clear st0 g0;obtain⟨j,M,rfl,hj,hM,hMi,A0,g⟩:=hrel;by_cases hjl:j<L.length
  ·have jl:(j:Int)<L.length:=by omega
   obtain⟨b,off,rfl,hb,hc⟩:=h.out j hjl;have q0:=(g.cell (p:=⟨b,_,none⟩) hb).trans hc;have hb':b<wr.heap.size:=Nat.lt_of_lt_of_le hb g.size;have hrl:=row_len (pre:=[]) Vl.row_len M;rw[hM]at hrl;have eL:L[j]?=some L[j]:=List.getElem?_eq_getElem hjl;generalize L[j]=kx at*;replace hI:=ζ (hI.out kx);replace hMi:=ζ hMi;replace eL:=ζ eL;replace hrl:(rowV [] Vl.row M).length=L.length*7:=by simpa using hrl
   clear hc;go_upto_region 5 with fail
   refine wp_region_lit ?_;iterate 3 (refine xp fun K hK=>?_;go_simp;with_reducible refine hK _ _ ?_;clear hK K;(try simp only[xap]))
   refine xp fun K hK=>?_
   go_simp
   (refine(hI.out _).mono ?_;rintro r X1 ⟨rfl,rfl⟩;have hA1:=ζ (A0.alloc (.cells #[.bool false,.int .u64 (kx:Int),.int .u64 0,.int .u64 0,.int .u64 0,.int .u8 0,.int .i64 0] 75));have hth:=ζ (At.there hA1.out (j*7) 7 (by rw[hrl];omega));have hA2:=ζ (At.setElem Vl.row_len hA1.out j (by omega) (intV kx) (j*7) (by simp)))
   with_reducible refine hK _ _ ?_
   clear hK K;try simp only[xap]
   refine xp fun K hK=>?_
   go_simp;with_reducible refine hK _ _ ?_
   clear hK K;try simp only[xap]
   refine wpList_store_mid rfl _ _ _ rfl _ _ (List.toArray (intV kx).row) rfl rfl (show World.there _ _ _ _ from hth.out) (by kernel_rfl) (vl_one _) ?_;try simp only[Act.put]
   clear hth hA1 q0;have g2:=ζ ((g.alloc (.cells #[.bool false,.int .u64 (kx:Int),.int .u64 0,.int .u64 0,.int .u64 0,.int .u8 0,.int .i64 0] 75)).sets w.heap.size (Nat.le_refl _) (intV kx).row (j*7));generalize World.setCells _ _ _ _=W9 at*;go_wp2_with fail;refine And.intro ⟨j+1,M.set j (intV kx),by go_num,by omega,by simp[hM],fun i hi=>?_,hA2.out,g2.out⟩ (by simp[intOf];omega);by_cases hij:i=j
   ·subst hij;rw[eL.out];simp[hM,hjl]
   ·rw[List.getElem?_set_ne (by omega)];exact hMi.out i (by omega)
  ·have jl:¬(j:Int)<L.length:=by omega
   have hjL:j=L.length:=by omega
   subst hjL;have hsrc:SrcV wr (some ⟨w.heap.size,0,none⟩) (intsF L) L.length:=by
    refine .inr ⟨w.heap.size,0,rfl,A0.1,fun o ho=>?_⟩;have hd:o/7<M.length:=by omega
    have r:=flat_at' Vl.row_len M (o/7) hd (o%7) (by omega);rw[show o/7*7+o%7=o by omega]at r;rw[Nat.zero_add,A0.2.1,List.getElem?_toArray];unfold rowV;rw[List.nil_append,r];have e:=hMi (o/7) (by omega);rw[List.getElem?_eq_getElem hd]at e;injection e with e
    rw[e];unfold intsF;rw[show 1+o/7 - 1=o/7 by omega]
   replace hsrc:=ζ hsrc;replace hMi:=ζ hMi;replace A0:=ζ A0;go_wp2_with fail;go_ret;exact⟨_,rfl,hsrc.out,g⟩
end C
open Go.RowKit
structure PImg.Fits (m:PImg):Prop where
 regs:FitB 56 m.regs.length∧∀r∈m.regs,r.data.length≤140737488355328∧FitB 64 r.slots.length
 comps:FitB 48 m.comps.length∧∀r∈m.comps,FitB 48 r.roots.length∧FitB 40 r.code.length
 gates:FitB 64 m.gates.length∧∀r∈m.gates,FitB 56 r.args.length∧FitB 56 r.res.length
theorem step_below2 {B:Nat}{R W w1:World}(h:Below B R W)(hB:B≤R.heap.size)(hg:Below W.heap.size W w1):Below B R w1:=h.trans (hg.mono (Nat.le_trans hB h.size))
theorem Copy_any (m:PImg)(ra ca ga:Option Addr)(rc cc gc:Nat)(w:World)(hm:ImgIn w.heap.size w ra ca ga m)(hf:m.Fits):
 Calls Tryz.prog 33 #[.agg #[.slice ra m.regs.length rc,.slice ca m.comps.length cc,.slice ga m.gates.length gc,.int .i64 m.depth]] w fun x w'=>∃ra2 rc2 ca2 cc2 ga2 gc2,x=.returned (.agg #[.slice ra2 m.regs.length rc2,.slice ca2 m.comps.length cc2,.slice ga2 m.gates.length gc2,.int .i64 m.depth])∧ImgOwn w.heap.size w' (.slice ra2 m.regs.length rc2) (.slice ca2 m.comps.length cc2) (.slice ga2 m.gates.length gc2) m∧Below w.heap.size w w':=by
 have hC1:=fun W h1=>copiedRegion_any m.regs ra rc W h1 hf.regs.2 hf.regs.1
 have hC2:=fun W h1=>copiedComp_any m.comps ca cc W h1 hf.comps.2 hf.comps.1
 have hC3:=fun W h1=>copiedGate_any m.gates ga gc W h1 hf.gates.2 hf.gates.1
 have hB:Below w.heap.size w ((w.alloc (.cells #[.slice ra m.regs.length rc,.slice ca m.comps.length cc,.slice ga m.gates.length gc,.int .i64 m.depth] 40)).alloc (.cells #[.slice none 0 0,.slice none 0 0,.slice none 0 0,.int .i64 0] 40)):=(((Gr.refl w).alloc _).alloc _).below;have RB:Box ((w.alloc (.cells #[.slice ra m.regs.length rc,.slice ca m.comps.length cc,.slice ga m.gates.length gc,.int .i64 m.depth] 40)).alloc (.cells #[.slice none 0 0,.slice none 0 0,.slice none 0 0,.int .i64 0] 40)) w.heap.size #[.slice ra m.regs.length rc,.slice ca m.comps.length cc,.slice ga m.gates.length gc,.int .i64 m.depth] 40:=(Box.new w _ _).alloc _;have X:Box ((w.alloc (.cells #[.slice ra m.regs.length rc,.slice ca m.comps.length cc,.slice ga m.gates.length gc,.int .i64 m.depth] 40)).alloc (.cells #[.slice none 0 0,.slice none 0 0,.slice none 0 0,.int .i64 0] 40)) (w.heap.size+1) #[.slice none 0 0,.slice none 0 0,.slice none 0 0,.int .i64 0] 40:=Box.next _ _ _ _
 replace hm:=Hid.mk hm;replace hB:=Hid.mk hB;replace RB:=Hid.mk RB;replace X:=Hid.mk X;clear hf;go_enter Tryz.func33,Tryz.ntmps33;go_wp2_with fail;generalize (w.alloc (.cells #[.slice ra m.regs.length rc,.slice ca m.comps.length cc,.slice ga m.gates.length gc,.int .i64 m.depth] 40)).alloc (.cells #[.slice none 0 0,.slice none 0 0,.slice none 0 0,.int .i64 0] 40)=R0 at*;have hn1:w.heap.size+1≤R0.heap.size:=Nat.le_of_lt X.out.lt;have KS:∀W,Below (w.heap.size+1) R0 W→W.cell? ⟨w.heap.size,0,none⟩=some (.slice ra m.regs.length rc)∧W.cell? ⟨w.heap.size,1,none⟩=some (.slice ca m.comps.length cc)∧W.cell? ⟨w.heap.size,2,none⟩=some (.slice ga m.gates.length gc)∧W.cell? ⟨w.heap.size,3,none⟩=some (.int .i64 m.depth):=fun W hW=>⟨(hW.cell (p:=⟨w.heap.size,0,none⟩) (Nat.lt_succ_self _)).trans (RB.out.at.2.1 0),(hW.cell (p:=⟨w.heap.size,1,none⟩) (Nat.lt_succ_self _)).trans (RB.out.at.2.1 1),(hW.cell (p:=⟨w.heap.size,2,none⟩) (Nat.lt_succ_self _)).trans (RB.out.at.2.1 2),(hW.cell (p:=⟨w.heap.size,3,none⟩) (Nat.lt_succ_self _)).trans (RB.out.at.2.1 3)⟩
 have hI:∀W,Below (w.heap.size+1) R0 W→ImgIn W.heap.size W ra ca ga m:=fun W hW=>(hm.out.below (hB.out.trans (hW.mono (Nat.le_succ _)))).mono (Nat.le_trans hB.out.size hW.size)
 have hI1:=Hid.mk (fun W h=>(hI W h).regs);have hI2:=Hid.mk (fun W h=>(hI W h).comps);have hI3:=Hid.mk (fun W h=>(hI W h).gates);replace KS:=Hid.mk KS;clear hI
 (go_region_held3 (fun W=>W.cell? ⟨w.heap.size,0,none⟩=some (.slice ra m.regs.length rc)∧W.cell? ⟨w.heap.size,1,none⟩=some (.slice ca m.comps.length cc)∧W.cell? ⟨w.heap.size,2,none⟩=some (.slice ga m.gates.length gc)∧W.cell? ⟨w.heap.size,3,none⟩=some (.int .i64 m.depth)) (first|(refine KS.out _ ?_;((repeat(first|assumption|with_reducible exact Below.refl _ _|with_reducible refine Below.drew ?_)));done)|exact KS.out _ (Below.setCell (p:=⟨w.heap.size+1,3,none⟩) (Below.setCell (p:=⟨w.heap.size+1,2,none⟩) (Below.setCell (p:=⟨w.heap.size+1,1,none⟩) (Below.setCell (p:=⟨w.heap.size+1,0,none⟩) (by assumption) (Nat.le_refl _) _) (Nat.le_refl _) _) (Nat.le_refl _) _) (Nat.le_refl _) _)|exact KS.out _ (Below.drew (Below.setCell (p:=⟨w.heap.size+1,3,none⟩) (Below.setCell (p:=⟨w.heap.size+1,2,none⟩) (Below.setCell (p:=⟨w.heap.size+1,1,none⟩) (Below.setCell (p:=⟨w.heap.size+1,0,none⟩) (by assumption) (Nat.le_refl _) _) (Nat.le_refl _) _) (Nat.le_refl _) _) (Nat.le_refl _) _))) (first|(go_at_call 56;refine(hC1 _ (hI1.out _ (by((repeat(first|assumption|with_reducible exact Below.refl _ _|with_reducible refine Below.drew ?_)))))).mono ?_;rintro x w1 ⟨v,rfl,s1,hO1,hE1,hb1⟩;obtain⟨ra2,rc2,rfl⟩:=own_slice hO1;have d1:Below R0.heap.size R0 w1:=step_below2 (by((repeat(first|assumption|with_reducible exact Below.refl _ _|with_reducible refine Below.drew ?_)))) (Nat.le_refl _) hb1;have b1:Below (w.heap.size+1) R0 w1:=d1.mono hn1)|(go_at_call 58;refine(hC2 _ (hI2.out _ (by((repeat(first|assumption|with_reducible exact Below.refl _ _|with_reducible refine Below.drew ?_)))))).mono ?_;rintro x w2 ⟨v,rfl,s2,hO2,hE2,hb2⟩;obtain⟨ca2,cc2,rfl⟩:=own_slice hO2;have d2:Below R0.heap.size R0 w2:=step_below2 (by((repeat(first|assumption|with_reducible exact Below.refl _ _|with_reducible refine Below.drew ?_)))) (Nat.le_refl _) hb2;have b2:Below (w.heap.size+1) R0 w2:=d2.mono hn1)|(go_at_call 60;refine(hC3 _ (hI3.out _ (by((repeat(first|assumption|with_reducible exact Below.refl _ _|with_reducible refine Below.drew ?_)))))).mono ?_;rintro x w3 ⟨v,rfl,s3,hO3,hE3,hb3⟩;obtain⟨ga2,gc2,rfl⟩:=own_slice hO3;have d3:Below R0.heap.size R0 w3:=step_below2 (by((repeat(first|assumption|with_reducible exact Below.refl _ _|with_reducible refine Below.drew ?_)))) (Nat.le_refl _) hb3;have b3:Below (w.heap.size+1) R0 w3:=d3.mono hn1;have⟨z1,p1,f1⟩:=(X.out.below d3 X.out.lt).at)))
 all_goals
  go_wp2_with fail;have X2:=X.out.below d3 X.out.lt;have g2:=grown_of hb2 none;have g3:=grown_of hb3 none;have e1:w.heap.size≤w1.heap.size:=Nat.le_trans hB.out.size d1.size;have e2:w.heap.size≤w2.heap.size:=Nat.le_trans hB.out.size d2.size;have hm1:ImgOwn w.heap.size w3 (.slice ra2 m.regs.length rc2) (.slice ca2 m.comps.length cc2) (.slice ga2 m.gates.length gc2) m:=
   ⟨⟨s1,own_base (own_below (own_below hO1 hb2) hb3) hB.out.size,((hE1.imp fun _ _ q=>q.step g2 (nes_none _)).imp fun _ _ q=>q.step g3 (nes_none _)).imp fun _ _ q=>q.base hB.out.size⟩,
    ⟨s2,own_base (own_below hO2 hb3) e1,(hE2.imp fun _ _ q=>q.step g3 (nes_none _)).imp fun _ _ q=>q.base e1⟩,
    ⟨s3,own_base hO3 e2,hE3.imp fun _ _ q=>q.base e2⟩⟩
  have B2:=hB.out.trans (d3.mono hB.out.size);have b4:Box (((((w3).setCell ⟨(w.heap.size+1),0,none⟩ (.slice ra2 m.regs.length rc2)).setCell ⟨(w.heap.size+1),1,none⟩ (.slice ca2 m.comps.length cc2)).setCell ⟨(w.heap.size+1),2,none⟩ (.slice ga2 m.gates.length gc2)).setCell ⟨(w.heap.size+1),3,none⟩ (.int .i64 m.depth)) (w.heap.size+1) #[.slice ra2 m.regs.length rc2,.slice ca2 m.comps.length cc2,.slice ga2 m.gates.length gc2,.int .i64 m.depth] 40:=Box.setRow X2 [.slice ra2 m.regs.length rc2,.slice ca2 m.comps.length cc2,.slice ga2 m.gates.length gc2,.int .i64 m.depth] rfl;have B4:Below w.heap.size w (((((w3).setCell ⟨(w.heap.size+1),0,none⟩ (.slice ra2 m.regs.length rc2)).setCell ⟨(w.heap.size+1),1,none⟩ (.slice ca2 m.comps.length cc2)).setCell ⟨(w.heap.size+1),2,none⟩ (.slice ga2 m.gates.length gc2)).setCell ⟨(w.heap.size+1),3,none⟩ (.int .i64 m.depth)):=below_row [.slice ra2 m.regs.length rc2,.slice ca2 m.comps.length cc2,.slice ga2 m.gates.length gc2,.int .i64 m.depth] B2 (by omega)
  have O4:ImgOwn w.heap.size (((((w3).setCell ⟨(w.heap.size+1),0,none⟩ (.slice ra2 m.regs.length rc2)).setCell ⟨(w.heap.size+1),1,none⟩ (.slice ca2 m.comps.length cc2)).setCell ⟨(w.heap.size+1),2,none⟩ (.slice ga2 m.gates.length gc2)).setCell ⟨(w.heap.size+1),3,none⟩ (.int .i64 m.depth)) (.slice ra2 m.regs.length rc2) (.slice ca2 m.comps.length cc2) (.slice ga2 m.gates.length gc2) m:=ImgOwn.row (by decide) [.slice ra2 m.regs.length rc2,.slice ca2 m.comps.length cc2,.slice ga2 m.gates.length gc2,.int .i64 m.depth] hm1 X2;have⟨_,q4,_⟩:=b4.at;clear z1 p1 f1 RB X hB b4 X2 hm1 B2;generalize ((((w3).setCell ⟨(w.heap.size+1),0,none⟩ (.slice ra2 m.regs.length rc2)).setCell ⟨(w.heap.size+1),1,none⟩ (.slice ca2 m.comps.length cc2)).setCell ⟨(w.heap.size+1),2,none⟩ (.slice ga2 m.gates.length gc2)).setCell ⟨(w.heap.size+1),3,none⟩ (.int .i64 m.depth)=W4 at*;simp[bodyPost,results,Tryz.results33,go_sem,q4]
  exact⟨ra2,rc2,ca2,cc2,ga2,gc2,⟨⟨rfl,rfl⟩,⟨rfl,rfl⟩,rfl,rfl⟩,O4,B4⟩
end Go.Proofs.YtkhbiaaangnkdaaGreatDoor
