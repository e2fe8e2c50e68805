import Derived.Test.YthlpjlnehonpdaaGreatDoorCards
import Derived.Test.YthlpjlnehonpdaaGreatDoorTie
import Derived.Test.YthlpjlnehonpdaaGreatDoorK35
import Derived.Test.YthlpjlnehonpdaaGreatDoorK05
import Derived.Test.YthlpjlnehonpdaaGreatDoorKWBoundRuns
import Derived.Deep.DeepHandedRow
import Derived.LaidMore
import Derived.Lib.LaidTab
namespace Go.Proofs.YthlpjlnehonpdaaGreatDoor
set_option maxRecDepth 100000
set_option maxHeartbeats 40000000
open Go.ChangeShapes Go.WideShapes Go.ChangeAt Go.RowKit
theorem contract_boundRuns (H:Type)(enc:TypeId×Value→H)(W:World)(base:Nat)(args:Array Value)(ds gs:List (DataW H))(before:List MemPlace)
 (hval:∀(j:Nat) t v,Tryz.f5.params[j]?=some t→args[j]?=some v→Value.okWide Tryz.prog W .any base t v)
 (hW:DataW.Whole enc Tryz.prog Tryz.f5.params.toList Rows.boundRunsSpec.vars false W args.toList ds gs before)(hk:Rows.uptoSmall H (ds++gs)=true)(hL:laidMetH Tryz.prog Rows.boundRunsUptoRow.laid W)(hz:(DataW.weightsEach Tryz.prog (Tryz.f5.params.toList++(Rows.OpenSpec.upto Rows.boundRunsSpec).bare.plain.varTypes Tryz.prog) (ds++gs)).all (·≤reachBytes)=true):
 Calls Tryz.prog 5 args W fun e W'=>∃v,e=.returned v∧Rows.boundRunsSpec.post enc Tryz.prog Tryz.f5 false true false false W args v W':=by
 have hW':=hW;obtain⟨p,q,hA0,hV,rfl,hfz,hnd⟩:=hW;have hA:DataW.TrodAll enc Tryz.prog W 0 (fun _=>true) true Tryz.f5.params.toList args.toList ds p:=hA0;rw[Tryz.params5]at hA hval;obtain⟨v0,vs0,d0,ds0,pl0,ql0,hargs,rfl,rfl,h0,r0⟩:=trodAll_cons hA;obtain⟨v1,vs1,d1,ds1,pl1,ql1,rfl,rfl,rfl,h1,r1⟩:=trodAll_cons r0;obtain⟨v2,vs2,d2,ds2,pl2,ql2,rfl,rfl,rfl,h2,r2⟩:=trodAll_cons r1;obtain⟨v3,vs3,d3,ds3,pl3,ql3,rfl,rfl,rfl,h3,r3⟩:=trodAll_cons r2;obtain⟨rfl,rfl,rfl⟩:=trodAll_nil r3;obtain rfl:args=#[v0,v1,v2,v3]:=by cases args;simp_all
 obtain⟨rfl,rfl⟩:=trodVars_none hV;have k0:=h0;have lt0:∀x∈pl0,x.block<W.heap.size:=by obtain⟨m,hm⟩:=k0;exact DataW.trod_lt m _ _ _ hm
 obtain⟨m0,ra0,rc0,ca0,cc0,ga0,gc0,rfl,rg0,rn0⟩:=open_imgF (hval 0 40 v0 rfl rfl) h0;replace rn0:=rn0 (light_of hz (j:=0) rfl rfl);have k1:=h1;have lt1:∀x∈pl1,x.block<W.heap.size:=by obtain⟨m,hm⟩:=k1;exact DataW.trod_lt m _ _ _ hm
 obtain⟨x1,rfl,_,_,wf1⟩:=open_int Tryz.underlying3 (hval 1 3 v1 rfl rfl) h1;have rg1:=C.bdz_i64 wf1;have k2:=h2;have lt2:∀x∈pl2,x.block<W.heap.size:=by obtain⟨m,hm⟩:=k2;exact DataW.trod_lt m _ _ _ hm
 have ov2:=hval 2 46 v2 rfl rfl;obtain⟨xa2,xl2,xk2,rfl⟩:=okWide_slice Tryz.underlying46 ov2;obtain⟨lw2,rfl,rg2,rm2,ro2,rl2⟩:=C.open_words ov2 h2;have bb2:=rl2 (C.bulkz_in hk _ (by simp));have k3:=h3;have lt3:∀x∈pl3,x.block<W.heap.size:=by obtain⟨m,hm⟩:=k3;exact DataW.trod_lt m _ _ _ hm
 have ov3:=hval 3 46 v3 rfl rfl;obtain⟨xa3,xl3,xk3,rfl⟩:=okWide_slice Tryz.underlying46 ov3;obtain⟨lw3,rfl,rg3,rm3,ro3,rl3⟩:=C.open_words ov3 h3;have bb3:=rl3 (C.bulkz_in hk _ (by simp));clear hA0;refine(C.walk_BoundRuns m0 x1 lw2 lw3 ra0 ca0 ga0 xa2 xa3 rc0 cc0 gc0 xk2 xk3 W (tab_of_laid hL) rg0 rn0.rng rn0.tw rg1 rm2 rm3 ro2 ro3 (by omega)).mono fun e W' ⟨he,bel⟩=>?_
 subst he;exact⟨_,rfl,_,_,_,[],_,[],hW',trodAll_mk1 (shut_bool Tryz.underlying4 _),(trodAll_cons_mk (Below.trod laidOut (by kernel_rfl) (of_decide_eq_true (by kernel_rfl)) k0 bel lt0) (trodAll_cons_mk (Below.trod laidOut (by kernel_rfl) (of_decide_eq_true (by kernel_rfl)) k1 bel lt1) (trodAll_cons_mk (Below.trod laidOut (by kernel_rfl) (of_decide_eq_true (by kernel_rfl)) k2 bel lt2) (trodAll_cons_mk (Below.trod laidOut (by kernel_rfl) (of_decide_eq_true (by kernel_rfl)) k3 bel lt3) trodAll_mk0)))),rfl,bel.frame _,fun h=>by cases h⟩
theorem laid_boundRuns (os:Os):laidMet Tryz.prog Rows.boundRunsUptoRow.laid ((World.doorLaid Tryz.prog 19 os).forCall (fun _ _=>0) ⟨#[],#[.agg #[.slice none 0 0,.slice none 0 0,.slice none 0 0,.int .i64 0],.int .i64 0,.slice none 0 0,.slice none 0 0],[]⟩).memory:=
 laidMet_of_run' 8 (by kernel_rfl) (by kernel_rfl)
theorem reads_boundRuns (os:Os){H:Type}(enc:TypeId×Value→H):∃places,DataW.whole enc Tryz.prog ((World.doorLaid Tryz.prog 19 os).forCall (fun _ _=>0) ⟨#[],#[.agg #[.slice none 0 0,.slice none 0 0,.slice none 0 0,.int .i64 0],.int .i64 0,.slice none 0 0,.slice none 0 0],[]⟩).memory Tryz.f5.params.toList Rows.boundRunsSpec.vars false (#[.agg #[.slice none 0 0,.slice none 0 0,.slice none 0 0,.int .i64 0],.int .i64 0,.slice none 0 0,.slice none 0 0]:Array Value).toList 8=some ([.agg [.nil,.nil,.nil,.lit (.int .i64 0)],.lit (.int .i64 0),.nil,.nil],[],places):=
 ⟨[],by kernel_rfl⟩
theorem lifted_boundRuns (os:Os)(started:os.Started)(H:Type)(enc:TypeId×Value→H)(F:Stop.Interp):
 ReturnsInHanded {} Tryz.checked os 5 .any ((Rows.OpenSpec.upto Rows.boundRunsSpec).preRow enc Tryz.prog Tryz.f5 Rows.boundRunsUptoRow.domain false Rows.boundRunsUptoRow.laid) (((Rows.OpenSpec.upto Rows.boundRunsSpec).at F).post enc Tryz.prog Tryz.f5 false true false false):=by
 obtain⟨places,hx⟩:=reads_boundRuns os enc;refine returnsInHanded_of_row (C:=Tryz.checked) (s:=(Rows.OpenSpec.upto Rows.boundRunsSpec)) own started (by kernel_rfl) Tryz.func5
  (witness_row_at (enc:=enc) (C:=Tryz.checked) false (World.doorLaid Tryz.prog 19 os) #[.agg #[.slice none 0 0,.slice none 0 0,.slice none 0 0,.int .i64 0],.int .i64 0,.slice none 0 0,.slice none 0 0] rfl (by kernel_rfl) (by kernel_rfl) (by kernel_rfl)
   (OpenSpec.preRow_of_cond 8 hx (by kernel_rfl) (fun k hk=>by cases hk;kernel_rfl) (by kernel_rfl) (laid_boundRuns os))) ?_
 intro W base args ds gs before hval hW _ hcond hz hL _ _;exact contract_boundRuns H enc W base args ds gs before hval hW (hcond _ rfl) hL hz
theorem boundRuns_said:Rows.BoundRunsUptoSaid:=
 OpenClaim.holds_of_cond 5 Tryz.f5 rfl rfl rfl rfl rfl rfl rfl ⟨rfl,rfl,rfl,rfl,rfl⟩ rfl rfl rfl rfl rfl (by kernel_rfl) Tryz.func5 (by kernel_rfl)
  (of_decide_eq_true (by kernel_rfl)) (by unfold Func.isWrapper;first|(rw[if_pos (by decide+kernel)];kernel_rfl)|(rw[if_neg (by decide+kernel)];exact⟨rfl,rfl⟩))
  (fun os started H enc _ F=>by rw[OpenClaim.pre_eq_preRow];exact lifted_boundRuns os started H enc F)
theorem plain_boundRuns (f:FuncId)(fn:Func)(hf:Tryz.pinned.checked.prog.funcNamed "paddock/paddocklaw18.BoundRuns" =some f)(hfn:Tryz.pinned.checked.prog.funcs[f]?=some fn):
 true=Tryz.pinned.checked.prog.looks []∧∀(j:Nat) t,fn.params[j]?=some t→Tryz.pinned.checked.prog.wantsStandIn t=false:=by
 obtain rfl:f=5:=Option.some.inj ((show Tryz.prog.funcNamed "paddock/paddocklaw18.BoundRuns" =some 5 by kernel_rfl).symm.trans hf) |>.symm;obtain rfl:fn=Tryz.f5:=(Option.some.inj (Tryz.func5.symm.trans hfn)).symm;refine⟨by kernel_rfl,fun j t ht=>?_⟩;rw[Tryz.params5]at ht;have hm:t∈[40,3,46,46]:=by simpa using Array.mem_of_getElem? ht
 have hall:([40,3,46,46].all fun u=>!Tryz.prog.wantsStandIn u)=true:=by kernel_rfl
 exact(show Tryz.prog.wantsStandIn t=false by simpa using List.all_eq_true.1 hall t hm)
theorem boundRuns_holds:Rows.BoundRunsUptoCardSaid:=
 Claim7.holds_tied_plain_at .later [] _ _ _ _ boundRuns_said (fun _ h=>by cases h) (by kernel_rfl) (fun _ h=>by cases h) boundRunsUpto_row_tie rfl ⟨rfl,rfl⟩ (by kernel_rfl) rfl plain_boundRuns (by kernel_rfl)
#print axioms boundRuns_holds
end Go.Proofs.YthlpjlnehonpdaaGreatDoor
