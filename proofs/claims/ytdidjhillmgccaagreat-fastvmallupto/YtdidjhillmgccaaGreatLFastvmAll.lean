import Derived.Test.YtdidjhillmgccaaGreatZOpen
import Derived.Test.YtdidjhillmgccaaGreatWFastvmAll
import Derived.Deep.DeepHandedRow
import Derived.LaidMore
import Derived.Lib.LaidTab
namespace Go.Proofs.YtdidjhillmgccaaGreat
set_option maxRecDepth 100000
set_option maxHeartbeats 40000000
open Go.ChangeShapes Go.WideShapes Go.ChangeAt Go.RowKit
namespace Z
theorem slice_le {W:World}{r:Reach}{base:Nat}{t e:TypeId}{a:Addr}{len cap:Nat}(ht:Tryz.prog.underlying t=some (.slice e))(h:Value.okWide Tryz.prog W r base t (.slice (some a) len cap)):len≤cap:=by
 simp only[Value.okWide,ht,Cell.okWide,Cell.ok]at h;exact h.1
def Tn.Is (t:Tn):Prop:=(-9223372036854775808≤t.n∧t.n≤9223372036854775807)∧ -9223372036854775808≤t.w∧t.w≤9223372036854775807
theorem trod_tn {H:Type}{enc:TypeId×Value→H}{W:World}{spare:Nat→Bool}{held:Bool}{n:Nat}{cs:List Value}{x:DataW H×List MemPlace}
 (hf:DataW.trod enc Tryz.prog W 0 spare held n 44 cs=some x):∃k:Tn,cs=k.vals∧k.Is:=by
 obtain⟨xs,m,_,hxx,hcl,hl,hx⟩:=DataW.trod_struct Tryz.underlying44 hf;have at_:∀i,i<3→∃y,xs[i]?=some y:=by
  intro i hi;have:i<xs.length:=by rw[hl];simpa using hi
  exact⟨xs[i],by simp[this]⟩
 obtain⟨c0,c1,c2,rfl⟩:∃c0 c1 c2,cs=[c0,c1,c2]:=by
  have h3:cs.length=3:=hcl.trans (show Tryz.prog.cellsOf 44=3 by kernel_rfl)
  match cs,h3 with
  |[c0,c1,c2],_=>exact⟨c0,c1,c2,rfl⟩
 have k2:Tryz.prog.cellsOf 3=1:=by kernel_rfl
 obtain⟨y0,t0⟩:=at_ 0 (by omega);rw[←hx 0 _ rfl]at t0;obtain⟨y1,t1⟩:=at_ 1 (by omega);rw[←hx 1 _ rfl]at t1;obtain⟨y2,t2⟩:=at_ 2 (by omega);rw[←hx 2 _ rfl]at t2;obtain⟨a,e0,_,_⟩:=DataW.trod_int Tryz.underlying3 t0;obtain⟨b,e1,_,w1⟩:=DataW.trod_int Tryz.underlying3 t1;obtain⟨c,e2,_,w2⟩:=DataW.trod_int Tryz.underlying3 t2;simp[k2]at e0 e1 e2;subst e0 e1 e2;have q1:=bdz_i64 w1;have q2:=bdz_i64 w2;exact⟨⟨a,b,c⟩,rfl,⟨q2.1,Int.le_of_lt_add_one q2.2⟩,q1.1,Int.le_of_lt_add_one q1.2⟩
theorem open_turns {H:Type}{enc:TypeId×Value→H}{W:World}{spare:Nat→Bool}{held:Bool}{a:Option Addr}{len cap:Nat}{d:DataW H}{ps:List MemPlace}(h:DataW.Trod enc Tryz.prog W 0 spare held 27 (.slice a len cap) d ps):∃L:List Tn,L.length=len∧T.EIn 3 Tn.vals W a L∧∀t∈L,t.Is:=by
 obtain⟨n,hn⟩:=h;obtain⟨a2,cap2,L,e,hL,hr,_⟩:=open_rowsB (Q:=fun cs (k:Tn)=>cs=k.vals∧k.Is) (Rg:=fun _=>True) Tryz.underlying27 (show Tryz.prog.cellsOf 44=3 by kernel_rfl) (by omega) (fun _ _ _ h=>by obtain⟨k,h1,h2⟩:=trod_tn h;exact⟨k,⟨h1,h2⟩,fun _=>trivial⟩) hn;simp[Value.cells]at e;obtain⟨rfl,rfl,rfl⟩:=e;refine⟨L,rfl,ein_of (fun _=>rfl) (fun i hi=>?_),fun r hm=>?_⟩
 ·obtain⟨b,off,ha,hb,cs',⟨rfl,_⟩,hc⟩:=hL i hi;exact⟨b,off,ha,hb,hc⟩
 ·obtain⟨i,hi,rfl⟩:=List.getElem_of_mem hm;obtain⟨b,off,ha,hb,cs',⟨_,q⟩,hc⟩:=hL i hi;exact q
end Z
theorem contract_fastvmAll (H:Type)(enc:TypeId×Value→H)(W:World)(base:Nat)(args:Array Value)(ds gs:List (DataW H))(before:List MemPlace)
 (hval:∀(j:Nat) t v,Tryz.f3.params[j]?=some t→args[j]?=some v→Value.okWide Tryz.prog W .any base t v)
 (hW:DataW.Whole enc Tryz.prog Tryz.f3.params.toList Rows.fastvmAllSpec.vars false W args.toList ds gs before)(hk:Rows.uptoSmall H (ds++gs)=true)(hz:(DataW.weightsEach Tryz.prog (Tryz.f3.params.toList++(Rows.OpenSpec.upto Rows.fastvmAllSpec).bare.plain.varTypes Tryz.prog) (ds++gs)).all (·≤reachBytes)=true):
 Calls Tryz.prog 3 args W fun e W'=>∃v,e=.returned v∧Rows.fastvmAllSpec.post enc Tryz.prog Tryz.f3 false true false false W args v W':=by
 have hW':=hW;obtain⟨p,q,hA0,hV,rfl,hfz,hnd⟩:=hW;have hA:DataW.TrodAll enc Tryz.prog W 0 (fun _=>true) true Tryz.f3.params.toList args.toList ds p:=hA0;rw[Tryz.params3]at hA hval;obtain⟨v0,vs0,d0,ds0,pl0,ql0,hargs,rfl,rfl,h0,r0⟩:=trodAll_cons hA;obtain⟨v1,vs1,d1,ds1,pl1,ql1,rfl,rfl,rfl,h1,r1⟩:=trodAll_cons r0;obtain⟨v2,vs2,d2,ds2,pl2,ql2,rfl,rfl,rfl,h2,r2⟩:=trodAll_cons r1;obtain⟨v3,vs3,d3,ds3,pl3,ql3,rfl,rfl,rfl,h3,r3⟩:=trodAll_cons r2;obtain⟨v4,vs4,d4,ds4,pl4,ql4,rfl,rfl,rfl,h4,r4⟩:=trodAll_cons r3;obtain⟨v5,vs5,d5,ds5,pl5,ql5,rfl,rfl,rfl,h5,r5⟩:=trodAll_cons r4;obtain⟨rfl,rfl,rfl⟩:=trodAll_nil r5;obtain rfl:args=#[v0,v1,v2,v3,v4,v5]:=by cases args;simp_all
 obtain⟨rfl,rfl⟩:=trodVars_none hV;have k0:=h0;have lt0:∀x∈pl0,x.block<W.heap.size:=by obtain⟨m,hm⟩:=k0;exact DataW.trod_lt m _ _ _ hm
 have ov0:=hval 0 25 v0 rfl rfl;obtain⟨R,ca,cc,ga,gc,mem,rfl,rp0,rw0,rb0⟩:=Z.open_prog ov0 h0;have bb0:=rb0 (Z.bulkz_in hk _ (by simp));have k1:=h1;have lt1:∀x∈pl1,x.block<W.heap.size:=by obtain⟨m,hm⟩:=k1;exact DataW.trod_lt m _ _ _ hm
 have ov1:=hval 1 25 v1 rfl rfl;obtain⟨R2,ca2,cc2,ga2,gc2,mem2,rfl,rp1,rw1,rb1⟩:=Z.open_prog ov1 h1;have bb1:=rb1 (Z.bulkz_in hk _ (by simp));have k2:=h2;have lt2:∀x∈pl2,x.block<W.heap.size:=by obtain⟨m,hm⟩:=k2;exact DataW.trod_lt m _ _ _ hm
 obtain⟨x2,rfl,_,_,wf2⟩:=open_int Tryz.underlying3 (hval 2 3 v2 rfl rfl) h2;have k3:=h3;have lt3:∀x∈pl3,x.block<W.heap.size:=by obtain⟨m,hm⟩:=k3;exact DataW.trod_lt m _ _ _ hm
 have ov3:=hval 3 26 v3 rfl rfl;obtain⟨xa3,xl3,xk3,rfl⟩:=okWide_slice Tryz.underlying26 ov3;obtain⟨L3,rfl,rg3,ro3,rl3⟩:=Z.open_words ov3 h3;have bb3:=rl3 (Z.bulkz_in hk _ (by simp));have k4:=h4;have lt4:∀x∈pl4,x.block<W.heap.size:=by obtain⟨m,hm⟩:=k4;exact DataW.trod_lt m _ _ _ hm
 have ov4:=hval 4 26 v4 rfl rfl;obtain⟨xa4,xl4,xk4,rfl⟩:=okWide_slice Tryz.underlying26 ov4;obtain⟨L4,rfl,rg4,ro4,rl4⟩:=Z.open_words ov4 h4;have bb4:=rl4 (Z.bulkz_in hk _ (by simp));have k5:=h5;have lt5:∀x∈pl5,x.block<W.heap.size:=by obtain⟨m,hm⟩:=k5;exact DataW.trod_lt m _ _ _ hm
 obtain⟨xa5,xl5,xk5,rfl⟩:=okWide_slice Tryz.underlying27 (hval 5 27 v5 rfl rfl);obtain⟨L5,rfl,hT5,hr5⟩:=Z.open_turns h5;clear hA0;have hbg:=Z.bgn_of (mem:=mem) rp0 rw0 bb0 rg3 ro3 rg4 ro4 bb4;have hbg2:=Z.bgn_of (mem:=mem2) rp1 rw1 bb1 rg3 ro3 rg4 ro4 bb4;refine(Z.walk_FastvmAll R ca ga cc gc mem x2 L3 xa3 xk3 xa4 xk4 L4 R2 ca2 ga2 cc2 gc2 mem2 L5 xa5 xk5 W hbg hbg2 (fun a q=>by subst q;exact Z.slice_le Tryz.underlying26 ov4) (Nat.le_trans bb3 (by decide)) (Nat.le_trans bb4 (by decide)) hT5 hr5).mono fun e W' ⟨he,bel⟩=>?_
 subst he;exact⟨_,rfl,_,_,_,[],_,[],hW',trodAll_mk1 (shut_bool Tryz.underlying4 _),(trodAll_cons_mk (Below.trod laidOut (by kernel_rfl) (of_decide_eq_true (by kernel_rfl)) k0 bel lt0) (trodAll_cons_mk (Below.trod laidOut (by kernel_rfl) (of_decide_eq_true (by kernel_rfl)) k1 bel lt1) (trodAll_cons_mk (Below.trod laidOut (by kernel_rfl) (of_decide_eq_true (by kernel_rfl)) k2 bel lt2) (trodAll_cons_mk (Below.trod laidOut (by kernel_rfl) (of_decide_eq_true (by kernel_rfl)) k3 bel lt3) (trodAll_cons_mk (Below.trod laidOut (by kernel_rfl) (of_decide_eq_true (by kernel_rfl)) k4 bel lt4) (trodAll_cons_mk (Below.trod laidOut (by kernel_rfl) (of_decide_eq_true (by kernel_rfl)) k5 bel lt5) trodAll_mk0)))))),rfl,bel.frame _,fun h=>by cases h⟩
theorem laid_fastvmAll (os:Os):laidMet Tryz.prog Rows.fastvmAllUptoRow.laid ((World.doorLaid Tryz.prog 19 os).forCall (fun _ _=>0) ⟨#[],#[.agg #[.slice none 0 0,.slice none 0 0,.string ⟨#[]⟩,.int .i64 0],.agg #[.slice none 0 0,.slice none 0 0,.string ⟨#[]⟩,.int .i64 0],.int .i64 0,.slice none 0 0,.slice none 0 0,.slice none 0 0],[]⟩).memory:=
 laidMet_of_run' 8 (by kernel_rfl) (by kernel_rfl)
theorem reads_fastvmAll (os:Os){H:Type}(enc:TypeId×Value→H):∃places,DataW.whole enc Tryz.prog ((World.doorLaid Tryz.prog 19 os).forCall (fun _ _=>0) ⟨#[],#[.agg #[.slice none 0 0,.slice none 0 0,.string ⟨#[]⟩,.int .i64 0],.agg #[.slice none 0 0,.slice none 0 0,.string ⟨#[]⟩,.int .i64 0],.int .i64 0,.slice none 0 0,.slice none 0 0,.slice none 0 0],[]⟩).memory Tryz.f3.params.toList Rows.fastvmAllSpec.vars false (#[.agg #[.slice none 0 0,.slice none 0 0,.string ⟨#[]⟩,.int .i64 0],.agg #[.slice none 0 0,.slice none 0 0,.string ⟨#[]⟩,.int .i64 0],.int .i64 0,.slice none 0 0,.slice none 0 0,.slice none 0 0]:Array Value).toList 8=some ([.agg [.nil,.nil,.lit (.string []),.lit (.int .i64 0)],.agg [.nil,.nil,.lit (.string []),.lit (.int .i64 0)],.lit (.int .i64 0),.nil,.nil,.nil],[],places):=
 ⟨[],by kernel_rfl⟩
theorem lifted_fastvmAll (os:Os)(started:os.Started)(H:Type)(enc:TypeId×Value→H)(F:Stop.Interp):
 ReturnsInHanded {} Tryz.checked os 3 .any ((Rows.OpenSpec.upto Rows.fastvmAllSpec).preRow enc Tryz.prog Tryz.f3 Rows.fastvmAllUptoRow.domain false Rows.fastvmAllUptoRow.laid) (((Rows.OpenSpec.upto Rows.fastvmAllSpec).at F).post enc Tryz.prog Tryz.f3 false true false false):=by
 obtain⟨places,hx⟩:=reads_fastvmAll os enc;refine returnsInHanded_of_row (C:=Tryz.checked) (s:=(Rows.OpenSpec.upto Rows.fastvmAllSpec)) own started (by kernel_rfl) Tryz.func3
  (witness_row_at (enc:=enc) (C:=Tryz.checked) false (World.doorLaid Tryz.prog 19 os) #[.agg #[.slice none 0 0,.slice none 0 0,.string ⟨#[]⟩,.int .i64 0],.agg #[.slice none 0 0,.slice none 0 0,.string ⟨#[]⟩,.int .i64 0],.int .i64 0,.slice none 0 0,.slice none 0 0,.slice none 0 0] rfl (by kernel_rfl) (by kernel_rfl) (by kernel_rfl)
   (OpenSpec.preRow_of_cond 8 hx (by kernel_rfl) (fun k hk=>by cases hk;kernel_rfl) (by kernel_rfl) (laid_fastvmAll os))) ?_
 intro W base args ds gs before hval hW _ hcond hz _ _ _;exact contract_fastvmAll H enc W base args ds gs before hval hW (hcond _ rfl) hz
theorem fastvmAll_holds:Rows.FastvmAllUptoSaid:=
 OpenClaim.holds_of_cond 3 Tryz.f3 rfl rfl rfl rfl rfl rfl rfl ⟨rfl,rfl,rfl,rfl,rfl⟩ rfl rfl rfl rfl rfl (by kernel_rfl) Tryz.func3 (by kernel_rfl)
  (of_decide_eq_true (by kernel_rfl)) (by unfold Func.isWrapper;first|(rw[if_pos (by decide+kernel)];kernel_rfl)|(rw[if_neg (by decide+kernel)];exact⟨rfl,rfl⟩))
  (fun os started H enc _ F=>by rw[OpenClaim.pre_eq_preRow];exact lifted_fastvmAll os started H enc F)
#print axioms fastvmAll_holds
end Go.Proofs.YtdidjhillmgccaaGreat
