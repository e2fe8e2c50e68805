import Derived.Test.YthlpjlnehonpdaaGreatDoorK35
import Derived.Test.YthlpjlnehonpdaaGreatDoorK37
import Derived.Lib.MinMax
namespace Go.Proofs.YthlpjlnehonpdaaGreatDoor
set_option maxRecDepth 100000
set_option maxHeartbeats 40000000
namespace Bd
open Go.RowKit
open T (Kp)
open F (thB nxtI folB IOwn)
def ovB (L:List Ins)(pc:Nat):Bool:=decide (pc+1=L.length)&&match L[pc]? with
 |none=>false
 |some k=>!(k.op==20 || k.op==26 || k.op==27 || k.op==28 || k.op==32)
def nxN (L:List Ins)(pc:Nat):List Nat:=((if thB L.length pc=true then(List.range L.length).filter (folB L pc)else [])++(if ovB L pc=true then [L.length]else []))
theorem nxN_int (L:List Ins)(pc:Nat):(nxN L pc).map (fun q:Nat=>(q:Int))=nxtI L pc++(if ovB L pc=true then [(L.length:Int)]else []):=by
 unfold nxN nxtI;rw[List.map_append]
 congr 1
 ·split<;>simp
 ·split<;>rfl
theorem nxN_in (L:List Ins)(pc:Nat):∀c∈nxN L pc,c∈List.range (L.length+1):=by
 intro c hc;unfold nxN at hc;rcases List.mem_append.1 hc with h|h
 ·split at h
  ·have:=(List.mem_filter.1 h).1;rw[List.mem_range]at this ⊢;omega
  ·cases h
 ·split at h
  ·rw[List.mem_singleton]at h;rw[List.mem_range];omega
  ·cases h
def CostIn (B:Nat)(w:World)(ka:Option Addr)(n:Nat)(sg ig:Nat→Int):Prop:=n=0∨∃b,ka=some ⟨b,0,none⟩∧b<B∧b<w.heap.size∧∀g,g<n→∃kn cc,w.cell? ⟨b,g*4,none⟩=some (.bool kn)∧w.cell? ⟨b,g*4+1,none⟩=some (.int .u64 (sg g))∧w.cell? ⟨b,g*4+2,none⟩=some (.int .u64 cc)∧w.cell? ⟨b,g*4+3,none⟩=some (.int .u64 (ig g))
theorem CostIn.below {B:Nat}{w w':World}{ka:Option Addr}{n:Nat}{sg ig:Nat→Int}(h:CostIn B w ka n sg ig)(hb:Below B w w'):CostIn B w' ka n sg ig:=by
 rcases h with h|⟨b,e,hB,hl,h⟩
 ·exact .inl h
 ·refine .inr ⟨b,e,hB,Nat.lt_of_lt_of_le hl hb.size,fun g hg=>?_⟩;obtain⟨kn,cc,h0,h1,h2,h3⟩:=h g hg;exact⟨kn,cc,(hb.cell (p:=⟨b,_,none⟩) hB).trans h0,(hb.cell (p:=⟨b,_,none⟩) hB).trans h1,(hb.cell (p:=⟨b,_,none⟩) hB).trans h2,(hb.cell (p:=⟨b,_,none⟩) hB).trans h3⟩
def caF (L:List Ins)(sg:Nat→Int)(pc:Nat):Int:=match L[pc]? with
 |none=>0
 |some k=>if k.op=31 then sg k.m.toNat else 0
def CallOk (L:List Ins)(n:Nat):Prop:=∀k∈L,k.op=31→0≤k.m∧k.m<n
def stF (L:List Ins)(sg:Nat→Int)(pc:Nat):Int:=IntKind.u64.wrap (1+caF L sg pc)
def inF (L:List Ins)(ig:Nat→Int)(pc:Nat):Int:=match L[pc]? with
 |none=>caF L ig pc
 |some k=>if k.op=29 then 1 else caF L ig pc
def tlA (ca:Option Addr)(L:List Ins)(cc:Nat)(ka:Option Addr)(n kc:Nat):Value:=.agg #[.slice ca L.length cc,.slice ka n kc]
theorem overruns_any (L:List Ins)(ca:Option Addr)(cc:Nat)(ka:Option Addr)(n kc:Nat)(pc:Nat)(w:World)(hL:LIn w.heap.size w ca L)(hp:pc<4611686018427387904)(hn:L.length<2000000):
 Calls Tryz.prog 91 #[tlA ca L cc ka n kc,.int .i64 pc] w fun e w'=>e=.returned (.bool (ovB L pc))∧Below w.heap.size w w':=by
 unfold tlA;by_cases hq:pc+1=L.length
 ·have hpl:pc<L.length:=by omega
  obtain⟨b,off,rfl,hb0,hb,five⟩:=hL pc hpl;have c0:=five.1;have eo:ovB L pc=!(L[pc].op==20 || L[pc].op==26 || L[pc].op==27 || L[pc].op==28 || L[pc].op==32):=by
   unfold ovB;rw[List.getElem?_eq_getElem hpl,decide_eq_true hq]
   rfl
  rw[eo];generalize L[pc].op=op at*;have q1:((pc:Int) != (L.length:Int) - 1)=false:=by rw[bne_eq_false_iff_eq];omega
  have q2:wrap64 ((L.length:Int) - 1)=(L.length:Int) - 1:=by unfold wrap64;omega
  have q3:IntKind.i64.wrap ((L.length:Int) - 1)=(L.length:Int) - 1:=by rw[IntKind.wrap_i64];omega
  have q4:(pc:Int)<(L.length:Int):=by omega
  replace hL:=ζ hL;clear five;clear eo hq hpl;by_cases h1:op=20
  ·subst h1;go_enter Tryz.func91,Tryz.ntmps91;go_wp2_with fail;go_ret;exact⟨rfl,(Below.refl _ _).alloc (Nat.le_refl _) _⟩
  by_cases h2:op=26
  ·subst h2;go_enter Tryz.func91,Tryz.ntmps91;go_wp2_with fail;go_ret;exact⟨rfl,(Below.refl _ _).alloc (Nat.le_refl _) _⟩
  by_cases h3:op=27
  ·subst h3;go_enter Tryz.func91,Tryz.ntmps91;go_wp2_with fail;go_ret;exact⟨rfl,(Below.refl _ _).alloc (Nat.le_refl _) _⟩
  by_cases h4:op=28
  ·subst h4;go_enter Tryz.func91,Tryz.ntmps91;go_wp2_with fail;go_ret;exact⟨rfl,(Below.refl _ _).alloc (Nat.le_refl _) _⟩
  by_cases h5:op=32
  ·subst h5;go_enter Tryz.func91,Tryz.ntmps91;go_wp2_with fail;go_ret;exact⟨rfl,(Below.refl _ _).alloc (Nat.le_refl _) _⟩
  have e1:(op==20)=false:=by simpa using h1
  have e2:(op==26)=false:=by simpa using h2
  have e3:(op==27)=false:=by simpa using h3
  have e4:(op==28)=false:=by simpa using h4
  have e5:(op==32)=false:=by simpa using h5
  rw[e1,e2,e3,e4,e5];clear h1 h2 h3 h4 h5;go_enter Tryz.func91,Tryz.ntmps91;go_wp2_with fail;go_ret;exact⟨rfl,(Below.refl _ _).alloc (Nat.le_refl _) _⟩
 ·have eo:ovB L pc=false:=by unfold ovB;rw[decide_eq_false hq];rfl
  rw[eo];have q1:((pc:Int) != (L.length:Int) - 1)=true:=by rw[bne_iff_ne];omega
  have q2:wrap64 ((L.length:Int) - 1)=(L.length:Int) - 1:=by unfold wrap64;omega
  have q3:IntKind.i64.wrap ((L.length:Int) - 1)=(L.length:Int) - 1:=by rw[IntKind.wrap_i64];omega
  replace hL:=ζ hL;clear eo hq;go_enter Tryz.func91,Tryz.ntmps91;go_wp2_with fail;go_ret;exact⟨rfl,(Below.refl _ _).alloc (Nat.le_refl _) _⟩
theorem next_any (L:List Ins)(ca:Option Addr)(cc:Nat)(ka:Option Addr)(n kc:Nat)(pc:Nat)(w:World)(hL:LIn w.heap.size w ca L)(hp:pc<4611686018427387904)(hn:L.length<2000000):
 Calls Tryz.prog 57 #[tlA ca L cc ka n kc,.int .i64 pc] w fun e w'=>∃v,e=.returned v∧IOwn w' w.heap.size v ((nxN L pc).map (fun q:Nat=>(q:Int)))∧Below w.heap.size w w':=by
 rw[nxN_int];have hO:=fun W (q:Below w.heap.size w W)=>overruns_any L ca cc ka n kc pc W ((hL.below q).mono q.size) hp hn
 have hN:=fun W (q:Below w.heap.size w W)=>F.Next_any L ca cc pc W ((hL.below q).mono q.size) hn
 have hlen:(nxtI L pc).length≤2000000:=by
  unfold nxtI
  split
  ·rw[List.length_map];have:=List.length_filter_le (folB L (pc:Int).toNat) (List.range L.length);rw[List.length_range]at this;omega
  ·simp
 unfold tlA at*;replace hL:=ζ hL;replace hN:=ζ hN
 cases ho:ovB L pc with
 |false=>
  rw[if_neg Bool.false_ne_true,List.append_nil];rw[ho]at hO;replace hO:=ζ hO;go_enter Tryz.func57,Tryz.ntmps57;go_upto_region 1 with fail
  refine wp_world (fun W=>At W w.heap.size #[.slice ca L.length cc,.slice ka n kc]∧Below w.heap.size w W) ⟨At.new w _ _,(Below.refl _ _).alloc (Nat.le_refl _) _⟩ ?_;rintro W ⟨A0,hB⟩;have⟨_,p0,_⟩:=A0;have c0:W.cell? ⟨w.heap.size,0,none⟩=some (.slice ca L.length cc):=p0 0;replace A0:=ζ A0;replace hB:=ζ hB;clear p0;go_upto_region 2 with(go_at_call 90;refine(hN.out _ hB.out).mono ?_;rintro r W1 ⟨v,rfl,k1,k2⟩;replace k1:=ζ k1;replace k2:=ζ k2)
  have A1:=at_keep A0.out (Kp.of_below (S:=fun _=>False) k2.out) id;have c1:W1.cell? ⟨w.heap.size,0,none⟩=some (.slice ca L.length cc):=A1.2.1 0;have c2:W1.cell? ⟨w.heap.size,1,none⟩=some (.slice ka n kc):=A1.2.1 1;have hB1:=ζ (hB.out.trans (k2.out.mono hB.out.size));clear c0;go_wp2_with(go_at_call 91;refine(hO.out _ hB1.out).mono ?_;rintro r W2 ⟨rfl,k3⟩;replace k3:=ζ k3);go_ret;exact⟨v,rfl,F.own_lower (own_below k1.out k3.out) hB.out.size,hB1.out.trans (k3.out.mono hB1.out.size)⟩
 |true=>
  rw[if_pos rfl];rw[ho]at hO;replace hO:=ζ hO;go_enter Tryz.func57,Tryz.ntmps57;go_upto_region 1 with fail
  refine wp_world (fun W=>At W w.heap.size #[.slice ca L.length cc,.slice ka n kc]∧Below w.heap.size w W) ⟨At.new w _ _,(Below.refl _ _).alloc (Nat.le_refl _) _⟩ ?_;rintro W ⟨A0,hB⟩;have⟨_,p0,_⟩:=A0;have c0:W.cell? ⟨w.heap.size,0,none⟩=some (.slice ca L.length cc):=p0 0;replace A0:=ζ A0;replace hB:=ζ hB;clear p0;go_upto_region 2 with(go_at_call 90;refine(hN.out _ hB.out).mono ?_;rintro r W1 ⟨v,rfl,k1,k2⟩;replace k1:=ζ k1;replace k2:=ζ k2)
  have A1:=at_keep A0.out (Kp.of_below (S:=fun _=>False) k2.out) id;have c1:W1.cell? ⟨w.heap.size,0,none⟩=some (.slice ca L.length cc):=A1.2.1 0;have c2:W1.cell? ⟨w.heap.size,1,none⟩=some (.slice ka n kc):=A1.2.1 1;have hB1:=ζ (hB.out.trans (k2.out.mono hB.out.size));clear c0;go_upto_region 3 with(go_at_call 91;refine(hO.out _ hB1.out).mono ?_;rintro r W2 ⟨rfl,k3⟩;replace k3:=ζ k3)
  have A2:=at_keep A1 (Kp.of_below (S:=fun _=>False) k3.out) id;have c3:W2.cell? ⟨w.heap.size,0,none⟩=some (.slice ca L.length cc):=A2.2.1 0;have hown:=ζ (F.own_lower (own_below k1.out k3.out) hB.out.size);have hB2:=ζ (hB1.out.trans (k3.out.mono hB1.out.size));clear c1 c2;have lt3:=A2.1;go_wp2_with(at_builtin;refine F.wpList_append_int rfl _ _ rfl w.heap.size v (nxtI L pc) (L.length:Int) rfl (own_below hown.out ((Below.refl _ _).alloc (Nat.le_refl _) _)) W2.heap.size rfl (At.new W2 _ _) (by omega) (by have:=hB2.out.size;simp;omega) ?_;intro g cap W3 a1 a2 a3 a4;replace a1:=ζ a1;replace a2:=ζ a2);go_ret;refine⟨_,rfl,?_,?_⟩
  ·exact a1.out
  ·have hW:=(Below.refl W2.heap.size W2).alloc (Nat.le_refl _) (.cells #[.int .i64 (L.length:Int)] 3);exact hB2.out.trans ((hW.mono hB2.out.size).trans (Below.of_grown a2.out (by have:=hB2.out.size;simp;omega) (fun g hg=>(hown.out.lt g hg).1)))
theorem called_no (L:List Ins)(ca:Option Addr)(cc:Nat)(ka:Option Addr)(n kc:Nat)(pc:Nat)(w:World)(hL:LIn w.heap.size w ca L)(hq:∀k,L[pc]?=some k→k.op≠31):
 Calls Tryz.prog 58 #[tlA ca L cc ka n kc,.int .i64 pc] w fun e w'=>e=.returned (.agg #[.bool false,.int .u64 0,.int .u64 0,.int .u64 0])∧Below w.heap.size w w':=by
 unfold tlA;by_cases hpl:pc<L.length
 ·obtain⟨b,off,rfl,hb0,hb,five⟩:=hL pc hpl;have c0:=five.1;have e1:(L[pc].op==31)=false:=by simpa using hq _ (List.getElem?_eq_getElem hpl)
  have q4:(pc:Int)<(L.length:Int):=by omega
  clear hq five;generalize L[pc].op=op at*;replace hL:=ζ hL;go_enter Tryz.func58,Tryz.ntmps58;go_wp2_with fail;refine bodyPost_ret (v:=.agg #[.bool false,.int .u64 0,.int .u64 0,.int .u64 0]) (by simp[results,Tryz.results58,go_sem]) rfl ⟨rfl,?_⟩
  repeat(first|exact Below.refl _ _|refine Below.alloc ?_ (by simp<;>omega) _|refine Below.setCell ?_ (by simp<;>omega) _)
 ·have q4:¬(pc:Int)<(L.length:Int):=by omega
  have q5:(L.length:Int)≤(pc:Int):=by omega
  clear hq;replace hL:=ζ hL;go_enter Tryz.func58,Tryz.ntmps58;go_wp2_with fail;refine bodyPost_ret (v:=.agg #[.bool false,.int .u64 0,.int .u64 0,.int .u64 0]) (by simp[results,Tryz.results58,go_sem]) rfl ⟨rfl,?_⟩
  repeat(first|exact Below.refl _ _|refine Below.alloc ?_ (by simp<;>omega) _|refine Below.setCell ?_ (by simp<;>omega) _)
theorem called_yes (L:List Ins)(ca:Option Addr)(cc:Nat)(kb:Nat)(n kc:Nat)(pc:Nat)(w:World)(hL:LIn w.heap.size w ca L)(hp:pc<L.length)(hop:L[pc].op=31)(g:Nat)(hm:L[pc].m=g)(hg:g<n)(hkb:kb<w.heap.size)(kn:Bool)(S C I:Int)
 (h0:w.cell? ⟨kb,g*4,none⟩=some (.bool kn))(h1:w.cell? ⟨kb,g*4+1,none⟩=some (.int .u64 S))(h2:w.cell? ⟨kb,g*4+2,none⟩=some (.int .u64 C))(h3:w.cell? ⟨kb,g*4+3,none⟩=some (.int .u64 I)):
 Calls Tryz.prog 58 #[tlA ca L cc (some ⟨kb,0,none⟩) n kc,.int .i64 pc] w fun e w'=>e=.returned (.agg #[.bool kn,.int .u64 S,.int .u64 C,.int .u64 I])∧Below w.heap.size w w':=by
 unfold tlA;obtain⟨b,off,rfl,hb0,hb,five⟩:=hL pc hp;have c0:=five.1;have c4:=five.2.2.2.2;rw[hop]at c0;rw[hm]at c4;have q4:(pc:Int)<(L.length:Int):=by omega
 have q6:(g:Int)<(n:Int):=by omega
 clear five;replace hL:=ζ hL;clear hop hm;go_enter Tryz.func58,Tryz.ntmps58;go_wp2_with fail;go_region
 all_goals
  go_wp2_with fail;refine bodyPost_ret (v:=.agg #[.bool kn,.int .u64 S,.int .u64 C,.int .u64 I]) (by simp[results,Tryz.results58,go_sem]) rfl ⟨rfl,?_⟩
  repeat(first|exact Below.refl _ _|refine Below.alloc ?_ (by simp<;>omega) _|refine Below.setCell ?_ (by simp<;>omega) _|refine Below.drew ?_)
def tupu:Option Int→Value
 |some v=>.tuple #[.int .u64 v,.bool true]
 |none=>.tuple #[.int .u64 0,.bool false]
def encu:Option Int→Value
 |some v=>.agg #[.int .u64 v,.bool true]
 |none=>.agg #[.int .u64 0,.bool false]
theorem hitu_some (p:Pl)(hp:p.qf=89)(n:Nat)(hn:n<4611686018427387904)(M:Nat→Option (Option Int))(nn:Nat)(v:Int)(hM:M n=some (some v))(w:World)(hR:Rem p encu w nn M)(Q:World→Prop)(hQ:∀w',Rem p encu w' nn M→Kp (fun k=>k=p.b) w w'→Q w'):
 Calls Tryz.prog p.qf #[.int .i64 n,pv p.kA,pv p.kF,pv p.kQ] w fun r w'=>r=.returned (tupu (some v))∧Q w':=by
 have hl0:(Instr.lookup 181 (.map (some p.b)) (.int .i64 n) true).run Tryz.prog w=.ok (.tuple #[.agg #[.int .u64 v,.bool true],.bool true]) w:=by
  have:=hR.m.look (t:=181) (e:=183) (by kernel_rfl) (z:=.agg #[.int .u64 0,.bool false]) (by kernel_rfl) n hn;rw[hM]at this;exact this
 have a0:w.cell? ⟨p.kA,0,none⟩=some (.map (some p.b)):=hR.a.2.1 0;have lta:=hR.a.1;replace hR:=ζ hR;clear hM hn;rw[hp];unfold pv tupu;go_enter Tryz.func89,Tryz.ntmps89;go_wp2_with fail;go_quiet (fail)
 all_goals
  go_wp2_with fail;refine bodyPost_ret (v:=.tuple #[.int .u64 v,.bool true]) (by simp[results,Tryz.results89,go_sem]) rfl ?_;refine⟨rfl,?_⟩;refine hQ _ (hR.out.below ?_) (Kp.of_below ?_)<;>exact Below.trans (Below.alloc (Below.refl _ _) (Nat.le_refl _) _) ((drewNb _ _).mono (by simp))
theorem hitu_none (p:Pl)(hp:p.qf=89)(n:Nat)(hn:n<4611686018427387904)(M:Nat→Option (Option Int))(nn:Nat)(hM:M n=some (none))(w:World)(hR:Rem p encu w nn M)(Q:World→Prop)(hQ:∀w',Rem p encu w' nn M→Kp (fun k=>k=p.b) w w'→Q w'):
 Calls Tryz.prog p.qf #[.int .i64 n,pv p.kA,pv p.kF,pv p.kQ] w fun r w'=>r=.returned (tupu (none))∧Q w':=by
 have hl0:(Instr.lookup 181 (.map (some p.b)) (.int .i64 n) true).run Tryz.prog w=.ok (.tuple #[.agg #[.int .u64 0,.bool false],.bool true]) w:=by
  have:=hR.m.look (t:=181) (e:=183) (by kernel_rfl) (z:=.agg #[.int .u64 0,.bool false]) (by kernel_rfl) n hn;rw[hM]at this;exact this
 have a0:w.cell? ⟨p.kA,0,none⟩=some (.map (some p.b)):=hR.a.2.1 0;have lta:=hR.a.1;replace hR:=ζ hR;clear hM hn;rw[hp];unfold pv tupu;go_enter Tryz.func89,Tryz.ntmps89;go_wp2_with fail;go_quiet (fail)
 all_goals
  go_wp2_with fail;refine bodyPost_ret (v:=.tuple #[.int .u64 0,.bool false]) (by simp[results,Tryz.results89,go_sem]) rfl ?_;refine⟨rfl,?_⟩;refine hQ _ (hR.out.below ?_) (Kp.of_below ?_)<;>exact Below.trans (Below.alloc (Below.refl _ _) (Nat.le_refl _) _) ((drewNb _ _).mono (by simp))
theorem missu_some (kt kc:Nat)(p:Pl)(hp:p.qf=89)(hf:p.fv=.func (.func 56) #[] #[pv kt,pv kc])(nx:Nat→List Nat)(f:Nat→List Int→Option Int)(U:List Nat)(S:Nat→Prop)(n:Nat)(hn:n<4611686018427387904)(M:Nat→Option (Option Int))(nn:Nat)(v:Int)(hM:M n=none)(w:World)(hR:Rem p encu w nn M)(hnn:nn+1+2*left U (setM M n none)≤1000000)
 (hfd:∀W,Rem p encu W (nn+1) (setM M n none)→Kp (fun k=>k=p.b) w W→Calls Tryz.prog 56 (#[.int .i64 n,p.qv]++#[pv kt,pv kc]) W fun r w'=>r=.returned (tupu (some v))∧Aft p encu nx f U S (setM M n none) (nn+1) W w'):
 Calls Tryz.prog p.qf #[.int .i64 n,pv p.kA,pv p.kF,pv p.kQ] w fun r w'=>r=.returned (tupu (some v))∧∃M' nn',Rem p encu w' (nn'+1) (setM M' n (some v))∧Memo nx f U S M'∧More (setM M n none) M'∧nn'+2*left U M'≤nn+1+2*left U (setM M n none)∧Kp (fun k=>k=p.b) w w':=by
 have hl0:(Instr.lookup 181 (.map (some p.b)) (.int .i64 n) true).run Tryz.prog w=.ok (.tuple #[.agg #[.int .u64 0,.bool false],.bool false]) w:=by
  have:=hR.m.look (t:=181) (e:=183) (by kernel_rfl) (z:=.agg #[.int .u64 0,.bool false]) (by kernel_rfl) n hn;rw[hM]at this;exact this
 have a0:w.cell? ⟨p.kA,0,none⟩=some (.map (some p.b)):=hR.a.2.1 0;have lta:=hR.a.1;replace hR:=ζ hR;replace hfd:=ζ hfd;replace hf:=ζ hf;replace hnn:=ζ hnn;clear hM;rw[hp];unfold pv tupu;go_enter Tryz.func89,Tryz.ntmps89;go_upto_region 4 with fail
 refine wp_world (fun W=>Below w.heap.size w W) (by repeat(first|exact Below.refl _ _|refine Below.alloc ?_ (by simp<;>omega) _|refine Below.setCell ?_ (by simp<;>omega) _)) ?_;intro W hB;clear hl0 a0;have hR1:=hR.out.below hB;have a0:W.cell? ⟨p.kA,0,none⟩=some (.map (some p.b)):=hR1.a.2.1 0;have hm1:=ζ hR1.m;replace hR1:=ζ hR1;replace hB:=ζ hB;go_upto_region 5 with(at_mapUpdate;refine wpList_put rfl _ _ _ _ 183 rfl (by kernel_rfl) p.b nn encu M rfl hm1.out (by have:=hnn.out;unfold maxLen;omega) n hn none rfl rfl ?_;intro W2 hm2 hk2)
 clear a0;have hR2:=hR1.out.turn hk2 hm2;have a0:W2.cell? ⟨p.kA,0,none⟩=some (.map (some p.b)):=hR2.a.2.1 0;have f0:W2.cell? ⟨p.kF,0,none⟩=some p.fv:=hR2.f.2.1 0;have q0:W2.cell? ⟨p.kQ,0,none⟩=some p.qv:=hR2.q.2.1 0;rw[hf.out]at f0;have hkw:Kp (fun k=>k=p.b) w W2:=(Kp.of_below hB.out).trans hk2 (fun k q=>.inl q);have hc:=hfd.out W2 hR2 hkw;replace hc:Calls Tryz.prog 56 #[.int .i64 n,p.qv,.pointer (some ⟨kt,0,none⟩),.pointer (some ⟨kc,0,none⟩)] W2 _:=hc;unfold tupu at hc;replace hkw:=ζ hkw;replace hR2:=ζ hR2;replace hc:=ζ hc;clear hm1 hm2 hk2 hR1;unfold pv at f0;go_upto_region 6 with(go_at_call 56;refine hc.out.mono ?_;rintro r W3 ⟨rfl,M',nn',hR3,hS3,hmo,hle,hk3⟩)
 clear a0 f0 q0;have a0:W3.cell? ⟨p.kA,0,none⟩=some (.map (some p.b)):=hR3.a.2.1 0;have hm3:=ζ hR3.m;replace hR3:=ζ hR3;replace hle:=ζ hle;replace hS3:=ζ hS3;replace hmo:=ζ hmo;replace hk3:=ζ (hkw.out.trans hk3 (fun k q=>.inl q));go_wp2_with(at_mapUpdate;refine wpList_put rfl _ _ _ _ 183 rfl (by kernel_rfl) p.b nn' encu M' rfl hm3.out (by have:=hnn.out;have:=hle.out;unfold maxLen;omega) n hn (some v) rfl rfl ?_;intro W4 hm4 hk4);refine bodyPost_ret (v:=.tuple #[.int .u64 v,.bool true]) (by simp[results,Tryz.results89,go_sem]) rfl ?_;exact⟨rfl,M',nn',hR3.out.turn hk4 hm4,hS3.out,hmo.out,hle.out,hk3.out.trans hk4 (fun k q=>.inl q)⟩
theorem missu_none (kt kc:Nat)(p:Pl)(hp:p.qf=89)(hf:p.fv=.func (.func 56) #[] #[pv kt,pv kc])(nx:Nat→List Nat)(f:Nat→List Int→Option Int)(U:List Nat)(S:Nat→Prop)(n:Nat)(hn:n<4611686018427387904)(M:Nat→Option (Option Int))(nn:Nat)(hM:M n=none)(w:World)(hR:Rem p encu w nn M)(hnn:nn+1+2*left U (setM M n none)≤1000000)
 (hfd:∀W,Rem p encu W (nn+1) (setM M n none)→Kp (fun k=>k=p.b) w W→Calls Tryz.prog 56 (#[.int .i64 n,p.qv]++#[pv kt,pv kc]) W fun r w'=>r=.returned (tupu (none))∧Aft p encu nx f U S (setM M n none) (nn+1) W w'):
 Calls Tryz.prog p.qf #[.int .i64 n,pv p.kA,pv p.kF,pv p.kQ] w fun r w'=>r=.returned (tupu (none))∧∃M' nn',Rem p encu w' (nn'+1) (setM M' n (none))∧Memo nx f U S M'∧More (setM M n none) M'∧nn'+2*left U M'≤nn+1+2*left U (setM M n none)∧Kp (fun k=>k=p.b) w w':=by
 have hl0:(Instr.lookup 181 (.map (some p.b)) (.int .i64 n) true).run Tryz.prog w=.ok (.tuple #[.agg #[.int .u64 0,.bool false],.bool false]) w:=by
  have:=hR.m.look (t:=181) (e:=183) (by kernel_rfl) (z:=.agg #[.int .u64 0,.bool false]) (by kernel_rfl) n hn;rw[hM]at this;exact this
 have a0:w.cell? ⟨p.kA,0,none⟩=some (.map (some p.b)):=hR.a.2.1 0;have lta:=hR.a.1;replace hR:=ζ hR;replace hfd:=ζ hfd;replace hf:=ζ hf;replace hnn:=ζ hnn;clear hM;rw[hp];unfold pv tupu;go_enter Tryz.func89,Tryz.ntmps89;go_upto_region 4 with fail
 refine wp_world (fun W=>Below w.heap.size w W) (by repeat(first|exact Below.refl _ _|refine Below.alloc ?_ (by simp<;>omega) _|refine Below.setCell ?_ (by simp<;>omega) _)) ?_;intro W hB;clear hl0 a0;have hR1:=hR.out.below hB;have a0:W.cell? ⟨p.kA,0,none⟩=some (.map (some p.b)):=hR1.a.2.1 0;have hm1:=ζ hR1.m;replace hR1:=ζ hR1;replace hB:=ζ hB;go_upto_region 5 with(at_mapUpdate;refine wpList_put rfl _ _ _ _ 183 rfl (by kernel_rfl) p.b nn encu M rfl hm1.out (by have:=hnn.out;unfold maxLen;omega) n hn none rfl rfl ?_;intro W2 hm2 hk2)
 clear a0;have hR2:=hR1.out.turn hk2 hm2;have a0:W2.cell? ⟨p.kA,0,none⟩=some (.map (some p.b)):=hR2.a.2.1 0;have f0:W2.cell? ⟨p.kF,0,none⟩=some p.fv:=hR2.f.2.1 0;have q0:W2.cell? ⟨p.kQ,0,none⟩=some p.qv:=hR2.q.2.1 0;rw[hf.out]at f0;have hkw:Kp (fun k=>k=p.b) w W2:=(Kp.of_below hB.out).trans hk2 (fun k q=>.inl q);have hc:=hfd.out W2 hR2 hkw;replace hc:Calls Tryz.prog 56 #[.int .i64 n,p.qv,.pointer (some ⟨kt,0,none⟩),.pointer (some ⟨kc,0,none⟩)] W2 _:=hc;unfold tupu at hc;replace hkw:=ζ hkw;replace hR2:=ζ hR2;replace hc:=ζ hc;clear hm1 hm2 hk2 hR1;unfold pv at f0;go_upto_region 6 with(go_at_call 56;refine hc.out.mono ?_;rintro r W3 ⟨rfl,M',nn',hR3,hS3,hmo,hle,hk3⟩)
 clear a0 f0 q0;have a0:W3.cell? ⟨p.kA,0,none⟩=some (.map (some p.b)):=hR3.a.2.1 0;have hm3:=ζ hR3.m;replace hR3:=ζ hR3;replace hle:=ζ hle;replace hS3:=ζ hS3;replace hmo:=ζ hmo;replace hk3:=ζ (hkw.out.trans hk3 (fun k q=>.inl q));go_wp2_with(at_mapUpdate;refine wpList_put rfl _ _ _ _ 183 rfl (by kernel_rfl) p.b nn' encu M' rfl hm3.out (by have:=hnn.out;have:=hle.out;unfold maxLen;omega) n hn (none) rfl rfl ?_;intro W4 hm4 hk4);refine bodyPost_ret (v:=.tuple #[.int .u64 0,.bool false]) (by simp[results,Tryz.results89,go_sem]) rfl ?_;exact⟨rfl,M',nn',hR3.out.turn hk4 hm4,hS3.out,hmo.out,hle.out,hk3.out.trans hk4 (fun k q=>.inl q)⟩
theorem hitu_any (p:Pl)(hp:p.qf=89)(n:Nat)(hn:n<4611686018427387904)(M:Nat→Option (Option Int))(nn:Nat)(e:Option Int)(hM:M n=some e)(w:World)(hR:Rem p encu w nn M)(Q:World→Prop)(hQ:∀w',Rem p encu w' nn M→Kp (fun k=>k=p.b) w w'→Q w'):
 Calls Tryz.prog p.qf #[.int .i64 n,pv p.kA,pv p.kF,pv p.kQ] w fun r w'=>r=.returned (tupu e)∧Q w':=by
 cases e with
 |some v=>exact hitu_some p hp n hn M nn v hM w hR Q hQ
 |none=>exact hitu_none p hp n hn M nn hM w hR Q hQ
theorem asku_any (kt kc:Nat)(E:World→Prop)(p:Pl)(hp:p.qf=89)(hf:p.fv=.func (.func 56) #[] #[pv kt,pv kc])(hE:∀w w',E w→Kp (fun k=>k=p.b) w w'→E w')(nx:Nat→List Nat)(f:Nat→List Int→Option Int)(U:List Nat)(hU:∀n∈U,n<4611686018427387904)
 (hfind:∀d,AskC E p encu tupu nx f U d→FindC 56 #[pv kt,pv kc] E p encu tupu nx f U d):∀d,AskC E p encu tupu nx f U d:=by
 have hhit:∀(w:World) (n:Nat) (S:Nat→Prop) (M:Nat→Option (Option Int)) (nn:Nat) (e:Option Int),M n=some e→Rem p encu w nn M→Memo nx f U S M→(∀q,S q→Anc nx f q n)→n∈U→
  Calls Tryz.prog p.qf #[.int .i64 n,pv p.kA,pv p.kF,pv p.kQ] w fun r w'=>r=.returned (tupu (ev nx f U n))∧Aft p encu nx f U S M nn w w':=by
  intro w n S M nn e hM hR hS hA hn;rw[←hS.at_ hA hM];exact hitu_any p hp n (hU n hn) M nn e hM w hR _ (fun w' hR' hk=>⟨M,nn,hR',hS,More.refl M,Nat.le_refl _,hk⟩)
 intro d
 induction d with
 |zero=>
  intro w n S M nn hEw hR hS hA hn hl hb
  cases hM:M n with
  |some e=>exact hhit w n S M nn e hM hR hS hA hn
  |none=>exact absurd (left_set hn hM none) (by omega)
 |succ d ih=>
  intro w n S M nn hEw hR hS hA hn hl hb
  cases hM:M n with
  |some e=>exact hhit w n S M nn e hM hR hS hA hn
  |none=>
   have hlt:=left_set hn hM none;have hfd:=fun W (h2:Rem p encu W (nn+1) (setM M n none)) (h1:Kp (fun k=>k=p.b) w W)=>hfind d ih W n S (setM M n none) (nn+1) (hE w W hEw h1) h2 (hS.begin n) hA hn (by omega) (by omega)
   have hh:Calls Tryz.prog p.qf #[.int .i64 n,pv p.kA,pv p.kF,pv p.kQ] w fun r w'=>r=.returned (tupu (ev nx f U n))∧∃M' nn',Rem p encu w' (nn'+1) (setM M' n (ev nx f U n))∧Memo nx f U (fun x=>S x∨x=n) M'∧More (setM M n none) M'∧nn'+2*left U M'≤nn+1+2*left U (setM M n none)∧Kp (fun k=>k=p.b) w w':=by
    revert hfd
    cases ev nx f U n with
    |some v=>exact fun hfd=>missu_some kt kc p hp hf nx f U _ n (hU n hn) M nn v hM w hR (by omega) hfd
    |none=>exact fun hfd=>missu_none kt kc p hp hf nx f U _ n (hU n hn) M nn hM w hR (by omega) hfd
   refine hh.mono ?_;rintro r w' ⟨e1,M',nn',h1,h2,h3,h4,h5⟩;refine⟨e1,setM M' n (ev nx f U n),nn'+1,h1,h2.done _ rfl,((More.set M n none).trans h3).trans (More.set _ _ _),?_,h5⟩;have:=left_more (U:=U) (More.set M' n (ev nx f U n));omega
theorem remu_any (kt kc:Nat)(w:World):
 Calls Tryz.prog 55 #[.func (.func 56) #[] #[.pointer (some ⟨kt,0,none⟩),.pointer (some ⟨kc,0,none⟩)]] w fun e w'=>∃p:Pl,e=.returned p.qv∧p.qf=89∧p.fv=.func (.func 56) #[] #[pv kt,pv kc]∧Rem p encu w' 0 (fun _=>none)∧Below w.heap.size w w'∧w.heap.size≤p.b:=by
 have hmm:= @run_makeMap Tryz.prog;have b1:Below w.heap.size w (w.alloc (.cells #[.func (.func 56) #[] #[.pointer (some ⟨kt,0,none⟩),.pointer (some ⟨kc,0,none⟩)]] 142)):=(Below.refl _ w).alloc (Nat.le_refl _) _;have b2:=b1.alloc b1.size (.map #[] 0);have b3:=b2.alloc b2.size (.cells #[.map (some (w.heap.size+1))] 181);have b4:=b3.alloc b3.size (.cells #[.nilFunc] 139);have aF:=(((At.new w #[.func (.func 56) #[] #[.pointer (some ⟨kt,0,none⟩),.pointer (some ⟨kc,0,none⟩)]] 142).alloc (.map #[] 0)).alloc (.cells #[.map (some (w.heap.size+1))] 181)).alloc (.cells #[.nilFunc] 139);have aA:=(At.new ((w.alloc (.cells #[.func (.func 56) #[] #[.pointer (some ⟨kt,0,none⟩),.pointer (some ⟨kc,0,none⟩)]] 142)).alloc (.map #[] 0)) #[.map (some (w.heap.size+1))] 181).alloc (.cells #[.nilFunc] 139);have aQ:=At.new (((w.alloc (.cells #[.func (.func 56) #[] #[.pointer (some ⟨kt,0,none⟩),.pointer (some ⟨kc,0,none⟩)]] 142)).alloc (.map #[] 0)).alloc (.cells #[.map (some (w.heap.size+1))] 181)) #[.nilFunc] 139
 have aM:MpIn ((((w.alloc (.cells #[.func (.func 56) #[] #[.pointer (some ⟨kt,0,none⟩),.pointer (some ⟨kc,0,none⟩)]] 142)).alloc (.map #[] 0)).alloc (.cells #[.map (some (w.heap.size+1))] 181)).alloc (.cells #[.nilFunc] 139)) (w.heap.size+1) 0 encu (fun _=>none):=by
  have m0:=mp_made (w.alloc (.cells #[.func (.func 56) #[] #[.pointer (some ⟨kt,0,none⟩),.pointer (some ⟨kc,0,none⟩)]] 142)) encu;have e:(w.alloc (.cells #[.func (.func 56) #[] #[.pointer (some ⟨kt,0,none⟩),.pointer (some ⟨kc,0,none⟩)]] 142)).heap.size=w.heap.size+1:=by simp
  rw[e]at m0;exact(m0.below ((Below.refl _ _).alloc (Nat.le_refl _) _)).below ((Below.refl _ _).alloc (Nat.le_refl _) _)
 have e2:((w.alloc (.cells #[.func (.func 56) #[] #[.pointer (some ⟨kt,0,none⟩),.pointer (some ⟨kc,0,none⟩)]] 142)).alloc (.map #[] 0)).heap.size=w.heap.size+1+1:=by simp
 have e3:(((w.alloc (.cells #[.func (.func 56) #[] #[.pointer (some ⟨kt,0,none⟩),.pointer (some ⟨kc,0,none⟩)]] 142)).alloc (.map #[] 0)).alloc (.cells #[.map (some (w.heap.size+1))] 181)).heap.size=w.heap.size+1+1+1:=by simp
 rw[e2]at aA;rw[e3]at aQ;replace aM:=ζ aM;replace aA:=ζ aA;replace aQ:=ζ aQ;replace aF:=ζ aF;replace b4:=ζ b4;clear b1 b2 b3 e2 e3;go_enter Tryz.func55,Tryz.ntmps55;go_upto_region 3 with fail
 refine wp_world (fun W=>At W w.heap.size #[.func (.func 56) #[] #[.pointer (some ⟨kt,0,none⟩),.pointer (some ⟨kc,0,none⟩)]]∧At W (w.heap.size+1+1) #[.map (some (w.heap.size+1))]∧At W (w.heap.size+1+1+1) #[.nilFunc]∧MpIn W (w.heap.size+1) 0 encu (fun _=>none)∧Below w.heap.size w W) ⟨aF.out,aA.out,aQ.out,aM.out,b4.out⟩ ?_;clear aF aA aQ aM b4 hmm;rintro W ⟨aF,aA,aQ,aM,hB⟩;have⟨l3,p3,f3⟩:=aQ;have hk:=kp_sets W (w.heap.size+1+1+1) [.func (.func 89) #[] #[.pointer (some ⟨w.heap.size+1+1,0,none⟩),.pointer (some ⟨w.heap.size,0,none⟩),.pointer (some ⟨w.heap.size+1+1+1,0,none⟩)]] 0;have hfin:=ζ (At.setAll (cs:=[.nilFunc]) aQ [.func (.func 89) #[] #[.pointer (some ⟨w.heap.size+1+1,0,none⟩),.pointer (some ⟨w.heap.size,0,none⟩),.pointer (some ⟨w.heap.size+1+1+1,0,none⟩)]] rfl);have gF:=ζ (at_keep aF hk (by omega));have gA:=ζ (at_keep aA hk (by omega));have gM:=ζ (aM.keep hk (by omega));have gB:=ζ (hB.trans (hk.below hB.size (fun k q=>by omega)))
 clear hk aF aA aM;replace hB:=ζ hB;have hmf:∀(fn:Fn) (first cap:Array Value) (w:World),(Instr.makeFunc fn first cap).run Tryz.prog w=.ok (.func fn first cap) w:=fun _ _ _ _=>rfl
 go_wp2_with fail;have⟨_,q3,_⟩:=hfin.out;go_ret;exact⟨⟨w.heap.size+1+1,w.heap.size,w.heap.size+1+1+1,w.heap.size+1,.func (.func 56) #[] #[.pointer (some ⟨kt,0,none⟩),.pointer (some ⟨kc,0,none⟩)],89⟩,rfl,rfl,rfl,⟨gA.out,gF.out,hfin.out,gM.out⟩,gB.out,by show w.heap.size≤w.heap.size+1;omega⟩
open F (thB nxtI folB IOwn own_slice)
theorem cost_f1 (kn:Bool)(s C i:Int)(w:World):(Instr.field 42 (.agg #[.bool kn,.int .u64 s,.int .u64 C,.int .u64 i]) 1).run Tryz.prog w=.ok (.int .u64 s) w:=by kernel_rfl
theorem cost_f3 (kn:Bool)(s C i:Int)(w:World):(Instr.field 42 (.agg #[.bool kn,.int .u64 s,.int .u64 C,.int .u64 i]) 3).run Tryz.prog w=.ok (.int .u64 i) w:=by kernel_rfl
theorem ca_any (L:List Ins)(ca:Option Addr)(cc:Nat)(ka:Option Addr)(n kc:Nat)(sg ig:Nat→Int)(pc:Nat)(w:World)(hL:LIn w.heap.size w ca L)(hc:CostIn w.heap.size w ka n sg ig)(hk:CallOk L n):
 Calls Tryz.prog 58 #[tlA ca L cc ka n kc,.int .i64 pc] w fun e w'=>(∃kn C,e=.returned (.agg #[.bool kn,.int .u64 (caF L sg pc),.int .u64 C,.int .u64 (caF L ig pc)]))∧Below w.heap.size w w':=by
 by_cases hp:pc<L.length
 ·have eg:=List.getElem?_eq_getElem hp;by_cases ho:L[pc].op=31
  ·obtain⟨m0,m1⟩:=hk L[pc] (List.getElem_mem hp) ho;rcases hc with hc|⟨b,rfl,_,hb,hc⟩
   ·omega
   ·obtain⟨kn,C,h0,h1,h2,h3⟩:=hc L[pc].m.toNat (by omega);have e1:∀s:Nat→Int,caF L s pc=s L[pc].m.toNat:=fun s=>by unfold caF;rw[eg];show(if L[pc].op=31 then _ else _)=_;rw[if_pos ho]
    rw[e1 sg,e1 ig];exact(called_yes L ca cc b n kc pc w hL hp ho L[pc].m.toNat (by omega) (by omega) hb kn _ C _ h0 h1 h2 h3).mono (by rintro x w' ⟨rfl,q⟩;exact⟨⟨kn,C,rfl⟩,q⟩)
  ·have e1:∀s:Nat→Int,caF L s pc=0:=fun s=>by unfold caF;rw[eg];show(if L[pc].op=31 then _ else _)=_;rw[if_neg ho]
   rw[e1 sg,e1 ig];exact(called_no L ca cc ka n kc pc w hL (fun k q=>by rw[eg]at q;injection q with q;rw[←q];exact ho)).mono (by rintro x w' ⟨rfl,q⟩;exact⟨⟨false,0,rfl⟩,q⟩)
 ·have eg:L[pc]?=none:=List.getElem?_eq_none (by omega);have e1:∀s:Nat→Int,caF L s pc=0:=fun s=>by unfold caF;rw[eg]
  rw[e1 sg,e1 ig];exact(called_no L ca cc ka n kc pc w hL (fun k q=>by rw[eg]at q;cases q)).mono (by rintro x w' ⟨rfl,q⟩;exact⟨⟨false,0,rfl⟩,q⟩)
theorem steps_any (L:List Ins)(ca:Option Addr)(cc:Nat)(ka:Option Addr)(n kc:Nat)(sg ig:Nat→Int)(pc:Nat)(w:World)(hL:LIn w.heap.size w ca L)(hc:CostIn w.heap.size w ka n sg ig)(hk:CallOk L n):
 Calls Tryz.prog 36 #[tlA ca L cc ka n kc,.int .i64 pc] w fun e w'=>e=.returned (.int .u64 (stF L sg pc))∧Below w.heap.size w w':=by
 have hC:=ζ (fun W (q:Below w.heap.size w W)=>ca_any L ca cc ka n kc sg ig pc W ((hL.below q).mono q.size) (by
  rcases hc with h|⟨b,e,hB,hl,h⟩
  ·exact .inl h
  ·rcases CostIn.below (.inr ⟨b,e,hB,hl,h⟩) q with h|⟨b,e,hB,hl,h⟩
   ·exact .inl h
   ·exact .inr ⟨b,e,Nat.lt_of_lt_of_le hB q.size,hl,h⟩) hk)
 unfold stF;generalize caF L sg pc=s at*;generalize caF L ig pc=i at*;unfold tlA at*;replace hL:=ζ hL;replace hc:=ζ hc;replace hk:=ζ hk;go_enter Tryz.func36,Tryz.ntmps36;go_wp2_with(go_at_call 58;refine(hC.out _ ((Below.refl _ _).alloc (Nat.le_refl _) _)).mono ?_;rintro r W1 ⟨⟨kn,C,rfl⟩,q1⟩;replace q1:=ζ q1;have hf1:=cost_f1 kn s C i W1;have hf3:=cost_f3 kn s C i W1);go_ret;exact⟨rfl,((Below.refl _ _).alloc (Nat.le_refl _) _).trans (q1.out.mono (by simp))⟩
theorem inputs_any (L:List Ins)(ca:Option Addr)(cc:Nat)(ka:Option Addr)(n kc:Nat)(sg ig:Nat→Int)(pc:Nat)(w:World)(hL:LIn w.heap.size w ca L)(hc:CostIn w.heap.size w ka n sg ig)(hk:CallOk L n):
 Calls Tryz.prog 37 #[tlA ca L cc ka n kc,.int .i64 pc] w fun e w'=>e=.returned (.int .u64 (inF L ig pc))∧Below w.heap.size w w':=by
 have hC:=ζ (fun W (q:Below w.heap.size w W)=>ca_any L ca cc ka n kc sg ig pc W ((hL.below q).mono q.size) (by
  rcases hc with h|⟨b,e,hB,hl,h⟩
  ·exact .inl h
  ·rcases CostIn.below (.inr ⟨b,e,hB,hl,h⟩) q with h|⟨b,e,hB,hl,h⟩
   ·exact .inl h
   ·exact .inr ⟨b,e,Nat.lt_of_lt_of_le hB q.size,hl,h⟩) hk)
 by_cases hp:pc<L.length
 ·have eg:=List.getElem?_eq_getElem hp;obtain⟨b,off,rfl,hb0,hb,five⟩:=hL pc hp;have c0:=five.1;have q4:(pc:Int)<(L.length:Int):=by omega
  by_cases ho:L[pc].op=29
  ·have e1:inF L ig pc=1:=by unfold inF;rw[eg];show(if L[pc].op=29 then _ else _)=_;rw[if_pos ho]
   rw[e1];rw[ho]at c0;unfold tlA at*;clear five hC;replace hL:=ζ hL;replace hc:=ζ hc;replace hk:=ζ hk;clear e1 ho eg;go_enter Tryz.func37,Tryz.ntmps37;go_wp2_with fail;go_ret;exact⟨rfl,(Below.refl _ _).alloc (Nat.le_refl _) _⟩
  ·have e1:inF L ig pc=caF L ig pc:=by unfold inF;rw[eg];show(if L[pc].op=29 then _ else _)=_;rw[if_neg ho]
   rw[e1];have e2:(L[pc].op==29)=false:=by simpa using ho
   clear five e1 ho eg;generalize L[pc].op=op at*;generalize caF L sg pc=s at*;generalize caF L ig pc=i at*;unfold tlA at*;replace hL:=ζ hL;replace hc:=ζ hc;replace hk:=ζ hk;go_enter Tryz.func37,Tryz.ntmps37;go_wp2_with(go_at_call 58;refine(hC.out _ ((Below.refl _ _).alloc (Nat.le_refl _) _)).mono ?_;rintro r W1 ⟨⟨kn,C,rfl⟩,q1⟩;replace q1:=ζ q1;have hf1:=cost_f1 kn s C i W1;have hf3:=cost_f3 kn s C i W1);go_ret;exact⟨rfl,((Below.refl _ _).alloc (Nat.le_refl _) _).trans (q1.out.mono (by simp))⟩
 ·have eg:L[pc]?=none:=List.getElem?_eq_none (by omega);have e1:inF L ig pc=caF L ig pc:=by unfold inF;rw[eg]
  rw[e1];have q4:¬(pc:Int)<(L.length:Int):=by omega
  have q5:(L.length:Int)≤(pc:Int):=by omega
  clear e1 eg;generalize caF L sg pc=s at*;generalize caF L ig pc=i at*;unfold tlA at*;replace hL:=ζ hL;replace hc:=ζ hc;replace hk:=ζ hk;go_enter Tryz.func37,Tryz.ntmps37;go_wp2_with(go_at_call 58;refine(hC.out _ ((Below.refl _ _).alloc (Nat.le_refl _) _)).mono ?_;rintro r W1 ⟨⟨kn,C,rfl⟩,q1⟩;replace q1:=ζ q1;have hf1:=cost_f1 kn s C i W1;have hf3:=cost_f3 kn s C i W1);go_ret;exact⟨rfl,((Below.refl _ _).alloc (Nat.le_refl _) _).trans (q1.out.mono (by simp))⟩
open F (thB nxtI folB IOwn own_slice own_nin)
def mxL (l:List Int):Int:=l.foldl max 0
theorem mxL_snoc (l:List Int)(x:Int):mxL (l++[x])=max (mxL l) x:=by unfold mxL;rw[List.foldl_append];rfl
def wyS (cF:Nat→Int)(pc:Nat)(vs:List Int):Option Int:=some (IntKind.u64.wrap (cF pc+mxL vs))
structure TEnv (B kt kc:Nat)(ca:Option Addr)(cc:Nat)(ka:Option Addr)(n kcc:Nat)(L:List Ins)(sg ig:Nat→Int)(cv:Value)(w:World):Prop where
 t:At w kt #[.slice ca L.length cc,.slice ka n kcc]
 c:At w kc #[cv]
 l:LIn B w ca L
 k:CostIn B w ka n sg ig
 le:B≤w.heap.size
theorem costIn_mono {B B':Nat}{w:World}{ka:Option Addr}{n:Nat}{sg ig:Nat→Int}(h:CostIn B w ka n sg ig)(hb:B≤B'):CostIn B' w ka n sg ig:=by
 rcases h with h|⟨b,e,hB,hl,h⟩
 ·exact .inl h
 ·exact .inr ⟨b,e,Nat.lt_of_lt_of_le hB hb,hl,h⟩
theorem TEnv.keep {B kt kc:Nat}{ca:Option Addr}{cc:Nat}{ka:Option Addr}{n kcc:Nat}{L:List Ins}{sg ig:Nat→Int}{cv:Value}{w w':World}{b:Nat}(h:TEnv B kt kc ca cc ka n kcc L sg ig cv w)(hk:Kp (fun k=>k=b) w w')(hb:B≤b)(h1:kt≠b)(h2:kc≠b):TEnv B kt kc ca cc ka n kcc L sg ig cv w':=by
 have hB:Below B w w':=hk.below h.le (fun k q=>by omega);exact⟨at_keep h.t hk h1,at_keep h.c hk h2,h.l.below hB,h.k.below hB,Nat.le_trans h.le hB.size⟩
theorem own_kp' {S:Nat→Prop}{w w1:World}{base:Nat}{v:Value}{xs:List Int}(h:IOwn w base v xs)(hb:Kp S w w1)(hk:∀g,v.ownBlock=some g→¬S g):IOwn w1 base v xs:=by
 refine⟨h.1,?_⟩;rcases h.2 with h2|⟨g,cap,cur,hv,hbg,hg,rest⟩
 ·exact .inl h2
 ·have hlt:g<w.heap.size:=(Array.getElem?_eq_some_iff.1 hg).1;exact .inr ⟨g,cap,cur,hv,hbg,(hb.block g hlt (hk g (by rw[hv];rfl))).trans hg,rest⟩
structure Asked {α:Type}(p:Pl)(enc:Option α→Value)(nx:Nat→List Nat)(f:Nat→List α→Option α)(U:List Nat)(S:Nat→Prop)(M:Nat→Option (Option α))(nn:Nat)(N:List Nat)(lo:Nat)(v:Value)(w:World)(j:Nat)(vs:List α)(wr:World):Prop where
 a:Aft p enc nx f U S M nn w wr
 e:(N.take j).map (ev nx f U)=vs.map some
 v:IOwn wr lo v (N.map (fun q:Nat=>(q:Int)))
section
variable {α:Type} {p:Pl} {enc:Option α→Value} {nx:Nat→List Nat} {f:Nat→List α→Option α} {U:List Nat} {S:Nat→Prop} {M:Nat→Option (Option α)} {nn:Nat} {N:List Nat} {lo:Nat} {v:Value} {w wr w2:World} {j:Nat} {vs:List α}
theorem aft_below (h:Aft p enc nx f U S M nn w wr)(hb:Below wr.heap.size wr w2):Aft p enc nx f U S M nn w w2:=by
 obtain⟨M',nn',h1,h2,h3,h4,h5⟩:=h;exact⟨M',nn',h1.below hb,h2,h3,h4,h5.trans (Kp.of_below hb) (fun k q=>.inl q)⟩
theorem Asked.kp (h:Asked p enc nx f U S M nn N lo v w j vs wr):Kp (fun k=>k=p.b) w wr:=by
 obtain⟨M',nn',h1,h2,h3,h4,h5⟩:=h.a;exact h5
theorem Asked.next (h:Asked p enc nx f U S M nn N lo v w j vs wr)(hj:j<N.length)(x:α)(hx:ev nx f U N[j]=some x)(hlo:p.b<lo){M':Nat→Option (Option α)}{nn':Nat}(h3:More M M')(h4:nn'+2*left U M'≤nn+2*left U M)(h5:Kp (fun k=>k=p.b) w wr)
 (g:Aft p enc nx f U S M' nn' wr w2):Asked p enc nx f U S M nn N lo v w (j+1) (vs++[x]) w2:=by
 obtain⟨M2,n2,g1,g2,g3,g4,g5⟩:=g;refine⟨⟨M2,n2,g1,g2,h3.trans g3,by omega,h5.trans g5 (fun k q=>.inl q)⟩,?_,?_⟩
 ·rw[List.take_succ_eq_append_getElem hj,List.map_append,h.e,List.map_append];simp[hx]
 ·exact own_kp' h.v g5 (fun k hk=>by have:=(h.v.lt k hk).1;omega)
end
theorem wrapU (x:Int)(h:0≤x∧x<18446744073709551616):IntKind.u64.wrap x=x:=by rw[IntKind.wrap_u64];omega
theorem findu_any (B kt kc:Nat)(ca:Option Addr)(cc:Nat)(ka:Option Addr)(n kcc:Nat)(L:List Ins)(sg ig:Nat→Int)(cf:Nat)(hcf:cf=36∨cf=37)(cF:Nat→Int)(p:Pl)(hp:p.qf=89)(hn:L.length<1000)(hbB:B≤p.b)(hkt:kt≠p.b)(hkc:kc≠p.b)
 (hcount:∀(w:World) (pc:Nat),TEnv B kt kc ca cc ka n kcc L sg ig (.func (.func cf) #[] #[]) w→Calls Tryz.prog cf #[tlA ca L cc ka n kcc,.int .i64 pc] w fun e w'=>e=.returned (.int .u64 (cF pc))∧Below w.heap.size w w')(d:Nat):
 AskC (TEnv B kt kc ca cc ka n kcc L sg ig (.func (.func cf) #[] #[])) p encu tupu (nxN L) (wyS cF) (List.range (L.length+1)) d→FindC 56 #[pv kt,pv kc] (TEnv B kt kc ca cc ka n kcc L sg ig (.func (.func cf) #[] #[])) p encu tupu (nxN L) (wyS cF) (List.range (L.length+1)) d:=by
 intro hask w m S M nn hE hR hS hA hm hl hb;have hU:∀x∈List.range (L.length+1),∀c∈nxN L x,c∈List.range (L.length+1):=fun x _=>nxN_in L x
 have hqv:p.qv=.func (.func 89) #[] #[.pointer (some ⟨p.kA,0,none⟩),.pointer (some ⟨p.kF,0,none⟩),.pointer (some ⟨p.kQ,0,none⟩)]:=by unfold Pl.qv pv;rw[hp]
 show Calls Tryz.prog 56 #[.int .i64 m,p.qv,.pointer (some ⟨kt,0,none⟩),.pointer (some ⟨kc,0,none⟩)] w _;rw[hqv];have hm2:m<1001:=by rw[List.mem_range]at hm;omega
 have hNx:=ζ (fun W (q:Below w.heap.size w W)=>next_any L ca cc ka n kcc m W (((hE.l.mono hE.le).below q).mono q.size) (by omega) (by omega));have hNl:(nxN L m).length≤2000:=by
  unfold nxN;rw[List.length_append];have h1:(if thB L.length m=true then(List.range L.length).filter (folB L m)else []).length≤L.length:=by
   split
   ·have:=List.length_filter_le (folB L m) (List.range L.length)
    rwa [List.length_range]at this
   ·simp
  have h2:(if ovB L m=true then [L.length]else []).length≤1:=by split<;>simp
  omega
 have hq:=ζ (fun W (e:TEnv B kt kc ca cc ka n kcc L sg ig (.func (.func cf) #[] #[]) W) (M':Nat→Option (Option Int)) (nn':Nat) (h1:Rem p encu W nn' M') (h2:Memo (nxN L) (wyS cF) (List.range (L.length+1)) (fun x=>S x∨x=m) M') (h3:More M M') (h4:nn'+2*left (List.range (L.length+1)) M'≤nn+2*left (List.range (L.length+1)) M) (c:Nat) (hc:c∈nxN L m)=>hask W c (fun x=>S x∨x=m) M' nn' e h1 h2 (fun q hq=>by
  rcases hq with hq|hq
  ·exact(hA q hq).trans (anc_child hc)
  ·subst hq;exact anc_child hc) (nxN_in L m c hc) (Nat.le_trans (left_more h3) hl) (by omega))
 rw[hp]at hq;unfold pv at hq;have k0:w.cell? ⟨kt,0,none⟩=some (.slice ca L.length cc):=hE.t.2.1 0;have k1:w.cell? ⟨kt,1,none⟩=some (.slice ka n kcc):=hE.t.2.1 1;have evd:∀vs:List Int,(nxN L m).map (ev (nxN L) (wyS cF) (List.range (L.length+1)))=vs.map some→ev (nxN L) (wyS cF) (List.range (L.length+1)) m=some (IntKind.u64.wrap (cF m+mxL vs)):=fun vs h=>ev_known hU hm h
 have evn:∀c,c∈nxN L m→ev (nxN L) (wyS cF) (List.range (L.length+1)) c=none→ev (nxN L) (wyS cF) (List.range (L.length+1)) m=none:=fun c hc h=>ev_none hU hm hc h
 have hstart:Aft p encu (nxN L) (wyS cF) (List.range (L.length+1)) (fun x=>S x∨x=m) M nn w w:=⟨M,nn,hR,hS,More.refl M,Nat.le_refl _,Kp.refl _ _⟩;have hEk:=ζ (fun W (q:Kp (fun k=>k=p.b) w W)=>hE.keep q hbB hkt hkc);have hpb:=hR.m.lt;replace hcount:=ζ hcount;replace hE:=ζ hE;replace hS:=ζ hS;replace hR:=ζ hR;replace hA:=ζ hA;replace hU:=ζ hU;replace hm:=ζ hm;replace hstart:=ζ hstart;replace evd:=ζ evd;replace evn:=ζ evn;clear hask hqv hb hl;generalize hN:nxN L m=N at*;generalize hev:ev (nxN L) (wyS cF) (List.range (L.length+1))=evv at*;generalize List.range (L.length+1)=U at*;unfold tlA at*;go_enter Tryz.func56,Tryz.ntmps56;go_upto_region 3 with(go_at_call 57;refine(hNx.out _ (Below.refl _ _)).mono ?_;rintro r W1 ⟨v,rfl,y1,y2⟩;obtain⟨va,vc,rfl⟩:=own_slice y1;rw[List.length_map]at y1;replace y1:=ζ y1;replace y2:=ζ y2)
 clear k0 k1;go_loopw [8,17] (fun rv iv wr=>∃(j:Nat) (vs:List Int),rv=.int .u64 (mxL vs)∧iv=.int .i64 j∧j≤N.length∧Hz (Asked p encu (nxN L) (wyS cF) U (fun x=>S x∨x=m) M nn N w.heap.size (.slice va N.length vc) w j vs wr)) (fun _ iv _=>N.length - (intOf iv).toNat)
 case atStart=>exact⟨0,[],rfl,rfl,by omega,ζ ⟨aft_below hstart.out y2.out,rfl,y1.out⟩⟩
 case round=>
  obtain⟨j,vs,rfl,rfl,hj,hk⟩:=hrel;have hkp:=hk.out.kp;have hEr:=hEk.out wr hkp;by_cases hlt:j<N.length
  ·obtain⟨b,off,ena,_,hb2,hc⟩:=own_nin hk.out.v j (by rw[List.length_map];exact hlt);subst ena;rw[List.getElem_map]at hc;have hi1:(j:Int)<N.length:=by omega
   obtain⟨M',nn',r1,r2,r3,r4,r5⟩:=hk.out.a;have hmem:N[j]∈N:=List.getElem_mem hlt;have hcall:=hq.out wr hEr M' nn' r1 r2 r3 r4 N[j] hmem;have hnx:=fun x (hx:ev (nxN L) (wyS cF) U N[j]=some x) w2 (g:Aft p encu (nxN L) (wyS cF) U (fun x=>S x∨x=m) M' nn' wr w2)=>hk.out.next hlt x hx hpb r3 r4 r5 g
   have hn2:=fun w2 (g:Aft p encu (nxN L) (wyS cF) U (fun x=>S x∨x=m) M' nn' wr w2)=>(show Aft p encu (nxN L) (wyS cF) U (fun x=>S x∨x=m) M nn w w2 by
    obtain⟨M2,n2,g1,g2,g3,g4,g5⟩:=g;exact⟨M2,n2,g1,g2,r3.trans g3,by omega,r5.trans g5 (fun k q=>.inl q)⟩)
   have hev2:ev (nxN L) (wyS cF) U N[j]=evv N[j]:=by rw[hev]
   (try rw[hev2]at hcall)
   rw[hev2]at hnx;have hno:=evn.out N[j] hmem;clear hev2 hmem r1 r2 r5;generalize N[j]=c at*;replace hnx:=ζ hnx;replace hn2:=ζ hn2;replace hk:=ζ hk.out;replace hkp:=ζ hkp;replace hEr:=ζ hEr;replace r3:=ζ r3;replace r4:=ζ r4;have hij:IntKind.i64.wrap ((j:Int)+1)=((j+1:Nat):Int):=by rw[IntKind.wrap_i64];omega
   have hij2:wrap64 ((j:Int)+1)=((j+1:Nat):Int):=by unfold wrap64;omega
   cases hcv:evv c with
   |none=>
    have hem:=hno hcv;rw[hcv]at hcall;unfold tupu at hcall;replace hno:=ζ hno;replace hcall:=ζ hcall;go_wp2_with(go_at_call 89;refine hcall.out.mono ?_;rintro r w2 ⟨rfl,g⟩;replace g:=ζ g);refine bodyPost_ret (v:=.tuple #[.int .u64 0,.bool false]) (by simp[results,Tryz.results56,go_sem]) rfl ?_;refine⟨?_,hn2.out _ g.out⟩;rw[hem];rfl
   |some x=>
    rw[hcv]at hcall;unfold tupu at hcall;replace hno:=ζ hno;replace hcall:=ζ hcall;replace hcv:=ζ hcv;go_wp2_with(go_at_call 89;refine hcall.out.mono ?_;rintro r w2 ⟨rfl,g⟩;replace g:=ζ g);clear hij hij2;go_roundw
    case rel=>exact⟨j+1,vs++[x],by rw[mxL_snoc],by simp,by omega,ζ (hnx.out x hcv.out _ g.out)⟩
    case measure=>simp only[intOf];omega
  ·have hje:j=N.length:=by omega
   subst hje;have hi2:¬(N.length:Int)<N.length:=by omega
   have hres:=evd.out vs (by rw[←hk.out.e,List.take_of_length_le (Nat.le_refl _),←hev]);have k0:wr.cell? ⟨kt,0,none⟩=some (.slice ca L.length cc):=hEr.t.2.1 0;have k1:wr.cell? ⟨kt,1,none⟩=some (.slice ka n kcc):=hEr.t.2.1 1;have k2:wr.cell? ⟨kc,0,none⟩=some (.func (.func cf) #[] #[]):=hEr.c.2.1 0;have hcc:=hcount.out wr m hEr;generalize cF m=cm at*;generalize mxL vs=mv at*;have haf:=ζ hk.out.a;replace hk:=ζ hk.out;replace hcc:=ζ hcc;replace hEr:=ζ hEr;replace hkp:=ζ hkp;replace hres:=ζ hres;rcases hcf with rfl|rfl
   all_goals
    go_wp2_with(refine hcc.out.mono ?_;rintro r w2 ⟨rfl,g⟩;replace g:=ζ g);refine bodyPost_ret (v:=.tuple #[.int .u64 (IntKind.u64.wrap (cm+mv)),.bool true]) (by simp[results,Tryz.results56,go_sem]) rfl ?_;refine⟨?_,aft_below haf.out g.out⟩;rw[hres.out];rfl
end Bd
end Go.Proofs.YthlpjlnehonpdaaGreatDoor
