import Derived.Test.YthlpjlnehonpdaaGreatDoorK38
import Derived.Test.YthlpjlnehonpdaaGreatDoorK37
import Derived.Test.YthlpjlnehonpdaaGreatDoorK17
import Derived.Test.YthlpjlnehonpdaaGreatDoorK35
namespace Go.Proofs.YthlpjlnehonpdaaGreatDoor
set_option maxRecDepth 100000
set_option maxHeartbeats 40000000
namespace Bd
open Go.RowKit
open T (Kp)
theorem left_all {α:Type}(U:List Nat):left U (fun _=>(none:Option (Option α)))=U.length:=by unfold left;simp
theorem memo_none {α:Type}(nx:Nat→List Nat)(f:Nat→List α→Option α)(U:List Nat):Memo nx f U (fun _=>False) (fun _=>none):=⟨fun _ _ h=>(by cases h),fun _ h=>(by cases h)⟩
def sumS (L:List Ins)(cF:Nat→Int)(m:Nat):Option Int:=ev (nxN L) (wyS cF) (List.range (L.length+1)) m
theorem most_steps (L:List Ins)(ca:Option Addr)(cc:Nat)(ka:Option Addr)(n kc:Nat)(sg ig:Nat→Int)(m:Nat)(w:World)(hL:LIn w.heap.size w ca L)(hc:CostIn w.heap.size w ka n sg ig)(hk:CallOk L n)(hm:m≤L.length)(hn:L.length<1000):
 Calls Tryz.prog 35 #[tlA ca L cc ka n kc,.int .i64 m,.func (.func 36) #[] #[]] w fun e w'=>e=.returned (tupu (sumS L (stF L sg) m))∧Below w.heap.size w w':=by
 have hcount:∀(kt kc2:Nat) (W:World) (pc:Nat),TEnv w.heap.size kt kc2 ca cc ka n kc L sg ig (.func (.func 36) #[] #[]) W→Calls Tryz.prog 36 #[tlA ca L cc ka n kc,.int .i64 pc] W fun e w'=>e=.returned (.int .u64 (stF L sg pc))∧Below W.heap.size W w':=
  fun kt kc2 W pc e=>steps_any L ca cc ka n kc sg ig pc W (e.l.mono e.le) (costIn_mono e.k e.le) hk
 have hask:∀(W W1:World) (p:Pl),Below w.heap.size w W→At W w.heap.size #[.slice ca L.length cc,.slice ka n kc]→At W (w.heap.size+1) #[.func (.func 36) #[] #[]]→p.qf=89→p.fv=.func (.func 56) #[] #[pv w.heap.size,pv (w.heap.size+1)]→Rem p encu W1 0 (fun _=>none)→Below W.heap.size W W1→W.heap.size≤p.b→
  Calls Tryz.prog 89 #[.int .i64 m,.pointer (some ⟨p.kA,0,none⟩),.pointer (some ⟨p.kF,0,none⟩),.pointer (some ⟨p.kQ,0,none⟩)] W1 fun r w'=>r=.returned (tupu (sumS L (stF L sg) m))∧Below w.heap.size w w':=by
  intro W W1 p hB aT aC hp hf hR hB1 hpb;have n1:w.heap.size≠p.b:=by have:=aT.1;omega
  have n2:w.heap.size+1≠p.b:=by have:=aC.1;omega
  have n3:w.heap.size≤p.b:=by have:=hB.size;omega
  have hE1:TEnv w.heap.size w.heap.size (w.heap.size+1) ca cc ka n kc L sg ig (.func (.func 36) #[] #[]) W1:=by
   have h2:=hB.trans (hB1.mono hB.size);exact⟨at_keep aT (Kp.of_below (S:=fun _=>False) hB1) id,at_keep aC (Kp.of_below (S:=fun _=>False) hB1) id,hL.below h2,hc.below h2,h2.size⟩
  have hA:=asku_any w.heap.size (w.heap.size+1) (TEnv w.heap.size w.heap.size (w.heap.size+1) ca cc ka n kc L sg ig (.func (.func 36) #[] #[])) p hp hf (fun X X' e q=>e.keep q n3 n1 n2) (nxN L) (wyS (stF L sg)) (List.range (L.length+1)) (fun x hx=>by rw[List.mem_range]at hx;omega)
   (fun d=>findu_any w.heap.size w.heap.size (w.heap.size+1) ca cc ka n kc L sg ig 36 (.inl rfl) (stF L sg) p hp hn n3 n1 n2 (hcount _ _) d) (L.length+1)
  have h:=hA W1 m (fun _=>False) (fun _=>none) 0 hE1 hR (memo_none _ _ _) (fun _ h=>h.elim) (List.mem_range.2 (by omega)) (by rw[left_all,List.length_range];exact Nat.le_refl _) (by rw[left_all,List.length_range];omega);rw[hp]at h;refine h.mono ?_;rintro r w' ⟨e1,M',nn',g1,g2,g3,g4,g5⟩;exact⟨e1,(hB.trans (hB1.mono hB.size)).trans (g5.below (Nat.le_trans hB.size hB1.size) (fun k q=>by omega))⟩
 have hmf:∀(fn:Fn) (first cap:Array Value) (w:World),(Instr.makeFunc fn first cap).run Tryz.prog w=.ok (.func fn first cap) w:=fun _ _ _ _=>rfl
 have hRm:=ζ (fun W=>remu_any w.heap.size (w.heap.size+1) W);generalize sumS L (stF L sg) m=res at*;replace hask:=ζ hask;replace hcount:=ζ hcount;replace hL:=ζ hL;replace hc:=ζ hc;replace hk:=ζ hk;unfold tlA pv at*;have aT:=(At.new w #[.slice ca L.length cc,.slice ka n kc] 112).alloc (.cells #[.func (.func 36) #[] #[]] 116);have aC:=At.new (w.alloc (.cells #[.slice ca L.length cc,.slice ka n kc] 112)) #[.func (.func 36) #[] #[]] 116;have e1:(w.alloc (.cells #[.slice ca L.length cc,.slice ka n kc] 112)).heap.size=w.heap.size+1:=by simp
 rw[e1]at aC;have hB:Below w.heap.size w ((w.alloc (.cells #[.slice ca L.length cc,.slice ka n kc] 112)).alloc (.cells #[.func (.func 36) #[] #[]] 116)):=((Below.refl _ w).alloc (Nat.le_refl _) _).alloc (by simp) _;replace aT:=ζ aT;replace aC:=ζ aC;replace hB:=ζ hB;clear e1;go_enter Tryz.func35,Tryz.ntmps35;go_upto_region 1 with fail
 refine wp_world (fun W=>At W w.heap.size #[.slice ca L.length cc,.slice ka n kc]∧At W (w.heap.size+1) #[.func (.func 36) #[] #[]]∧Below w.heap.size w W) ⟨aT.out,aC.out,hB.out⟩ ?_;clear aT aC hB;rintro W ⟨aT,aC,hB⟩;replace aT:=ζ aT;replace aC:=ζ aC;replace hB:=ζ hB;go_upto_region 2 with(go_at_call 55;refine(hRm.out _).mono ?_;rintro r W1 ⟨p,rfl,hp,hf,hR,hB1,hpb⟩;have hqv:p.qv=.func (.func 89) #[] #[.pointer (some ⟨p.kA,0,none⟩),.pointer (some ⟨p.kF,0,none⟩),.pointer (some ⟨p.kQ,0,none⟩)]:=(by unfold Pl.qv pv;rw[hp]);rw[hqv];have hcl:=ζ (hask.out W W1 p hB.out aT.out aC.out hp hf hR hB1 hpb);clear hqv hp hf hR hB1 hpb)
 cases res with
 |some v=>
  unfold tupu at hcl;go_wp2_with(go_at_call 89;refine hcl.out.mono ?_;rintro r W2 ⟨rfl,g⟩;replace g:=ζ g);refine bodyPost_ret (v:=.tuple #[.int .u64 v,.bool true]) (by simp[results,Tryz.results35,go_sem]) rfl ?_;exact⟨rfl,g.out⟩
 |none=>
  unfold tupu at hcl;go_wp2_with(go_at_call 89;refine hcl.out.mono ?_;rintro r W2 ⟨rfl,g⟩;replace g:=ζ g);refine bodyPost_ret (v:=.tuple #[.int .u64 0,.bool false]) (by simp[results,Tryz.results35,go_sem]) rfl ?_;exact⟨rfl,g.out⟩
theorem most_inputs (L:List Ins)(ca:Option Addr)(cc:Nat)(ka:Option Addr)(n kc:Nat)(sg ig:Nat→Int)(m:Nat)(w:World)(hL:LIn w.heap.size w ca L)(hc:CostIn w.heap.size w ka n sg ig)(hk:CallOk L n)(hm:m≤L.length)(hn:L.length<1000):
 Calls Tryz.prog 35 #[tlA ca L cc ka n kc,.int .i64 m,.func (.func 37) #[] #[]] w fun e w'=>e=.returned (tupu (sumS L (inF L ig) m))∧Below w.heap.size w w':=by
 have hcount:∀(kt kc2:Nat) (W:World) (pc:Nat),TEnv w.heap.size kt kc2 ca cc ka n kc L sg ig (.func (.func 37) #[] #[]) W→Calls Tryz.prog 37 #[tlA ca L cc ka n kc,.int .i64 pc] W fun e w'=>e=.returned (.int .u64 (inF L ig pc))∧Below W.heap.size W w':=
  fun kt kc2 W pc e=>inputs_any L ca cc ka n kc sg ig pc W (e.l.mono e.le) (costIn_mono e.k e.le) hk
 have hask:∀(W W1:World) (p:Pl),Below w.heap.size w W→At W w.heap.size #[.slice ca L.length cc,.slice ka n kc]→At W (w.heap.size+1) #[.func (.func 37) #[] #[]]→p.qf=89→p.fv=.func (.func 56) #[] #[pv w.heap.size,pv (w.heap.size+1)]→Rem p encu W1 0 (fun _=>none)→Below W.heap.size W W1→W.heap.size≤p.b→
  Calls Tryz.prog 89 #[.int .i64 m,.pointer (some ⟨p.kA,0,none⟩),.pointer (some ⟨p.kF,0,none⟩),.pointer (some ⟨p.kQ,0,none⟩)] W1 fun r w'=>r=.returned (tupu (sumS L (inF L ig) m))∧Below w.heap.size w w':=by
  intro W W1 p hB aT aC hp hf hR hB1 hpb;have n1:w.heap.size≠p.b:=by have:=aT.1;omega
  have n2:w.heap.size+1≠p.b:=by have:=aC.1;omega
  have n3:w.heap.size≤p.b:=by have:=hB.size;omega
  have hE1:TEnv w.heap.size w.heap.size (w.heap.size+1) ca cc ka n kc L sg ig (.func (.func 37) #[] #[]) W1:=by
   have h2:=hB.trans (hB1.mono hB.size);exact⟨at_keep aT (Kp.of_below (S:=fun _=>False) hB1) id,at_keep aC (Kp.of_below (S:=fun _=>False) hB1) id,hL.below h2,hc.below h2,h2.size⟩
  have hA:=asku_any w.heap.size (w.heap.size+1) (TEnv w.heap.size w.heap.size (w.heap.size+1) ca cc ka n kc L sg ig (.func (.func 37) #[] #[])) p hp hf (fun X X' e q=>e.keep q n3 n1 n2) (nxN L) (wyS (inF L ig)) (List.range (L.length+1)) (fun x hx=>by rw[List.mem_range]at hx;omega)
   (fun d=>findu_any w.heap.size w.heap.size (w.heap.size+1) ca cc ka n kc L sg ig 37 (.inr rfl) (inF L ig) p hp hn n3 n1 n2 (hcount _ _) d) (L.length+1)
  have h:=hA W1 m (fun _=>False) (fun _=>none) 0 hE1 hR (memo_none _ _ _) (fun _ h=>h.elim) (List.mem_range.2 (by omega)) (by rw[left_all,List.length_range];exact Nat.le_refl _) (by rw[left_all,List.length_range];omega);rw[hp]at h;refine h.mono ?_;rintro r w' ⟨e1,M',nn',g1,g2,g3,g4,g5⟩;exact⟨e1,(hB.trans (hB1.mono hB.size)).trans (g5.below (Nat.le_trans hB.size hB1.size) (fun k q=>by omega))⟩
 have hmf:∀(fn:Fn) (first cap:Array Value) (w:World),(Instr.makeFunc fn first cap).run Tryz.prog w=.ok (.func fn first cap) w:=fun _ _ _ _=>rfl
 have hRm:=ζ (fun W=>remu_any w.heap.size (w.heap.size+1) W);generalize sumS L (inF L ig) m=res at*;replace hask:=ζ hask;replace hcount:=ζ hcount;replace hL:=ζ hL;replace hc:=ζ hc;replace hk:=ζ hk;unfold tlA pv at*;have aT:=(At.new w #[.slice ca L.length cc,.slice ka n kc] 112).alloc (.cells #[.func (.func 37) #[] #[]] 116);have aC:=At.new (w.alloc (.cells #[.slice ca L.length cc,.slice ka n kc] 112)) #[.func (.func 37) #[] #[]] 116;have e1:(w.alloc (.cells #[.slice ca L.length cc,.slice ka n kc] 112)).heap.size=w.heap.size+1:=by simp
 rw[e1]at aC;have hB:Below w.heap.size w ((w.alloc (.cells #[.slice ca L.length cc,.slice ka n kc] 112)).alloc (.cells #[.func (.func 37) #[] #[]] 116)):=((Below.refl _ w).alloc (Nat.le_refl _) _).alloc (by simp) _;replace aT:=ζ aT;replace aC:=ζ aC;replace hB:=ζ hB;clear e1;go_enter Tryz.func35,Tryz.ntmps35;go_upto_region 1 with fail
 refine wp_world (fun W=>At W w.heap.size #[.slice ca L.length cc,.slice ka n kc]∧At W (w.heap.size+1) #[.func (.func 37) #[] #[]]∧Below w.heap.size w W) ⟨aT.out,aC.out,hB.out⟩ ?_;clear aT aC hB;rintro W ⟨aT,aC,hB⟩;replace aT:=ζ aT;replace aC:=ζ aC;replace hB:=ζ hB;go_upto_region 2 with(go_at_call 55;refine(hRm.out _).mono ?_;rintro r W1 ⟨p,rfl,hp,hf,hR,hB1,hpb⟩;have hqv:p.qv=.func (.func 89) #[] #[.pointer (some ⟨p.kA,0,none⟩),.pointer (some ⟨p.kF,0,none⟩),.pointer (some ⟨p.kQ,0,none⟩)]:=(by unfold Pl.qv pv;rw[hp]);rw[hqv];have hcl:=ζ (hask.out W W1 p hB.out aT.out aC.out hp hf hR hB1 hpb);clear hqv hp hf hR hB1 hpb)
 cases res with
 |some v=>
  unfold tupu at hcl;go_wp2_with(go_at_call 89;refine hcl.out.mono ?_;rintro r W2 ⟨rfl,g⟩;replace g:=ζ g);refine bodyPost_ret (v:=.tuple #[.int .u64 v,.bool true]) (by simp[results,Tryz.results35,go_sem]) rfl ?_;exact⟨rfl,g.out⟩
 |none=>
  unfold tupu at hcl;go_wp2_with(go_at_call 89;refine hcl.out.mono ?_;rintro r W2 ⟨rfl,g⟩;replace g:=ζ g);refine bodyPost_ret (v:=.tuple #[.int .u64 0,.bool false]) (by simp[results,Tryz.results35,go_sem]) rfl ?_;exact⟨rfl,g.out⟩
end Bd
namespace F
open Go.RowKit
open T
open Classical in
noncomputable def rchB (L:List Ins) (E:List Int) (out:Int) (q:Nat):Bool:=decide (Rch L E out q)
theorem rchB_iff {L:List Ins}{E:List Int}{out:Int}{q:Nat}:rchB L E out q=true↔Rch L E out q:=by simp[rchB]
def boolA (n:Nat)(f:Nat→Bool):Array Value:=((List.range n).map fun k=>Value.bool (f k)).toArray
theorem boolA_congr {n:Nat}{f g:Nat→Bool}(h:∀k,k<n→f k=g k):boolA n f=boolA n g:=by
 unfold boolA
 congr 1
 apply List.map_congr_left;intro k hk;rw[h k (List.mem_range.1 hk)]
theorem Reached_any (L:List Ins)(E:List Int)(cc ec:Nat)(ca ea:Option Addr)(w:World)(hL:LIn w.heap.size w ca L)(hE:NIn w.heap.size w ea E)(hnil:NilOk ea E.length ec)(hn:L.length<2000000)(he:E.length≤4000000):
 Calls Tryz.prog 54 #[.slice ca L.length cc,.slice ea E.length ec] w fun e w'=>∃g,e=.returned (.slice (some ⟨g,0,none⟩) L.length L.length)∧w.heap.size≤g∧At w' g (boolA L.length (rchB L E (-1)))∧Below w.heap.size w w':=by
 have hC:=comeTo_any L E cc ec ca ea (-1) w hL hE hnil hn he;have hT:=fun X s W (h:SIn W X L.length s)=>truths_any X L.length s W h hn
 replace hC:=Hid.mk hC;replace hT:=Hid.mk hT;replace hL:=Hid.mk hL;replace hE:=Hid.mk hE;replace hnil:=Hid.mk hnil;go_enter Tryz.func54,Tryz.ntmps54;go_wp2_with(first|(go_at_call 87;refine hC.out.mono ?_;rintro x w1 ⟨X,s,rfl,a1,a2,a3,a4⟩;replace a1:=Hid.mk a1;replace a3:=Hid.mk a3;replace a4:=Hid.mk a4)|(go_at_call 88;refine(hT.out X s _ a1.out).mono ?_;rintro x w2 ⟨g,rfl,b1,b2,b3⟩;replace b2:=Hid.mk b2;replace b3:=Hid.mk b3));go_ret;refine⟨g,rfl,Nat.le_trans a3.out.size b1,?_,a3.out.trans (b3.out.mono a3.out.size)⟩;have e:boolA L.length (rchB L E (-1))=boolA L.length s:=boolA_congr (fun k hk=>by
  have:=a4.out k hk;have hk1:¬(k:Int)= -1:=by omega
  simp only[hk1,or_false]at this
  cases h:s k
  ·cases h2:rchB L E (-1) k
   ·rfl
   ·rw[rchB_iff]at h2;rw[this.2 h2]at h
    cases h
  ·exact rchB_iff.2 (this.1 h))
 rw[e];exact b2.out
noncomputable def domB (L:List Ins) (E:List Int) (a b:Int):Bool:=
 thB L.length a&&thB L.length b&&(decide (a=b) || !rchB L E (-1) b.toNat || !rchB L E a b.toNat)
end F
namespace Bd
open Go.RowKit
open T (Kp)
open F (thB nxtI folB IOwn own_slice own_nin rchB boolA)
structure BOk (P:PImg):Prop where
 gates:∀g (h:g<P.gates.length),∃(k:Nat) (hk:k<P.comps.length),P.gates[g].c=(k:Int)∧0≤P.gates[g].e∧P.gates[g].e<(P.comps[k].code.length:Int)
 code:∀k (hk:k<P.comps.length),P.comps[k].code.length≤400∧CallOk P.comps[k].code P.gates.length
 gl:P.gates.length≤16
theorem code_mem {c g:Int}:∀(L:List Ins),codeF c g L=0→∀i∈L,i.right=0∧tgtB i.op i.m c g=true
 |[],_=>fun i hi=>by cases hi
 |k::l,h=>by
  unfold codeF at h
  split at h
  ·rename_i q
   split at h
   ·rename_i q2
    intro i hi;rcases List.mem_cons.1 hi with rfl|hi
    ·exact⟨q,q2⟩
    ·exact code_mem l h i hi
   ·omega
  ·rename_i q
   exact absurd h q
theorem comps_mem {g:Int}:∀(L:List PComp),compsR g L=0→∀c∈L,codeR c.code g=0
 |[],_=>fun c hc=>by cases hc
 |k::l,h=>by
  unfold compsR at h
  split at h
  ·split at h
   ·rename_i q2
    intro c hc;rcases List.mem_cons.1 hc with rfl|hc
    ·exact q2
    ·exact comps_mem l h c hc
   ·rename_i q2
    exact absurd h q2
  ·omega
theorem gates_mem {C:List PComp}:∀(L:List PGate),gatesR C L=0→∀g∈L,hasI C g.c g.e=true
 |[],_=>fun g hg=>by cases hg
 |k::l,h=>by
  unfold gatesR at h
  split at h
  ·rename_i q
   split at h
   ·intro g hg;rcases List.mem_cons.1 hg with rfl|hg
    ·simp only[Bool.and_eq_true,decide_eq_true_eq]at q;exact q.1.1
    ·exact gates_mem l h g hg
   ·omega
  ·omega
theorem call_nn {i:Ins}(ho:i.op=31)(h:i.right=0):0≤i.m:=by
 unfold Ins.right at h;rw[ho]at h;have hs:shapeOf 31=[103]:=by kernel_rfl
 unfold rightF at h;simp only[hs]at h;simp[errOf,fR,inE,hiE,loE]at h;omega
theorem bok_of (m:PImg)(h:m.right=0):BOk m:=by
 unfold PImg.right at h
 split at h
 ·rename_i hc
  split at h
  ·split at h
   ·rename_i h2
    simp only[countsB,Bool.and_eq_true,decide_eq_true_eq]at hc;have hC:=comps_mem _ h2;have hG:=gates_mem _ h;refine⟨fun g hg=>?_,fun k hk=>?_,by omega⟩
    ·have q1:=hG m.gates[g] (List.getElem_mem hg);unfold hasI at q1
     split at q1
     ·rename_i q4
      have hk:m.gates[g].c.toNat<m.comps.length:=by omega
      rw[List.getElem?_eq_getElem hk]at q1;have q5:m.gates[g].e<(m.comps[m.gates[g].c.toNat].code.length:Int):=by simpa using q1
      exact⟨m.gates[g].c.toNat,hk,by omega,q4.2.2,q5⟩
     ·cases q1
    ·have q1:=hC m.comps[k] (List.getElem_mem hk);unfold codeR at q1
     split at q1
     ·omega
     ·rename_i q2
      refine⟨by omega,fun i hi ho=>?_⟩;obtain⟨a1,a2⟩:=code_mem _ q1 i hi;refine⟨call_nn ho a1,?_⟩;unfold tgtB at a2;rw[if_neg (by omega),if_pos ho]at a2;simpa using a2
   ·rename_i h2
    exact absurd h h2
  ·rename_i h2
   exact absurd h h2
 ·omega
open F (thB nxtI folB IOwn own_slice own_nin rchB boolA NIn NilOk)
def imA (m:PImg)(ra:Option Addr)(rc:Nat)(ca:Option Addr)(cc:Nat)(ga:Option Addr)(gc:Nat):Value:=.agg #[.slice ra m.regs.length rc,.slice ca m.comps.length cc,.slice ga m.gates.length gc,.int .i64 m.depth]
noncomputable def calB (L:List Ins) (e:Int) (pc:Nat):Bool:=rchB L [e] (-1) pc&&(match L[pc]? with|none=>false|some k=>k.op==31)
def imF (L:List Ins)(pc:Nat):Nat:=match L[pc]? with|none=>0|some k=>k.m.toNat
noncomputable def calL (L:List Ins) (e:Int):List Nat:=((List.range L.length).filter (calB L e)).map (imF L)
theorem calL_in {L:List Ins}{e:Int}{n:Nat}(h:CallOk L n):∀g∈calL L e,g<n:=by
 intro g hg;unfold calL at hg;obtain⟨pc,h1,rfl⟩:=List.mem_map.1 hg;obtain⟨h2,h3⟩:=List.mem_filter.1 h1;rw[List.mem_range]at h2;unfold calB at h3;unfold imF;rw[List.getElem?_eq_getElem h2]at h3 ⊢;simp only[Bool.and_eq_true,beq_iff_eq]at h3;have:=h _ (List.getElem_mem h2) h3.2;show L[pc].m.toNat<n;omega
theorem calL_len (L:List Ins)(e:Int):(calL L e).length≤L.length:=by
 unfold calL;rw[List.length_map];have:=List.length_filter_le (calB L e) (List.range L.length)
 rwa [List.length_range]at this
theorem codeOf_any (B:Nat)(m:PImg)(ra ca ga:Option Addr)(rc cc gc:Nat)(g k:Nat)(hg:g<m.gates.length)(hk:k<m.comps.length)(hc:m.gates[g].c=k)(w:World)(hm:ImgIn B w ra ca ga m)(hB:B≤w.heap.size):
 Calls Tryz.prog 33 #[imA m ra rc ca cc ga gc,.int .i64 g] w fun e w'=>∃ka kc,e=.returned (.slice ka m.comps[k].code.length kc)∧LIn B w' ka m.comps[k].code∧Below w.heap.size w w':=by
 obtain⟨b,off,xa,xc,ya,yc,rfl,h1,h2,c0,c1, -⟩:=hm.gates g hg;obtain⟨b2,off2,ra2,rc2,ka,kc,rfl,h3,h4,d0,d1,hr,hl⟩:=hm.comps k hk;rw[hc]at c0;have i1:(g:Int)<(m.gates.length:Int):=by omega
 have i2:(k:Int)<(m.comps.length:Int):=by omega
 have hl':=ζ hl;clear hl hm hc c1 d0 hr;unfold imA;generalize m.comps[k].code=L at*;go_enter Tryz.func33,Tryz.ntmps33;go_wp2_with fail;go_quiet (fail)
 all_goals
  go_wp2_with fail;go_ret;refine⟨ka,kc,rfl,hl'.out.below (Below.mono ?_ hB),?_⟩<;>exact Below.trans (Below.alloc (Below.refl _ _) (Nat.le_refl _) _) ((drewNb _ _).mono (by simp))
theorem calB_step (L:List Ins)(e:Int)(j:Nat):((List.range (j+1)).filter (calB L e)).map (imF L)=((List.range j).filter (calB L e)).map (imF L)++(if calB L e j then [imF L j]else []):=by
 rw[List.range_succ,List.filter_append,List.map_append]
 congr 1
 cases h:calB L e j<;>simp[h]
theorem calK_len (L:List Ins)(e:Int)(j:Nat):(((List.range j).filter (calB L e)).map (imF L)).length≤j:=by
 rw[List.length_map];have:=List.length_filter_le (calB L e) (List.range j)
 rwa [List.length_range]at this
theorem bool_at {w:World}{g n:Nat}{f:Nat→Bool}(h:At w g (boolA n f))(k:Nat)(hk:k<n):w.cell? ⟨g,k,none⟩=some (.bool (f k)):=by
 rw[h.2.1];simp[boolA,hk]
theorem calledBy_any (m:PImg)(ra ca ga:Option Addr)(rc cc gc:Nat)(g k:Nat)(hg:g<m.gates.length)(hk:k<m.comps.length)(hc:m.gates[g].c=k)(hn:m.comps[k].code.length<1000)(hok:CallOk m.comps[k].code m.gates.length)(w:World)(hm:ImgIn w.heap.size w ra ca ga m):
 Calls Tryz.prog 34 #[imA m ra rc ca cc ga gc,.int .i64 g] w fun e w'=>∃v,e=.returned v∧IOwn w' w.heap.size v ((calL m.comps[k].code m.gates[g].e).map (fun q:Nat=>(q:Int)))∧Below w.heap.size w w':=by
 have hC:=ζ (fun W (q:Below w.heap.size w W)=>codeOf_any W.heap.size m ra ca ga rc cc gc g k hg hk hc W ((hm.below q).mono q.size) (Nat.le_refl _));obtain⟨b,off,xa,xc,ya,yc,rfl,h1,h2,c0,c1, -⟩:=hm.gates g hg;have i1:(g:Int)<(m.gates.length:Int):=by omega
 have hR:=ζ (fun W cc2 ka (q:LIn W.heap.size W ka m.comps[k].code) ea ec (hE:NIn W.heap.size W ea [m.gates[g].e]) (hni:NilOk ea 1 ec)=>F.Reached_any m.comps[k].code [m.gates[g].e] cc2 ec ka ea W q hE hni (by omega) (by simp));clear hm hc c0;unfold imA at*;generalize m.comps[k].code=L at*;generalize m.gates[g].e=e0 at*;have hcl:Hz ((calL L e0).map (fun q:Nat=>(q:Int))=(((List.range L.length).filter (calB L e0)).map (imF L)).map (fun q:Nat=>(q:Int))):=ζ rfl;generalize (calL L e0).map (fun q:Nat=>(q:Int))=cl at*;replace hok:=ζ hok;go_enter Tryz.func34,Tryz.ntmps34;go_upto_region 1 with fail
 refine wp_world (fun W=>At W w.heap.size #[.slice ra m.regs.length rc,.slice ca m.comps.length cc,.slice (some ⟨b,off,none⟩) m.gates.length gc,.int .i64 m.depth]∧Below w.heap.size w W) ⟨At.new w _ _,(Below.refl _ _).alloc (Nat.le_refl _) _⟩ ?_;rintro W ⟨A0,hB⟩;have k0:W.cell? ⟨w.heap.size,0,none⟩=some (.slice ra m.regs.length rc):=A0.2.1 0;have k1:W.cell? ⟨w.heap.size,1,none⟩=some (.slice ca m.comps.length cc):=A0.2.1 1;have k2:W.cell? ⟨w.heap.size,2,none⟩=some (.slice (some ⟨b,off,none⟩) m.gates.length gc):=A0.2.1 2;have k3:W.cell? ⟨w.heap.size,3,none⟩=some (.int .i64 m.depth):=A0.2.1 3;replace A0:=ζ A0;replace hB:=ζ hB;go_upto_region 3 with(go_at_call 33;refine(hC.out _ hB.out).mono ?_;rintro r W1 ⟨ka,kc,rfl,l1,hB1⟩;replace l1:=ζ l1;replace hB1:=ζ hB1)
 clear k0 k1 k2 k3;have A1:=at_keep A0.out (Kp.of_below (S:=fun _=>False) hB1.out) id;have k2:W1.cell? ⟨w.heap.size,2,none⟩=some (.slice (some ⟨b,off,none⟩) m.gates.length gc):=A1.2.1 2;have hB2:Below w.heap.size w W1:=hB.out.trans (hB1.out.mono hB.out.size);have g1:W1.cell? ⟨b,off+g*4+1,none⟩=some (.int .i64 e0):=(hB2.cell (p:=⟨b,_,none⟩) h1).trans c1;have g2:b<W1.heap.size:=Nat.lt_of_lt_of_le h2 hB2.size;have hB2s:=hB2.size;have l1':=ζ (l1.out.mono hB1.out.size);replace hB2:=ζ hB2;clear A0 hB hB1 l1 A1 c1 hC;go_upto_region 4 with(go_at_call 54;refine(hR.out _ kc ka ((l1'.out.below ((Below.refl _ _).alloc (Nat.le_refl _) _)).mono (by simp)) _ _ (F.nin_one W1 e0) (fun h=>by cases h)).mono ?_;rintro r W2 ⟨gb,rfl,hgb,aB,hB3⟩;replace aB:=ζ aB;replace hB3:=ζ hB3)
 have hB4:Below w.heap.size w W2:=hB2.out.trans ((((Below.refl W1.heap.size W1).alloc (Nat.le_refl _) _).trans (hB3.out.mono (by simp))).mono hB2s);have l2:LIn W2.heap.size W2 ka L:=(((l1'.out.below ((Below.refl _ _).alloc (Nat.le_refl _) _)).mono (by simp)).below hB3.out).mono hB3.out.size;have ltb:=aB.out.1;have hlo:=hB4.size;replace hB4:=ζ hB4;replace l2:=ζ l2;clear k2 g1 g2 hB2 l1' hB3 hgb hR;go_loopw [6,22] (fun rv iv wr=>∃j:Nat,iv=.int .i64 j∧j≤L.length∧Hz (IOwn wr W2.heap.size rv ((((List.range j).filter (calB L e0)).map (imF L)).map (fun q:Nat=>(q:Int)))∧Below W2.heap.size W2 wr)) (fun _ iv _=>L.length - (intOf iv).toNat)
 case atStart=>exact⟨0,rfl,by omega,ζ ⟨⟨rfl,.inl ⟨rfl,rfl⟩⟩,Below.refl _ _⟩⟩
 case round=>
  obtain⟨j,rfl,hj,⟨h1,h2⟩⟩:=hrel;by_cases hlt:j<L.length
  ·have hi1:(j:Int)<L.length:=by omega
   have hst:=calB_step L e0 j;have hle:=calK_len L e0 j;have hzb:=(h2.cell (p:=⟨gb,j,none⟩) ltb).trans (bool_at aB.out j hlt);have hij:IntKind.i64.wrap ((j:Int)+1)=((j+1:Nat):Int):=by rw[IntKind.wrap_i64];omega
   have hij2:wrap64 ((j:Int)+1)=((j+1:Nat):Int):=by unfold wrap64;omega
   have hgl:gb<wr.heap.size:=Nat.lt_of_lt_of_le ltb h2.size;obtain⟨bb,oo,rfl,_,hbb,five⟩:=l2.out j hlt;have hbr:bb<wr.heap.size:=Nat.lt_of_lt_of_le hbb h2.size;have f0:=(h2.cell (p:=⟨bb,_,none⟩) hbb).trans five.1;have f4:=(h2.cell (p:=⟨bb,_,none⟩) hbb).trans five.2.2.2.2;have heg:L[j]?=some L[j]:=List.getElem?_eq_getElem hlt;have hsz:=h2.size;clear five
   cases hr:rchB L [e0] (-1) j with
   |false=>
    have hcb:calB L e0 j=false:=by unfold calB;rw[hr];rfl
    rw[hr]at hzb;rw[hcb,if_neg Bool.false_ne_true,List.append_nil]at hst;rw[←hst]at h1;generalize L[j]=ins at*;have hnew:=ζ (And.intro h1 h2);replace hok:=hok;replace h1:=ζ h1;replace h2:=ζ h2;replace hst:=ζ hst;replace heg:=ζ heg;replace hr:=ζ hr;replace hcb:=ζ hcb;replace hle:=ζ hle;go_wp2_with fail;clear hij hij2;go_roundw
    case rel=>exact⟨j+1,by simp,by omega,hnew⟩
    case measure=>simp only[intOf];omega
   |true=>
    rw[hr]at hzb;by_cases ho:L[j].op=31
    ·have hcb:calB L e0 j=true:=by unfold calB;rw[hr,heg];show(true&&L[j].op==31)=true;rw[ho];rfl
     have him:imF L j=L[j].m.toNat:=by unfold imF;rw[heg]
     have hmm:L[j].m=(L[j].m.toNat:Int):=by
      have:=hok.out L[j] (List.getElem_mem hlt) ho;omega
     rw[hcb,if_pos rfl,him]at hst;rw[ho]at f0;rw[hmm]at f4;generalize L[j].m.toNat=mm at*;obtain⟨va,vc,rfl⟩:=own_slice h1;have hlk:=fun k r=>(World.ownsRow.lt h1 k r).1
     have hll:((((List.range j).filter (calB L e0)).map (imF L)).map (fun q:Nat=>(q:Int))).length≤j:=by rw[List.length_map];exact hle
     have hs2:(((List.range (j+1)).filter (calB L e0)).map (imF L)).map (fun q:Nat=>(q:Int))=(((List.range j).filter (calB L e0)).map (imF L)).map (fun q:Nat=>(q:Int))++[(mm:Int)]:=by rw[hst,List.map_append];rfl
     generalize (((List.range j).filter (calB L e0)).map (imF L)).map (fun q:Nat=>(q:Int))=l at*;have hrow:=fun W (q:Below wr.heap.size wr W)=>(show IOwn W W2.heap.size (.slice va l.length vc) l from own_below h1 q)
     clear hmm him ho;replace hrow:=ζ hrow;replace h1:=ζ h1;replace h2:=ζ h2;replace hst:=ζ hst;replace hs2:=ζ hs2;replace heg:=ζ heg;replace hr:=ζ hr;replace hcb:=ζ hcb;replace hlk:=ζ hlk;replace hle:=ζ hle;have hWl:=hrow.out _ ((Below.refl _ _).alloc (Nat.le_refl _) (.cells #[.int .i64 (mm:Int)] 3));have hWl:=ζ hWl;have hl8:l.length≤8000000:=by clear hij hij2;omega
     have hbs:W2.heap.size≤(wr.alloc (Obj.cells #[Value.int IntKind.i64 (mm:Int)] 3)).heap.size:=Nat.le_trans hsz (by simp);go_wp2_with(at_builtin;refine F.wpList_append_int rfl (.tmp 36) (.tmp 42) rfl W2.heap.size (.slice va l.length vc) l (mm:Int) rfl hWl.out wr.heap.size rfl (At.new wr _ _) hl8 hbs ?_;intro gn cap w2 g1 g2 g3 g4;replace g2:=ζ g2;replace g1:=ζ g1);have hnew:Hz (IOwn w2 W2.heap.size (.slice (some ⟨gn,0,none⟩) (l.length+1) cap) ((((List.range (j+1)).filter (calB L e0)).map (imF L)).map (fun q:Nat=>(q:Int)))∧Below W2.heap.size W2 w2):=ζ ⟨by rw[hs2.out];exact g1.out,(h2.out.trans ((Below.refl _ _).alloc hsz _)).trans (Below.of_grown g2.out hbs (fun k r=>hlk.out k r))⟩;clear hij hij2;go_roundw
     case rel=>exact⟨j+1,by simp,by omega,hnew⟩
     case measure=>simp only[intOf];omega
    ·have hcb:calB L e0 j=false:=by unfold calB;rw[hr,heg];show(true&&L[j].op==31)=false;simpa using ho
     have e1:(L[j].op==31)=false:=by simpa using ho
     rw[hcb,if_neg Bool.false_ne_true,List.append_nil]at hst;rw[←hst]at h1;generalize L[j]=ins at*;have hnew:=ζ (And.intro h1 h2);replace h1:=ζ h1;replace h2:=ζ h2;replace hst:=ζ hst;replace heg:=ζ heg;replace hr:=ζ hr;replace hcb:=ζ hcb;replace hle:=ζ hle;clear ho;go_wp2_with fail;clear hij hij2;go_roundw
     case rel=>exact⟨j+1,by simp,by omega,hnew⟩
     case measure=>simp only[intOf];omega
  ·have hi1:¬(j:Int)<L.length:=by omega
   have hje:j=L.length:=by omega
   subst hje;rw[←hcl.out]at h1;obtain⟨va,vc,rfl⟩:=own_slice h1;have h1':=ζ h1;replace h2:=ζ h2;clear h1;go_wp2_with fail;go_ret;exact⟨.slice va cl.length vc,rfl,F.own_lower h1'.out hlo,hB4.out.trans (h2.out.mono hlo)⟩
def tupi:Option Int→Value
 |some v=>.tuple #[.int .i64 v,.bool true]
 |none=>.tuple #[.int .i64 0,.bool false]
def enci:Option Int→Value
 |some v=>.agg #[.int .i64 v,.bool true]
 |none=>.agg #[.int .i64 0,.bool false]
theorem hiti_some (p:Pl)(hp:p.qf=51)(n:Nat)(hn:n<4611686018427387904)(M:Nat→Option (Option Int))(nn:Nat)(v:Int)(hM:M n=some (some v))(w:World)(hR:Rem p enci w nn M)(Q:World→Prop)(hQ:∀w',Rem p enci w' nn M→Kp (fun k=>k=p.b) w w'→Q w'):
 Calls Tryz.prog p.qf #[.int .i64 n,pv p.kA,pv p.kF,pv p.kQ] w fun r w'=>r=.returned (tupi (some v))∧Q w':=by
 have hl0:(Instr.lookup 127 (.map (some p.b)) (.int .i64 n) true).run Tryz.prog w=.ok (.tuple #[.agg #[.int .i64 v,.bool true],.bool true]) w:=by
  have:=hR.m.look (t:=127) (e:=129) (by kernel_rfl) (z:=.agg #[.int .i64 0,.bool false]) (by kernel_rfl) n hn;rw[hM]at this;exact this
 have a0:w.cell? ⟨p.kA,0,none⟩=some (.map (some p.b)):=hR.a.2.1 0;have lta:=hR.a.1;replace hR:=ζ hR;clear hM hn;rw[hp];unfold pv tupi;go_enter Tryz.func51,Tryz.ntmps51;go_wp2_with fail;go_quiet (fail)
 all_goals
  go_wp2_with fail;refine bodyPost_ret (v:=.tuple #[.int .i64 v,.bool true]) (by simp[results,Tryz.results51,go_sem]) rfl ?_;refine⟨rfl,?_⟩;refine hQ _ (hR.out.below ?_) (Kp.of_below ?_)<;>exact Below.trans (Below.alloc (Below.refl _ _) (Nat.le_refl _) _) ((drewNb _ _).mono (by simp))
theorem hiti_none (p:Pl)(hp:p.qf=51)(n:Nat)(hn:n<4611686018427387904)(M:Nat→Option (Option Int))(nn:Nat)(hM:M n=some (none))(w:World)(hR:Rem p enci w nn M)(Q:World→Prop)(hQ:∀w',Rem p enci w' nn M→Kp (fun k=>k=p.b) w w'→Q w'):
 Calls Tryz.prog p.qf #[.int .i64 n,pv p.kA,pv p.kF,pv p.kQ] w fun r w'=>r=.returned (tupi (none))∧Q w':=by
 have hl0:(Instr.lookup 127 (.map (some p.b)) (.int .i64 n) true).run Tryz.prog w=.ok (.tuple #[.agg #[.int .i64 0,.bool false],.bool true]) w:=by
  have:=hR.m.look (t:=127) (e:=129) (by kernel_rfl) (z:=.agg #[.int .i64 0,.bool false]) (by kernel_rfl) n hn;rw[hM]at this;exact this
 have a0:w.cell? ⟨p.kA,0,none⟩=some (.map (some p.b)):=hR.a.2.1 0;have lta:=hR.a.1;replace hR:=ζ hR;clear hM hn;rw[hp];unfold pv tupi;go_enter Tryz.func51,Tryz.ntmps51;go_wp2_with fail;go_quiet (fail)
 all_goals
  go_wp2_with fail;refine bodyPost_ret (v:=.tuple #[.int .i64 0,.bool false]) (by simp[results,Tryz.results51,go_sem]) rfl ?_;refine⟨rfl,?_⟩;refine hQ _ (hR.out.below ?_) (Kp.of_below ?_)<;>exact Below.trans (Below.alloc (Below.refl _ _) (Nat.le_refl _) _) ((drewNb _ _).mono (by simp))
theorem missi_some (km:Nat)(p:Pl)(hp:p.qf=51)(hf:p.fv=.func (.func 24) #[] #[pv km])(nx:Nat→List Nat)(f:Nat→List Int→Option Int)(U:List Nat)(S:Nat→Prop)(n:Nat)(hn:n<4611686018427387904)(M:Nat→Option (Option Int))(nn:Nat)(v:Int)(hM:M n=none)(w:World)(hR:Rem p enci w nn M)(hnn:nn+1+2*left U (setM M n none)≤1000000)
 (hfd:∀W,Rem p enci W (nn+1) (setM M n none)→Kp (fun k=>k=p.b) w W→Calls Tryz.prog 24 (#[.int .i64 n,p.qv]++#[pv km]) W fun r w'=>r=.returned (tupi (some v))∧Aft p enci nx f U S (setM M n none) (nn+1) W w'):
 Calls Tryz.prog p.qf #[.int .i64 n,pv p.kA,pv p.kF,pv p.kQ] w fun r w'=>r=.returned (tupi (some v))∧∃M' nn',Rem p enci w' (nn'+1) (setM M' n (some v))∧Memo nx f U S M'∧More (setM M n none) M'∧nn'+2*left U M'≤nn+1+2*left U (setM M n none)∧Kp (fun k=>k=p.b) w w':=by
 have hl0:(Instr.lookup 127 (.map (some p.b)) (.int .i64 n) true).run Tryz.prog w=.ok (.tuple #[.agg #[.int .i64 0,.bool false],.bool false]) w:=by
  have:=hR.m.look (t:=127) (e:=129) (by kernel_rfl) (z:=.agg #[.int .i64 0,.bool false]) (by kernel_rfl) n hn;rw[hM]at this;exact this
 have a0:w.cell? ⟨p.kA,0,none⟩=some (.map (some p.b)):=hR.a.2.1 0;have lta:=hR.a.1;replace hR:=ζ hR;replace hfd:=ζ hfd;replace hf:=ζ hf;replace hnn:=ζ hnn;clear hM;rw[hp];unfold pv tupi;go_enter Tryz.func51,Tryz.ntmps51;go_upto_region 4 with fail
 refine wp_world (fun W=>Below w.heap.size w W) (by repeat(first|exact Below.refl _ _|refine Below.alloc ?_ (by simp<;>omega) _|refine Below.setCell ?_ (by simp<;>omega) _)) ?_;intro W hB;clear hl0 a0;have hR1:=hR.out.below hB;have a0:W.cell? ⟨p.kA,0,none⟩=some (.map (some p.b)):=hR1.a.2.1 0;have hm1:=ζ hR1.m;replace hR1:=ζ hR1;replace hB:=ζ hB;go_upto_region 5 with(at_mapUpdate;refine wpList_put rfl _ _ _ _ 129 rfl (by kernel_rfl) p.b nn enci M rfl hm1.out (by have:=hnn.out;unfold maxLen;omega) n hn none rfl rfl ?_;intro W2 hm2 hk2)
 clear a0;have hR2:=hR1.out.turn hk2 hm2;have a0:W2.cell? ⟨p.kA,0,none⟩=some (.map (some p.b)):=hR2.a.2.1 0;have f0:W2.cell? ⟨p.kF,0,none⟩=some p.fv:=hR2.f.2.1 0;have q0:W2.cell? ⟨p.kQ,0,none⟩=some p.qv:=hR2.q.2.1 0;rw[hf.out]at f0;have hkw:Kp (fun k=>k=p.b) w W2:=(Kp.of_below hB.out).trans hk2 (fun k q=>.inl q);have hc:=hfd.out W2 hR2 hkw;replace hc:Calls Tryz.prog 24 #[.int .i64 n,p.qv,.pointer (some ⟨km,0,none⟩)] W2 _:=hc;unfold tupi at hc;replace hkw:=ζ hkw;replace hR2:=ζ hR2;replace hc:=ζ hc;clear hm1 hm2 hk2 hR1;unfold pv at f0;go_upto_region 6 with(go_at_call 24;refine hc.out.mono ?_;rintro r W3 ⟨rfl,M',nn',hR3,hS3,hmo,hle,hk3⟩)
 clear a0 f0 q0;have a0:W3.cell? ⟨p.kA,0,none⟩=some (.map (some p.b)):=hR3.a.2.1 0;have hm3:=ζ hR3.m;replace hR3:=ζ hR3;replace hle:=ζ hle;replace hS3:=ζ hS3;replace hmo:=ζ hmo;replace hk3:=ζ (hkw.out.trans hk3 (fun k q=>.inl q));go_wp2_with(at_mapUpdate;refine wpList_put rfl _ _ _ _ 129 rfl (by kernel_rfl) p.b nn' enci M' rfl hm3.out (by have:=hnn.out;have:=hle.out;unfold maxLen;omega) n hn (some v) rfl rfl ?_;intro W4 hm4 hk4);refine bodyPost_ret (v:=.tuple #[.int .i64 v,.bool true]) (by simp[results,Tryz.results51,go_sem]) rfl ?_;exact⟨rfl,M',nn',hR3.out.turn hk4 hm4,hS3.out,hmo.out,hle.out,hk3.out.trans hk4 (fun k q=>.inl q)⟩
theorem missi_none (km:Nat)(p:Pl)(hp:p.qf=51)(hf:p.fv=.func (.func 24) #[] #[pv km])(nx:Nat→List Nat)(f:Nat→List Int→Option Int)(U:List Nat)(S:Nat→Prop)(n:Nat)(hn:n<4611686018427387904)(M:Nat→Option (Option Int))(nn:Nat)(hM:M n=none)(w:World)(hR:Rem p enci w nn M)(hnn:nn+1+2*left U (setM M n none)≤1000000)
 (hfd:∀W,Rem p enci W (nn+1) (setM M n none)→Kp (fun k=>k=p.b) w W→Calls Tryz.prog 24 (#[.int .i64 n,p.qv]++#[pv km]) W fun r w'=>r=.returned (tupi (none))∧Aft p enci nx f U S (setM M n none) (nn+1) W w'):
 Calls Tryz.prog p.qf #[.int .i64 n,pv p.kA,pv p.kF,pv p.kQ] w fun r w'=>r=.returned (tupi (none))∧∃M' nn',Rem p enci w' (nn'+1) (setM M' n (none))∧Memo nx f U S M'∧More (setM M n none) M'∧nn'+2*left U M'≤nn+1+2*left U (setM M n none)∧Kp (fun k=>k=p.b) w w':=by
 have hl0:(Instr.lookup 127 (.map (some p.b)) (.int .i64 n) true).run Tryz.prog w=.ok (.tuple #[.agg #[.int .i64 0,.bool false],.bool false]) w:=by
  have:=hR.m.look (t:=127) (e:=129) (by kernel_rfl) (z:=.agg #[.int .i64 0,.bool false]) (by kernel_rfl) n hn;rw[hM]at this;exact this
 have a0:w.cell? ⟨p.kA,0,none⟩=some (.map (some p.b)):=hR.a.2.1 0;have lta:=hR.a.1;replace hR:=ζ hR;replace hfd:=ζ hfd;replace hf:=ζ hf;replace hnn:=ζ hnn;clear hM;rw[hp];unfold pv tupi;go_enter Tryz.func51,Tryz.ntmps51;go_upto_region 4 with fail
 refine wp_world (fun W=>Below w.heap.size w W) (by repeat(first|exact Below.refl _ _|refine Below.alloc ?_ (by simp<;>omega) _|refine Below.setCell ?_ (by simp<;>omega) _)) ?_;intro W hB;clear hl0 a0;have hR1:=hR.out.below hB;have a0:W.cell? ⟨p.kA,0,none⟩=some (.map (some p.b)):=hR1.a.2.1 0;have hm1:=ζ hR1.m;replace hR1:=ζ hR1;replace hB:=ζ hB;go_upto_region 5 with(at_mapUpdate;refine wpList_put rfl _ _ _ _ 129 rfl (by kernel_rfl) p.b nn enci M rfl hm1.out (by have:=hnn.out;unfold maxLen;omega) n hn none rfl rfl ?_;intro W2 hm2 hk2)
 clear a0;have hR2:=hR1.out.turn hk2 hm2;have a0:W2.cell? ⟨p.kA,0,none⟩=some (.map (some p.b)):=hR2.a.2.1 0;have f0:W2.cell? ⟨p.kF,0,none⟩=some p.fv:=hR2.f.2.1 0;have q0:W2.cell? ⟨p.kQ,0,none⟩=some p.qv:=hR2.q.2.1 0;rw[hf.out]at f0;have hkw:Kp (fun k=>k=p.b) w W2:=(Kp.of_below hB.out).trans hk2 (fun k q=>.inl q);have hc:=hfd.out W2 hR2 hkw;replace hc:Calls Tryz.prog 24 #[.int .i64 n,p.qv,.pointer (some ⟨km,0,none⟩)] W2 _:=hc;unfold tupi at hc;replace hkw:=ζ hkw;replace hR2:=ζ hR2;replace hc:=ζ hc;clear hm1 hm2 hk2 hR1;unfold pv at f0;go_upto_region 6 with(go_at_call 24;refine hc.out.mono ?_;rintro r W3 ⟨rfl,M',nn',hR3,hS3,hmo,hle,hk3⟩)
 clear a0 f0 q0;have a0:W3.cell? ⟨p.kA,0,none⟩=some (.map (some p.b)):=hR3.a.2.1 0;have hm3:=ζ hR3.m;replace hR3:=ζ hR3;replace hle:=ζ hle;replace hS3:=ζ hS3;replace hmo:=ζ hmo;replace hk3:=ζ (hkw.out.trans hk3 (fun k q=>.inl q));go_wp2_with(at_mapUpdate;refine wpList_put rfl _ _ _ _ 129 rfl (by kernel_rfl) p.b nn' enci M' rfl hm3.out (by have:=hnn.out;have:=hle.out;unfold maxLen;omega) n hn (none) rfl rfl ?_;intro W4 hm4 hk4);refine bodyPost_ret (v:=.tuple #[.int .i64 0,.bool false]) (by simp[results,Tryz.results51,go_sem]) rfl ?_;exact⟨rfl,M',nn',hR3.out.turn hk4 hm4,hS3.out,hmo.out,hle.out,hk3.out.trans hk4 (fun k q=>.inl q)⟩
theorem hiti_any (p:Pl)(hp:p.qf=51)(n:Nat)(hn:n<4611686018427387904)(M:Nat→Option (Option Int))(nn:Nat)(e:Option Int)(hM:M n=some e)(w:World)(hR:Rem p enci w nn M)(Q:World→Prop)(hQ:∀w',Rem p enci w' nn M→Kp (fun k=>k=p.b) w w'→Q w'):
 Calls Tryz.prog p.qf #[.int .i64 n,pv p.kA,pv p.kF,pv p.kQ] w fun r w'=>r=.returned (tupi e)∧Q w':=by
 cases e with
 |some v=>exact hiti_some p hp n hn M nn v hM w hR Q hQ
 |none=>exact hiti_none p hp n hn M nn hM w hR Q hQ
theorem aski_any (km:Nat)(E:World→Prop)(p:Pl)(hp:p.qf=51)(hf:p.fv=.func (.func 24) #[] #[pv km])(hE:∀w w',E w→Kp (fun k=>k=p.b) w w'→E w')(nx:Nat→List Nat)(f:Nat→List Int→Option Int)(U:List Nat)(hU:∀n∈U,n<4611686018427387904)
 (hfind:∀d,AskC E p enci tupi nx f U d→FindC 24 #[pv km] E p enci tupi nx f U d):∀d,AskC E p enci tupi nx f U d:=by
 have hhit:∀(w:World) (n:Nat) (S:Nat→Prop) (M:Nat→Option (Option Int)) (nn:Nat) (e:Option Int),M n=some e→Rem p enci w nn M→Memo nx f U S M→(∀q,S q→Anc nx f q n)→n∈U→
  Calls Tryz.prog p.qf #[.int .i64 n,pv p.kA,pv p.kF,pv p.kQ] w fun r w'=>r=.returned (tupi (ev nx f U n))∧Aft p enci nx f U S M nn w w':=by
  intro w n S M nn e hM hR hS hA hn;rw[←hS.at_ hA hM];exact hiti_any p hp n (hU n hn) M nn e hM w hR _ (fun w' hR' hk=>⟨M,nn,hR',hS,More.refl M,Nat.le_refl _,hk⟩)
 intro d
 induction d with
 |zero=>
  intro w n S M nn hEw hR hS hA hn hl hb
  cases hM:M n with
  |some e=>exact hhit w n S M nn e hM hR hS hA hn
  |none=>exact absurd (left_set hn hM none) (by omega)
 |succ d ih=>
  intro w n S M nn hEw hR hS hA hn hl hb
  cases hM:M n with
  |some e=>exact hhit w n S M nn e hM hR hS hA hn
  |none=>
   have hlt:=left_set hn hM none;have hfd:=fun W (h2:Rem p enci W (nn+1) (setM M n none)) (h1:Kp (fun k=>k=p.b) w W)=>hfind d ih W n S (setM M n none) (nn+1) (hE w W hEw h1) h2 (hS.begin n) hA hn (by omega) (by omega)
   have hh:Calls Tryz.prog p.qf #[.int .i64 n,pv p.kA,pv p.kF,pv p.kQ] w fun r w'=>r=.returned (tupi (ev nx f U n))∧∃M' nn',Rem p enci w' (nn'+1) (setM M' n (ev nx f U n))∧Memo nx f U (fun x=>S x∨x=n) M'∧More (setM M n none) M'∧nn'+2*left U M'≤nn+1+2*left U (setM M n none)∧Kp (fun k=>k=p.b) w w':=by
    revert hfd
    cases ev nx f U n with
    |some v=>exact fun hfd=>missi_some km p hp hf nx f U _ n (hU n hn) M nn v hM w hR (by omega) hfd
    |none=>exact fun hfd=>missi_none km p hp hf nx f U _ n (hU n hn) M nn hM w hR (by omega) hfd
   refine hh.mono ?_;rintro r w' ⟨e1,M',nn',h1,h2,h3,h4,h5⟩;refine⟨e1,setM M' n (ev nx f U n),nn'+1,h1,h2.done _ rfl,((More.set M n none).trans h3).trans (More.set _ _ _),?_,h5⟩;have:=left_more (U:=U) (More.set M' n (ev nx f U n));omega
theorem remi_any (km:Nat)(w:World):
 Calls Tryz.prog 23 #[.func (.func 24) #[] #[.pointer (some ⟨km,0,none⟩)]] w fun e w'=>∃p:Pl,e=.returned p.qv∧p.qf=51∧p.fv=.func (.func 24) #[] #[pv km]∧Rem p enci w' 0 (fun _=>none)∧Below w.heap.size w w'∧w.heap.size≤p.b:=by
 have hmm:= @run_makeMap Tryz.prog;have b1:Below w.heap.size w (w.alloc (.cells #[.func (.func 24) #[] #[.pointer (some ⟨km,0,none⟩)]] 92)):=(Below.refl _ w).alloc (Nat.le_refl _) _;have b2:=b1.alloc b1.size (.map #[] 0);have b3:=b2.alloc b2.size (.cells #[.map (some (w.heap.size+1))] 127);have b4:=b3.alloc b3.size (.cells #[.nilFunc] 89);have aF:=(((At.new w #[.func (.func 24) #[] #[.pointer (some ⟨km,0,none⟩)]] 92).alloc (.map #[] 0)).alloc (.cells #[.map (some (w.heap.size+1))] 127)).alloc (.cells #[.nilFunc] 89);have aA:=(At.new ((w.alloc (.cells #[.func (.func 24) #[] #[.pointer (some ⟨km,0,none⟩)]] 92)).alloc (.map #[] 0)) #[.map (some (w.heap.size+1))] 127).alloc (.cells #[.nilFunc] 89);have aQ:=At.new (((w.alloc (.cells #[.func (.func 24) #[] #[.pointer (some ⟨km,0,none⟩)]] 92)).alloc (.map #[] 0)).alloc (.cells #[.map (some (w.heap.size+1))] 127)) #[.nilFunc] 89;have aM:MpIn ((((w.alloc (.cells #[.func (.func 24) #[] #[.pointer (some ⟨km,0,none⟩)]] 92)).alloc (.map #[] 0)).alloc (.cells #[.map (some (w.heap.size+1))] 127)).alloc (.cells #[.nilFunc] 89)) (w.heap.size+1) 0 enci (fun _=>none):=by
  have m0:=mp_made (w.alloc (.cells #[.func (.func 24) #[] #[.pointer (some ⟨km,0,none⟩)]] 92)) enci;have e:(w.alloc (.cells #[.func (.func 24) #[] #[.pointer (some ⟨km,0,none⟩)]] 92)).heap.size=w.heap.size+1:=by simp
  rw[e]at m0;exact(m0.below ((Below.refl _ _).alloc (Nat.le_refl _) _)).below ((Below.refl _ _).alloc (Nat.le_refl _) _)
 have e2:((w.alloc (.cells #[.func (.func 24) #[] #[.pointer (some ⟨km,0,none⟩)]] 92)).alloc (.map #[] 0)).heap.size=w.heap.size+1+1:=by simp
 have e3:(((w.alloc (.cells #[.func (.func 24) #[] #[.pointer (some ⟨km,0,none⟩)]] 92)).alloc (.map #[] 0)).alloc (.cells #[.map (some (w.heap.size+1))] 127)).heap.size=w.heap.size+1+1+1:=by simp
 rw[e2]at aA;rw[e3]at aQ;replace aM:=ζ aM;replace aA:=ζ aA;replace aQ:=ζ aQ;replace aF:=ζ aF;replace b4:=ζ b4;clear b1 b2 b3 e2 e3;go_enter Tryz.func23,Tryz.ntmps23;go_upto_region 3 with fail
 refine wp_world (fun W=>At W w.heap.size #[.func (.func 24) #[] #[.pointer (some ⟨km,0,none⟩)]]∧At W (w.heap.size+1+1) #[.map (some (w.heap.size+1))]∧At W (w.heap.size+1+1+1) #[.nilFunc]∧MpIn W (w.heap.size+1) 0 enci (fun _=>none)∧Below w.heap.size w W) ⟨aF.out,aA.out,aQ.out,aM.out,b4.out⟩ ?_;clear aF aA aQ aM b4 hmm;rintro W ⟨aF,aA,aQ,aM,hB⟩;have⟨l3,p3,f3⟩:=aQ;have hk:=kp_sets W (w.heap.size+1+1+1) [.func (.func 51) #[] #[.pointer (some ⟨w.heap.size+1+1,0,none⟩),.pointer (some ⟨w.heap.size,0,none⟩),.pointer (some ⟨w.heap.size+1+1+1,0,none⟩)]] 0;have hfin:=ζ (At.setAll (cs:=[.nilFunc]) aQ [.func (.func 51) #[] #[.pointer (some ⟨w.heap.size+1+1,0,none⟩),.pointer (some ⟨w.heap.size,0,none⟩),.pointer (some ⟨w.heap.size+1+1+1,0,none⟩)]] rfl);have gF:=ζ (at_keep aF hk (by omega));have gA:=ζ (at_keep aA hk (by omega));have gM:=ζ (aM.keep hk (by omega));have gB:=ζ (hB.trans (hk.below hB.size (fun k q=>by omega)))
 clear hk aF aA aM;replace hB:=ζ hB;have hmf:∀(fn:Fn) (first cap:Array Value) (w:World),(Instr.makeFunc fn first cap).run Tryz.prog w=.ok (.func fn first cap) w:=fun _ _ _ _=>rfl
 go_wp2_with fail;have⟨_,q3,_⟩:=hfin.out;go_ret;exact⟨⟨w.heap.size+1+1,w.heap.size,w.heap.size+1+1+1,w.heap.size+1,.func (.func 24) #[] #[.pointer (some ⟨km,0,none⟩)],51⟩,rfl,rfl,rfl,⟨gA.out,gF.out,hfin.out,gM.out⟩,gB.out,by show w.heap.size≤w.heap.size+1;omega⟩
end Bd
end Go.Proofs.YthlpjlnehonpdaaGreatDoor
