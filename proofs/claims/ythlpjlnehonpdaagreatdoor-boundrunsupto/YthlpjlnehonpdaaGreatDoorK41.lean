import Derived.Test.YthlpjlnehonpdaaGreatDoorK40
namespace Go.Proofs.YthlpjlnehonpdaaGreatDoor
set_option maxRecDepth 100000
set_option maxHeartbeats 40000000
namespace Bd
open Go.RowKit
open T (Kp)
theorem findc_any (B km:Nat)(m:PImg)(ra:Option Addr)(rc:Nat)(ca:Option Addr)(cc:Nat)(ga:Option Addr)(gc:Nat)(hok:BOk m)(p:Pl)(hp:p.qf=32)(hbB:B≤p.b)(hkm:km≠p.b)(d:Nat):
 AskC (IEnv B km m ra rc ca cc ga gc) p encc tupc (nxG m) (ctF m) (List.range m.gates.length) d→FindC 17 #[pv km] (IEnv B km m ra rc ca cc ga gc) p encc tupc (nxG m) (ctF m) (List.range m.gates.length) d:=by
 intro hask w n S M nn hE hR hS hA hm hl hb;have hD:=fun W (q:Below w.heap.size w W)=>costOf_any B km m ra rc ca cc ga gc hok p hp hbB hkm d hask W n S M nn (hE.below q) (hR.below q) hS hA hm hl hb
 have hqv:p.qv=.func (.func 32) #[] #[.pointer (some ⟨p.kA,0,none⟩),.pointer (some ⟨p.kF,0,none⟩),.pointer (some ⟨p.kQ,0,none⟩)]:=by unfold Pl.qv pv;rw[hp]
 show Calls Tryz.prog 17 #[.int .i64 n,p.qv,.pointer (some ⟨km,0,none⟩)] w _;rw[hqv]at hD ⊢;have KI:∀W,Below w.heap.size w W→W.cell? ⟨km,0,none⟩=some (.slice ra m.regs.length rc)∧W.cell? ⟨km,1,none⟩=some (.slice ca m.comps.length cc)∧W.cell? ⟨km,2,none⟩=some (.slice ga m.gates.length gc)∧W.cell? ⟨km,3,none⟩=some (.int .i64 m.depth):=fun W q=>by
  have a:=(hE.below q).i.2.1;exact⟨a 0,a 1,a 2,a 3⟩
 unfold imA at hD;have hpb:=hR.m.lt;have hR0:=ζ hR;have hst:∀W,Below w.heap.size w W→Kp (fun k=>k=p.b) w W:=fun W q=>Kp.of_below q
 clear hask hE hR hS hA hm hl hb hqv hok;generalize ev (nxG m) (ctF m) (List.range m.gates.length) n=res at*;generalize List.range m.gates.length=U at*;replace hD:=ζ hD;replace KI:=ζ KI;replace hst:=ζ hst;go_enter Tryz.func17,Tryz.ntmps17;go_upto_region 1 with fail
 refine wp_world (fun W=>At W w.heap.size #[.bool false,.int .u64 0,.int .u64 0,.int .u64 0]∧Below w.heap.size w W) ⟨At.new w _ _,(Below.refl _ _).alloc (Nat.le_refl _) _⟩ ?_;rintro W ⟨A0,hB⟩;obtain⟨k0,k1,k2,k3⟩:=KI.out W hB;have hcl:=hD.out W hB;have hne:w.heap.size≠p.b:=by omega
 replace A0:=ζ A0;replace hB:=ζ hB
 cases res with
 |some v=>
  unfold tupc at hcl;replace hcl:=ζ hcl;go_wp2_with(go_at_call 18;refine hcl.out.mono ?_;rintro r W2 ⟨rfl,g⟩;have gk:=(show Kp (fun k=>k=p.b) W W2 by{obtain⟨_,_,_,_,_,_,q⟩:=g;exact q});have A2:=at_keep A0.out gk (by omega);have⟨zl,zp,zf⟩:=A2;have hfin:=ζ (At.setAll (cs:=[Value.bool false,.int .u64 0,.int .u64 0,.int .u64 0]) A2 [Value.bool true,.int .u64 v.s,.int .u64 v.c,.int .u64 v.i] rfl);have hkf:=ζ (kp_sets W2 w.heap.size [Value.bool true,.int .u64 v.s,.int .u64 v.c,.int .u64 v.i] 0);clear A2;replace g:=ζ g;replace gk:=ζ gk);have⟨_,q4,_⟩:=hfin.out;simp only[World.setCells]at q4;refine bodyPost_ret (v:=.tuple #[.agg #[.bool true,.int .u64 v.s,.int .u64 v.c,.int .u64 v.i],.bool true]) (by simp[results,Tryz.results17,go_sem,q4]) rfl ?_;refine⟨rfl,?_⟩;obtain⟨M',nn',r1,r2,r3,r4,r5⟩:=g.out;exact⟨M',nn',r1.above hR0.out hkf.out (fun k q=>by omega),r2,r3,r4,((hst.out W hB.out).trans r5 (fun k q=>.inl q)).trans hkf.out (fun k q=>.inr (by omega))⟩
 |none=>
  unfold tupc at hcl;replace hcl:=ζ hcl;go_wp2_with(go_at_call 18;refine hcl.out.mono ?_;rintro r W2 ⟨rfl,g⟩;have gk:=(show Kp (fun k=>k=p.b) W W2 by{obtain⟨_,_,_,_,_,_,q⟩:=g;exact q});have A2:=at_keep A0.out gk (by omega);have⟨zl,zp,zf⟩:=A2;have hfin:=ζ (At.setAll (cs:=[Value.bool false,.int .u64 0,.int .u64 0,.int .u64 0]) A2 [Value.bool false,.int .u64 0,.int .u64 0,.int .u64 0] rfl);have hkf:=ζ (kp_sets W2 w.heap.size [Value.bool false,.int .u64 0,.int .u64 0,.int .u64 0] 0);clear A2;replace g:=ζ g;replace gk:=ζ gk);have⟨_,q4,_⟩:=hfin.out;simp only[World.setCells]at q4;refine bodyPost_ret (v:=.tuple #[.agg #[.bool false,.int .u64 0,.int .u64 0,.int .u64 0],.bool false]) (by simp[results,Tryz.results17,go_sem,q4]) rfl ?_;refine⟨rfl,?_⟩;obtain⟨M',nn',r1,r2,r3,r4,r5⟩:=g.out;exact⟨M',nn',r1.above hR0.out hkf.out (fun k q=>by omega),r2,r3,r4,((hst.out W hB.out).trans r5 (fun k q=>.inl q)).trans hkf.out (fun k q=>.inr (by omega))⟩
def hgB (m:PImg)(g:Int):Bool:=decide (m.right=0)&&(decide (0≤g)&&decide (g<m.gates.length))
theorem hasGate_any (m:PImg)(ra ca ga:Option Addr)(rc cc gc:Nat)(g:Int)(w:World)(ht:TabIn w)(hm:ImgIn w.heap.size w ra ca ga m)(hr:m.Rng):
 Calls Tryz.prog 15 #[imA m ra rc ca cc ga gc,.int .i64 g] w fun e w'=>e=.returned (.bool (hgB m g))∧Below w.heap.size w w':=by
 have hR:=ζ (fun W (q:Gr w W)=>imgRight_any m ra ca ga rc cc gc W (ht.gr q) ((hm.below q.below).mono q.below.size) hr);unfold imA hgB;clear hm hr ht;generalize hq:m.right=e0 at*;clear hq;by_cases h0:e0=0
 ·subst h0;by_cases h1:0≤g
  ·by_cases h2:g<(m.gates.length:Int)
   ·rw[decide_eq_true h1,decide_eq_true h2];go_enter Tryz.func15,Tryz.ntmps15;go_wp2_with(go_at_call 19;refine(hR.out _ ((Gr.refl _).alloc _)).mono ?_;rintro r W1 ⟨rfl,g1⟩;have A1:=(At.new w #[.slice ra m.regs.length rc,.slice ca m.comps.length cc,.slice ga m.gates.length gc,.int .i64 m.depth] 40).gr g1;have a2:W1.cell? ⟨w.heap.size,2,none⟩=some (.slice ga m.gates.length gc):=A1.2.1 2;replace g1:=ζ g1;clear A1);go_ret;exact⟨rfl,(bl_alloc _ _).trans (g1.out.below.mono (by simp))⟩
   ·rw[decide_eq_true h1];have h3:(m.gates.length:Int)≤g:=by omega
    go_enter Tryz.func15,Tryz.ntmps15;go_wp2_with(go_at_call 19;refine(hR.out _ ((Gr.refl _).alloc _)).mono ?_;rintro r W1 ⟨rfl,g1⟩;have A1:=(At.new w #[.slice ra m.regs.length rc,.slice ca m.comps.length cc,.slice ga m.gates.length gc,.int .i64 m.depth] 40).gr g1;have a2:W1.cell? ⟨w.heap.size,2,none⟩=some (.slice ga m.gates.length gc):=A1.2.1 2;replace g1:=ζ g1;clear A1);go_ret;exact⟨by simp,(bl_alloc _ _).trans (g1.out.below.mono (by simp))⟩
  ·rw[decide_eq_false h1];have h3:g<0:=by omega
   have h4:decide ((0:Int)≤g)=false:=decide_eq_false h1;go_enter Tryz.func15,Tryz.ntmps15;go_wp2_with(go_at_call 19;refine(hR.out _ ((Gr.refl _).alloc _)).mono ?_;rintro r W1 ⟨rfl,g1⟩;have A1:=(At.new w #[.slice ra m.regs.length rc,.slice ca m.comps.length cc,.slice ga m.gates.length gc,.int .i64 m.depth] 40).gr g1;have a2:W1.cell? ⟨w.heap.size,2,none⟩=some (.slice ga m.gates.length gc):=A1.2.1 2;replace g1:=ζ g1;clear A1);go_ret;exact⟨rfl,(bl_alloc _ _).trans (g1.out.below.mono (by simp))⟩
 ·have h3:(e0==0)=false:=by simpa using h0
  rw[decide_eq_false h0];go_enter Tryz.func15,Tryz.ntmps15;go_wp2_with(go_at_call 19;refine(hR.out _ ((Gr.refl _).alloc _)).mono ?_;rintro r W1 ⟨rfl,g1⟩;have A1:=(At.new w #[.slice ra m.regs.length rc,.slice ca m.comps.length cc,.slice ga m.gates.length gc,.int .i64 m.depth] 40).gr g1;have a2:W1.cell? ⟨w.heap.size,2,none⟩=some (.slice ga m.gates.length gc):=A1.2.1 2;replace g1:=ζ g1;clear A1);go_ret;exact⟨rfl,(bl_alloc _ _).trans (g1.out.below.mono (by simp))⟩
theorem Deep_any (m:PImg)(ra ca ga:Option Addr)(rc cc gc:Nat)(g:Int)(w:World)(ht:TabIn w)(hm:ImgIn w.heap.size w ra ca ga m)(hr:m.Rng):
 Calls Tryz.prog 11 #[imA m ra rc ca cc ga gc,.int .i64 g] w fun e w'=>e=.returned (tupi (if hgB m g=true then ev (nxG m) dpF (List.range m.gates.length) g.toNat else none))∧Below w.heap.size w w':=by
 have hH:=ζ (fun W (q:Below w.heap.size w W) (t:TabIn W)=>hasGate_any m ra ca ga rc cc gc g W t ((hm.below q).mono q.size) hr);have hT:=fun W (q:Below w.heap.size w W)=>ht.below q ht.size
 cases hh:hgB m g with
 |false=>
  rw[if_neg Bool.false_ne_true];rw[hh]at hH;unfold imA at*;clear hm hr ht;unfold tupi;go_enter Tryz.func11,Tryz.ntmps11;go_upto_region 1 with fail
  refine wp_world (fun W=>At W w.heap.size #[.slice ra m.regs.length rc,.slice ca m.comps.length cc,.slice ga m.gates.length gc,.int .i64 m.depth]∧Below w.heap.size w W) ⟨At.new w _ _,bl_alloc _ _⟩ ?_;rintro W ⟨A0,hB⟩;have a0:=A0.2.1;have k0:W.cell? ⟨w.heap.size,0,none⟩=some (.slice ra m.regs.length rc):=a0 0;have k1:W.cell? ⟨w.heap.size,1,none⟩=some (.slice ca m.comps.length cc):=a0 1;have k2:W.cell? ⟨w.heap.size,2,none⟩=some (.slice ga m.gates.length gc):=a0 2;have k3:W.cell? ⟨w.heap.size,3,none⟩=some (.int .i64 m.depth):=a0 3;have hcl:=ζ (hH.out W hB (hT W hB));replace hT:=ζ hT;replace A0:=ζ A0;replace hB:=ζ hB;clear a0;go_wp2_with(go_at_call 15;refine hcl.out.mono ?_;rintro r W1 ⟨rfl,g1⟩;replace g1:=ζ g1);refine bodyPost_ret (v:=.tuple #[.int .i64 0,.bool false]) (by simp[results,Tryz.results11,go_sem]) rfl ?_;exact⟨rfl,hB.out.trans (g1.out.mono hB.out.size)⟩
 |true=>
  rw[if_pos rfl];rw[hh]at hH;have hg0:m.right=0∧0≤g∧g<m.gates.length:=by simpa [hgB]using hh
  have hok:=bok_of m hg0.1;obtain⟨gn,rfl⟩:∃gn:Nat,g=(gn:Int):=⟨g.toNat,by omega⟩;rw[Int.toNat_natCast];have hgl:=hok.gl;have hask:∀(W W1:World) (p:Pl),Below w.heap.size w W→At W w.heap.size #[.slice ra m.regs.length rc,.slice ca m.comps.length cc,.slice ga m.gates.length gc,.int .i64 m.depth]→p.qf=51→p.fv=.func (.func 24) #[] #[pv w.heap.size]→Rem p enci W1 0 (fun _=>none)→Below W.heap.size W W1→W.heap.size≤p.b→
   Calls Tryz.prog 51 #[.int .i64 gn,.pointer (some ⟨p.kA,0,none⟩),.pointer (some ⟨p.kF,0,none⟩),.pointer (some ⟨p.kQ,0,none⟩)] W1 fun r w'=>r=.returned (tupi (ev (nxG m) dpF (List.range m.gates.length) gn))∧Below w.heap.size w w':=by
   intro W W1 p hB aT hp hf hR hB1 hpb;have n1:w.heap.size≠p.b:=by have:=aT.1;omega
   have n3:w.heap.size≤p.b:=by have:=hB.size;omega
   have h2:=hB.trans (hB1.mono hB.size);have hE1:IEnv w.heap.size w.heap.size m ra rc ca cc ga gc W1:=⟨at_past aT hB1,hm.below h2,h2.size⟩;have hA:=aski_any w.heap.size (IEnv w.heap.size w.heap.size m ra rc ca cc ga gc) p hp hf (fun X X' e q=>e.keep q n3 n1) (nxG m) dpF (List.range m.gates.length) (fun x hx=>by rw[List.mem_range]at hx;omega)
    (fun d=>findi_any w.heap.size w.heap.size m ra rc ca cc ga gc hok p hp n3 n1 d) m.gates.length
   have h:=hA W1 gn (fun _=>False) (fun _=>none) 0 hE1 hR (memo_none _ _ _) (fun _ h=>h.elim) (List.mem_range.2 (by omega)) (by rw[left_all,List.length_range];exact Nat.le_refl _) (by rw[left_all,List.length_range];omega);rw[hp]at h;refine h.mono ?_;rintro r w' ⟨e1,M',nn',g1,g2,g3,g4,g5⟩;exact⟨e1,h2.trans (g5.below h2.size (fun k q=>by omega))⟩
  have hmf:∀(fn:Fn) (first cap:Array Value) (w:World),(Instr.makeFunc fn first cap).run Tryz.prog w=.ok (.func fn first cap) w:=fun _ _ _ _=>rfl
  have hRm:=ζ (fun W=>remi_any w.heap.size W);generalize ev (nxG m) dpF (List.range m.gates.length) gn=res at*;replace hask:=ζ hask;unfold imA pv at*;clear hm hr ht hok hg0 hgl hh;go_enter Tryz.func11,Tryz.ntmps11;go_upto_region 1 with fail
  refine wp_world (fun W=>At W w.heap.size #[.slice ra m.regs.length rc,.slice ca m.comps.length cc,.slice ga m.gates.length gc,.int .i64 m.depth]∧Below w.heap.size w W) ⟨At.new w _ _,bl_alloc _ _⟩ ?_;rintro W ⟨A0,hB⟩;have a0:=A0.2.1;have k0:W.cell? ⟨w.heap.size,0,none⟩=some (.slice ra m.regs.length rc):=a0 0;have k1:W.cell? ⟨w.heap.size,1,none⟩=some (.slice ca m.comps.length cc):=a0 1;have k2:W.cell? ⟨w.heap.size,2,none⟩=some (.slice ga m.gates.length gc):=a0 2;have k3:W.cell? ⟨w.heap.size,3,none⟩=some (.int .i64 m.depth):=a0 3;have hcl:=ζ (hH.out W hB (hT W hB));replace hT:=ζ hT;replace A0:=ζ A0;replace hB:=ζ hB;clear a0 hH;go_upto_region 3 with(go_at_call 15;refine hcl.out.mono ?_;rintro r W1 ⟨rfl,g1⟩;replace g1:=ζ g1)
  have A1:=ζ (at_past A0.out g1.out);have hB1:=ζ (hB.out.trans (g1.out.mono hB.out.size));clear k0 k1 k2 k3 hcl;go_upto_region 4 with(go_at_call 23;refine(hRm.out _).mono ?_;rintro r W2 ⟨p,rfl,hp,hf,hR,hB2,hpb⟩;have hqv:p.qv=.func (.func 51) #[] #[.pointer (some ⟨p.kA,0,none⟩),.pointer (some ⟨p.kF,0,none⟩),.pointer (some ⟨p.kQ,0,none⟩)]:=(by unfold Pl.qv pv;rw[hp]);rw[hqv];have hcl:=ζ (hask.out W1 W2 p hB1.out A1.out hp hf hR hB2 hpb);clear hqv hp hf hR hB2 hpb)
  cases res with
  |some v=>
   unfold tupi at hcl;go_wp2_with(go_at_call 51;refine hcl.out.mono ?_;rintro r W3 ⟨rfl,g3⟩;replace g3:=ζ g3);refine bodyPost_ret (v:=.tuple #[.int .i64 v,.bool true]) (by simp[results,Tryz.results11,go_sem]) rfl ?_;exact⟨rfl,g3.out⟩
  |none=>
   unfold tupi at hcl;go_wp2_with(go_at_call 51;refine hcl.out.mono ?_;rintro r W3 ⟨rfl,g3⟩;replace g3:=ζ g3);refine bodyPost_ret (v:=.tuple #[.int .i64 0,.bool false]) (by simp[results,Tryz.results11,go_sem]) rfl ?_;exact⟨rfl,g3.out⟩
def gtV:Option Cst→Value
 |some v=>.agg #[.bool true,.int .u64 v.s,.int .u64 v.c,.int .u64 v.i]
 |none=>.agg #[.bool false,.int .u64 0,.int .u64 0,.int .u64 0]
theorem Gate_any (m:PImg)(ra ca ga:Option Addr)(rc cc gc:Nat)(g:Int)(w:World)(ht:TabIn w)(hm:ImgIn w.heap.size w ra ca ga m)(hr:m.Rng):
 Calls Tryz.prog 8 #[imA m ra rc ca cc ga gc,.int .i64 g] w fun e w'=>e=.returned (gtV (if hgB m g=true then ev (nxG m) (ctF m) (List.range m.gates.length) g.toNat else none))∧Below w.heap.size w w':=by
 have hH:=ζ (fun W (q:Below w.heap.size w W) (t:TabIn W)=>hasGate_any m ra ca ga rc cc gc g W t ((hm.below q).mono q.size) hr);have hT:=fun W (q:Below w.heap.size w W)=>ht.below q ht.size
 cases hh:hgB m g with
 |false=>
  rw[if_neg Bool.false_ne_true];rw[hh]at hH;unfold imA at*;clear hm hr ht;unfold gtV;go_enter Tryz.func8,Tryz.ntmps8;go_upto_region 1 with fail
  refine wp_world (fun W=>At W w.heap.size #[.slice ra m.regs.length rc,.slice ca m.comps.length cc,.slice ga m.gates.length gc,.int .i64 m.depth]∧At W (w.heap.size+1) #[.bool false,.int .u64 0,.int .u64 0,.int .u64 0]∧Below w.heap.size w W) ⟨at_past (At.new w _ _) (bl_alloc _ _),At.next w _ _ _,(bl_alloc _ _).trans ((bl_alloc _ _).mono (by simp))⟩ ?_;rintro W ⟨A0,B0,hB⟩;have a0:=A0.2.1;have k0:W.cell? ⟨w.heap.size,0,none⟩=some (.slice ra m.regs.length rc):=a0 0;have k1:W.cell? ⟨w.heap.size,1,none⟩=some (.slice ca m.comps.length cc):=a0 1;have k2:W.cell? ⟨w.heap.size,2,none⟩=some (.slice ga m.gates.length gc):=a0 2;have k3:W.cell? ⟨w.heap.size,3,none⟩=some (.int .i64 m.depth):=a0 3;have hcl:=ζ (hH.out W hB (hT W hB));replace hT:=ζ hT;replace A0:=ζ A0;replace B0:=ζ B0;have hws:=hB.size;replace hB:=ζ hB;clear a0;go_wp2_with(go_at_call 15;refine hcl.out.mono ?_;rintro r W1 ⟨rfl,g1⟩;have A2:=at_past B0.out g1;have⟨zl,zp,zf⟩:=A2;have hfin:=ζ (At.setAll (cs:=[Value.bool false,.int .u64 0,.int .u64 0,.int .u64 0]) A2 [Value.bool false,.int .u64 0,.int .u64 0,.int .u64 0] rfl);have hkf:=ζ ((kp_sets W1 (w.heap.size+1) [Value.bool false,.int .u64 0,.int .u64 0,.int .u64 0] 0).below (B:=w.heap.size) (by have:=g1.size;omega) (fun k q=>by omega));clear A2;replace g1:=ζ g1)
  have⟨_,q4,_⟩:=hfin.out;simp only[World.setCells]at q4;refine bodyPost_ret (v:=.agg #[.bool false,.int .u64 0,.int .u64 0,.int .u64 0]) (by simp[results,Tryz.results8,go_sem,q4]) rfl ?_;exact⟨rfl,(hB.out.trans (g1.out.mono hB.out.size)).trans hkf.out⟩
 |true=>
  rw[if_pos rfl];rw[hh]at hH;have hg0:m.right=0∧0≤g∧g<m.gates.length:=by simpa [hgB]using hh
  have hok:=bok_of m hg0.1;obtain⟨gn,rfl⟩:∃gn:Nat,g=(gn:Int):=⟨g.toNat,by omega⟩;rw[Int.toNat_natCast];have hgl:=hok.gl;have hask:∀(W W1:World) (p:Pl),Below w.heap.size w W→At W w.heap.size #[.slice ra m.regs.length rc,.slice ca m.comps.length cc,.slice ga m.gates.length gc,.int .i64 m.depth]→At W (w.heap.size+1) #[.bool false,.int .u64 0,.int .u64 0,.int .u64 0]→p.qf=32→p.fv=.func (.func 17) #[] #[pv w.heap.size]→Rem p encc W1 0 (fun _=>none)→Below W.heap.size W W1→W.heap.size≤p.b→
   Calls Tryz.prog 32 #[.int .i64 gn,.pointer (some ⟨p.kA,0,none⟩),.pointer (some ⟨p.kF,0,none⟩),.pointer (some ⟨p.kQ,0,none⟩)] W1 fun r w'=>r=.returned (tupc (ev (nxG m) (ctF m) (List.range m.gates.length) gn))∧Below w.heap.size w w'∧At w' (w.heap.size+1) #[.bool false,.int .u64 0,.int .u64 0,.int .u64 0]:=by
   intro W W1 p hB aT bT hp hf hR hB1 hpb;have n1:w.heap.size≠p.b:=by have:=aT.1;omega
   have n2:w.heap.size+1≠p.b:=by have:=bT.1;omega
   have n3:w.heap.size≤p.b:=by have:=hB.size;omega
   have h2:=hB.trans (hB1.mono hB.size);have hE1:IEnv w.heap.size w.heap.size m ra rc ca cc ga gc W1:=⟨at_past aT hB1,hm.below h2,h2.size⟩;have hA:=askc_any w.heap.size (IEnv w.heap.size w.heap.size m ra rc ca cc ga gc) p hp hf (fun X X' e q=>e.keep q n3 n1) (nxG m) (ctF m) (List.range m.gates.length) (fun x hx=>by rw[List.mem_range]at hx;omega)
    (fun d=>findc_any w.heap.size w.heap.size m ra rc ca cc ga gc hok p hp n3 n1 d) m.gates.length
   have h:=hA W1 gn (fun _=>False) (fun _=>none) 0 hE1 hR (memo_none _ _ _) (fun _ h=>h.elim) (List.mem_range.2 (by omega)) (by rw[left_all,List.length_range];exact Nat.le_refl _) (by rw[left_all,List.length_range];omega);rw[hp]at h;refine h.mono ?_;rintro r w' ⟨e1,M',nn',g1,g2,g3,g4,g5⟩;exact⟨e1,h2.trans (g5.below h2.size (fun k q=>by omega)),at_keep (at_past bT hB1) g5 n2⟩
  have hmf:∀(fn:Fn) (first cap:Array Value) (w:World),(Instr.makeFunc fn first cap).run Tryz.prog w=.ok (.func fn first cap) w:=fun _ _ _ _=>rfl
  have hRm:=ζ (fun W=>remc_any w.heap.size W);generalize ev (nxG m) (ctF m) (List.range m.gates.length) gn=res at*;replace hask:=ζ hask;unfold imA pv at*;clear hm hr ht hok hg0 hgl hh;go_enter Tryz.func8,Tryz.ntmps8;go_upto_region 1 with fail
  refine wp_world (fun W=>At W w.heap.size #[.slice ra m.regs.length rc,.slice ca m.comps.length cc,.slice ga m.gates.length gc,.int .i64 m.depth]∧At W (w.heap.size+1) #[.bool false,.int .u64 0,.int .u64 0,.int .u64 0]∧Below w.heap.size w W) ⟨at_past (At.new w _ _) (bl_alloc _ _),At.next w _ _ _,(bl_alloc _ _).trans ((bl_alloc _ _).mono (by simp))⟩ ?_;rintro W ⟨A0,B0,hB⟩;have a0:=A0.2.1;have k0:W.cell? ⟨w.heap.size,0,none⟩=some (.slice ra m.regs.length rc):=a0 0;have k1:W.cell? ⟨w.heap.size,1,none⟩=some (.slice ca m.comps.length cc):=a0 1;have k2:W.cell? ⟨w.heap.size,2,none⟩=some (.slice ga m.gates.length gc):=a0 2;have k3:W.cell? ⟨w.heap.size,3,none⟩=some (.int .i64 m.depth):=a0 3;have hcl:=ζ (hH.out W hB (hT W hB));replace hT:=ζ hT;replace A0:=ζ A0;replace B0:=ζ B0;replace hB:=ζ hB;clear a0 hH;go_upto_region 3 with(go_at_call 15;refine hcl.out.mono ?_;rintro r W1 ⟨rfl,g1⟩;replace g1:=ζ g1)
  have A1:=ζ (at_past A0.out g1.out);have B1:=ζ (at_past B0.out g1.out);have hB1:=ζ (hB.out.trans (g1.out.mono hB.out.size));clear k0 k1 k2 k3 hcl;go_upto_region 4 with(go_at_call 16;refine(hRm.out _).mono ?_;rintro r W2 ⟨p,rfl,hp,hf,hR,hB2,hpb⟩;have hqv:p.qv=.func (.func 32) #[] #[.pointer (some ⟨p.kA,0,none⟩),.pointer (some ⟨p.kF,0,none⟩),.pointer (some ⟨p.kQ,0,none⟩)]:=(by unfold Pl.qv pv;rw[hp]);rw[hqv];have hcl:=ζ (hask.out W1 W2 p hB1.out A1.out B1.out hp hf hR hB2 hpb);clear hqv hp hf hR hB2 hpb)
  cases res with
  |some v=>
   unfold tupc at hcl;go_upto_region 5 with(go_at_call 32;refine hcl.out.mono ?_;rintro r W3 ⟨rfl,g3,b3⟩;replace g3:=ζ g3;replace b3:=ζ b3)
   refine wp_world (fun X=>Below W3.heap.size W3 X∧At X W3.heap.size #[.bool true,.int .u64 v.s,.int .u64 v.c,.int .u64 v.i]) ⟨(by repeat(first|exact Below.refl _ _|refine Below.alloc ?_ (by simp<;>omega) _|refine Below.setCell ?_ (by simp<;>omega) _)),At.new W3 _ _⟩ ?_;rintro X ⟨hB3,r9⟩;have A2:=at_past b3.out hB3;have⟨zl,zp,zf⟩:=A2;have hw3:=g3.out.size;have hw4:=hB3.size;generalize W3.heap.size=k9 at*;have P0:X.cell? ⟨k9,0,none⟩=some (.bool true):=r9.2.1 0;have P1:X.cell? ⟨k9,1,none⟩=some (.int .u64 v.s):=r9.2.1 1;have P2:X.cell? ⟨k9,2,none⟩=some (.int .u64 v.c):=r9.2.1 2;have P3:X.cell? ⟨k9,3,none⟩=some (.int .u64 v.i):=r9.2.1 3;have hfin:=ζ (At.setAll (cs:=[Value.bool false,.int .u64 0,.int .u64 0,.int .u64 0]) A2 [Value.bool true,.int .u64 v.s,.int .u64 v.c,.int .u64 v.i] rfl);have hkf:=ζ ((kp_sets X (w.heap.size+1) [Value.bool true,.int .u64 v.s,.int .u64 v.c,.int .u64 v.i] 0).below (B:=w.heap.size) (by omega) (fun k q=>by omega))
   have hBX:=ζ (g3.out.trans (hB3.mono hw3));clear A2 hB3 r9;go_wp2_with fail;have⟨_,q4,_⟩:=hfin.out;simp only[World.setCells]at q4;refine bodyPost_ret (v:=.agg #[.bool true,.int .u64 v.s,.int .u64 v.c,.int .u64 v.i]) (by simp[results,Tryz.results8,go_sem,q4]) rfl ?_;exact⟨rfl,hBX.out.trans hkf.out⟩
  |none=>
   unfold tupc at hcl;go_upto_region 5 with(go_at_call 32;refine hcl.out.mono ?_;rintro r W3 ⟨rfl,g3,b3⟩;replace g3:=ζ g3;replace b3:=ζ b3)
   refine wp_world (fun X=>Below W3.heap.size W3 X∧At X W3.heap.size #[.bool false,.int .u64 0,.int .u64 0,.int .u64 0]) ⟨(by repeat(first|exact Below.refl _ _|refine Below.alloc ?_ (by simp<;>omega) _|refine Below.setCell ?_ (by simp<;>omega) _)),At.new W3 _ _⟩ ?_;rintro X ⟨hB3,r9⟩;have A2:=at_past b3.out hB3;have⟨zl,zp,zf⟩:=A2;have hw3:=g3.out.size;have hw4:=hB3.size;generalize W3.heap.size=k9 at*;have P0:X.cell? ⟨k9,0,none⟩=some (.bool false):=r9.2.1 0;have P1:X.cell? ⟨k9,1,none⟩=some (.int .u64 0):=r9.2.1 1;have P2:X.cell? ⟨k9,2,none⟩=some (.int .u64 0):=r9.2.1 2;have P3:X.cell? ⟨k9,3,none⟩=some (.int .u64 0):=r9.2.1 3;have hfin:=ζ (At.setAll (cs:=[Value.bool false,.int .u64 0,.int .u64 0,.int .u64 0]) A2 [Value.bool false,.int .u64 0,.int .u64 0,.int .u64 0] rfl);have hkf:=ζ ((kp_sets X (w.heap.size+1) [Value.bool false,.int .u64 0,.int .u64 0,.int .u64 0] 0).below (B:=w.heap.size) (by omega) (fun k q=>by omega))
   have hBX:=ζ (g3.out.trans (hB3.mono hw3));clear A2 hB3 r9;go_wp2_with fail;have⟨_,q4,_⟩:=hfin.out;simp only[World.setCells]at q4;refine bodyPost_ret (v:=.agg #[.bool false,.int .u64 0,.int .u64 0,.int .u64 0]) (by simp[results,Tryz.results8,go_sem,q4]) rfl ?_;exact⟨rfl,hBX.out.trans hkf.out⟩
open F (thB nxtI folB Rch rchB rchB_iff folB_lt folB_lt')
theorem mx_go (l:List Int):∀a b:Int,a≤b→(∀x∈l,x≤b)→l.foldl max a≤b:=by
 induction l with
 |nil=>intro a b h _;exact h
 |cons x l ih=>intro a b h hx;exact ih _ _ (by have:=hx x (by simp);omega) (fun y hy=>hx y (by simp[hy]))
theorem mxL_le {l:List Int}{b:Int}(h0:0≤b)(h:∀x∈l,x≤b):mxL l≤b:=mx_go l 0 b h0 h
theorem mx_ge (l:List Int):∀a:Int,a≤l.foldl max a∧∀x∈l,x≤l.foldl max a:=by
 induction l with
 |nil=>intro a;exact⟨Int.le_refl _,fun x hx=>by cases hx⟩
 |cons y l ih=>
  intro a;obtain⟨h1,h2⟩:=ih (max a y);refine⟨Int.le_trans (show a≤max a y by omega) h1,fun x hx=>?_⟩;rcases List.mem_cons.1 hx with rfl|hx
  ·exact Int.le_trans (by omega) h1
  ·exact h2 x hx
theorem mxL_nn (l:List Int):0≤mxL l:=(mx_ge l 0).1
theorem mxL_mem {l:List Int}{x:Int}(h:x∈l):x≤mxL l:=(mx_ge l 0).2 x h
theorem map_some {α β:Type}{f:α→Option β}{l:List α}{vs:List β}(h:l.map f=vs.map some):(∀c∈l,∃x∈vs,f c=some x)∧∀x∈vs,∃c∈l,f c=some x:=by
 refine⟨fun c hc=>?_,fun x hx=>?_⟩
 ·have:f c∈l.map f:=List.mem_map_of_mem hc;rw[h]at this;obtain⟨x,hx,e⟩:=List.mem_map.1 this;exact⟨x,hx,e.symm⟩
 ·have:some x∈vs.map some:=List.mem_map_of_mem hx;rw[←h]at this;obtain⟨c,hc,e⟩:=List.mem_map.1 this;exact⟨c,hc,e⟩
theorem map_turn {α β γ:Type}{f:α→Option β}{g:α→Option γ}(R:β→γ→Prop)(hR:∀c x,f c=some x→∃y,g c=some y∧R x y):∀(l:List α) (vs:List β),l.map f=vs.map some→∃us:List γ,l.map g=us.map some∧∀u∈us,∃x∈vs,R x u
 |[],[],_=>⟨[],rfl,fun u h=>by cases h⟩
 |[],v::vs,h=>by cases h
 |c::l,[],h=>by cases h
 |c::l,v::vs,h=>by
  rw[List.map_cons,List.map_cons]at h;injection h with h1 h2
  obtain⟨us,e1,e2⟩:=map_turn R hR l vs h2;obtain⟨y,e3,e4⟩:=hR c v h1;refine⟨y::us,by rw[List.map_cons,List.map_cons,e1,e3],fun u hu=>?_⟩;rcases List.mem_cons.1 hu with rfl|hu
  ·exact⟨v,by simp,e4⟩
  ·obtain⟨x,hx,q⟩:=e2 u hu;exact⟨x,by simp[hx],q⟩
theorem map_fun {α β γ:Type}{f:α→Option β}{g:α→Option γ}(t:β→γ):∀(l:List α) (vs:List β),(∀c∈l,∀x,f c=some x→g c=some (t x))→l.map f=vs.map some→l.map g=(vs.map t).map some
 |[],[],_,_=>rfl
 |[],v::vs,_,h=>by cases h
 |c::l,[],_,h=>by cases h
 |c::l,v::vs,hR,h=>by
  rw[List.map_cons,List.map_cons]at h;injection h with h1 h2
  rw[List.map_cons,List.map_cons,List.map_cons,map_fun t l vs (fun c hc=>hR c (by simp[hc])) h2,hR c (by simp) v h1]
theorem evF_get {α:Type}{nx:Nat→List Nat}{f:Nat→List α→Option α}{k n:Nat}{v:α}(h:evF nx f (k+1) n=some v):∃vs,(nx n).map (evF nx f k)=vs.map some∧f n vs=some v:=by
 rw[evF,Option.bind_eq_some_iff]at h;obtain⟨vs,h1,h2⟩:=h;exact⟨vs,allV_get h1,h2⟩
theorem evF_put {α:Type}{nx:Nat→List Nat}{f:Nat→List α→Option α}{k n:Nat}{vs:List α}(h:(nx n).map (evF nx f k)=vs.map some):evF nx f (k+1) n=f n vs:=by
 rw[evF,h,allV_of];rfl
section
variable {L:List Ins} {cF:Nat→Int} (hc:∀pc,0≤cF pc∧cF pc≤1099511627777)
include hc
theorem sum_get:∀k,k≤1000→∀pc v,evF (nxN L) (wyS cF) k pc=some v→0≤v∧v≤(k:Int)*1099511627777
 |0,_,_,_,h=>by cases h
 |k+1,hk,pc,v,h=>by
  obtain⟨vs,h1,h2⟩:=evF_get h;have hb:mxL vs≤(k:Int)*1099511627777:=mxL_le (by omega) (fun x hx=>by
   obtain⟨c,_,hcx⟩:=(map_some h1).2 x hx;exact(sum_get k (by omega) c x hcx).2)
  have h0:=mxL_nn vs;have:=hc pc;unfold wyS at h2;rw[wrapU _ (by omega)]at h2;injection h2 with h2
  omega
theorem sum_at {k:Nat}(hk:k<1000){pc:Nat}{v:Int}(h:evF (nxN L) (wyS cF) (k+1) pc=some v):∃vs,(nxN L pc).map (evF (nxN L) (wyS cF) k)=vs.map some∧v=cF pc+mxL vs:=by
 obtain⟨vs,h1,h2⟩:=evF_get h;have hb:mxL vs≤(k:Int)*1099511627777:=mxL_le (by omega) (fun x hx=>by
  obtain⟨c,_,hcx⟩:=(map_some h1).2 x hx;exact(sum_get hc k (by omega) c x hcx).2)
 have h0:=mxL_nn vs;have:=hc pc;refine⟨vs,h1,?_⟩;unfold wyS at h2;rw[wrapU _ (by omega)]at h2;injection h2 with h2
 omega
theorem sum_ge {k:Nat}(hk:k<1001){pc:Nat}{v:Int}(h:evF (nxN L) (wyS cF) k pc=some v):cF pc≤v:=by
 cases k with
 |zero=>cases h
 |succ k=>
  obtain⟨vs,_,rfl⟩:=sum_at hc (by omega) h;have:=mxL_nn vs;omega
theorem sum_rch {e:Int}{k:Nat}(hk:k<1001){en:Nat}(he:e=en){v:Int}(h:evF (nxN L) (wyS cF) k en=some v){q:Nat}(hr:Rch L [e] (-1) q):∃j u,j≤k∧evF (nxN L) (wyS cF) j q=some u∧u≤v:=by
 induction hr with
 |base h1 h2 h3=>
  rename_i q
  have:q=en:=by
   rw[List.mem_singleton]at h1;omega
  subst this;exact⟨k,v,Nat.le_refl _,h,Int.le_refl _⟩
 |step h1 h2 h3 ih=>
  rename_i p q
  obtain⟨j,u,g1,g2,g3⟩:=ih
  cases j with
  |zero=>cases g2
  |succ j=>
   obtain⟨vs,e1,e2⟩:=sum_at hc (by omega) g2;have hm:q∈nxN L p:=by
    unfold nxN;refine List.mem_append.2 (.inl ?_);have ht:thB L.length p=true:=by
     have:=folB_lt' h2;unfold thB;simp only[Bool.and_eq_true,decide_eq_true_eq];omega
    rw[if_pos ht];exact List.mem_filter.2 ⟨List.mem_range.2 (folB_lt h2),h2⟩
   obtain⟨x,hx,hcx⟩:=(map_some e1).1 q hm;have:=mxL_mem hx;have:=(hc p).1;exact⟨j,x,by omega,hcx,by omega⟩
theorem sum_below {dF:Nat→Int}(hd:∀pc,0≤dF pc∧dF pc≤cF pc):∀k,k≤1000→∀pc v,evF (nxN L) (wyS cF) k pc=some v→∃u,evF (nxN L) (wyS dF) k pc=some u∧0≤u∧u≤v
 |0,_,_,_,h=>by cases h
 |k+1,hk,pc,v,h=>by
  have hd2:∀pc,0≤dF pc∧dF pc≤1099511627777:=fun p=>by have:=hd p;have:=hc p;omega
  obtain⟨vs,h1,h2⟩:=sum_at hc (by omega) h;obtain⟨us,e1,e2⟩:=map_turn (fun x u=>0≤u∧u≤x) (fun c x hx=>by
   obtain⟨u,q1,q2,q3⟩:=sum_below hd k (by omega) c x hx;exact⟨u,q1,q2,q3⟩) _ _ h1
  have hb:mxL us≤mxL vs:=mxL_le (mxL_nn vs) (fun u hu=>by
   obtain⟨x,hx,q⟩:=e2 u hu;have:=mxL_mem hx;omega)
  have hv:=sum_get hc (k+1) hk pc v h;have h0:=mxL_nn us;have:=hd pc;refine⟨dF pc+mxL us,?_,by omega,by omega⟩;rw[evF_put e1];unfold wyS;rw[wrapU _ (by omega)]
end
theorem row_go {f:Nat→Option Cst}:∀(l:List (Nat×Cst)) (F:Nat→Option Cst),(∀gv∈l,f gv.1=some gv.2)→(∀g x,F g=some x→f g=some x)→∀g x,l.foldl (fun F gv=>fun q=>if q=gv.1 then some gv.2 else F q) F g=some x→f g=some x
 |[],F,_,hF=>hF
 |a::l,F,hl,hF=>row_go l _ (fun gv h=>hl gv (by simp[h])) (fun g x h=>by
  dsimp only at h
  split at h
  ·rename_i e
   injection h with h
   rw[e,←h];exact hl a (by simp)
  ·exact hF g x h)
theorem row_in:∀(l:List (Nat×Cst)) (F:Nat→Option Cst) (g:Nat),(F g).isSome=true∨(∃gv∈l,gv.1=g)→(l.foldl (fun F gv=>fun q=>if q=gv.1 then some gv.2 else F q) F g).isSome=true
 |[],F,g,h=>by
  rcases h with h|⟨gv,h,_⟩
  ·exact h
  ·cases h
 |a::l,F,g,h=>row_in l _ g (by
  rcases h with h|⟨gv,h,e⟩
  ·left
   dsimp only
   split
   ·rfl
   ·exact h
  ·rcases List.mem_cons.1 h with rfl|h
   ·left
    dsimp only;rw[if_pos e.symm]
    rfl
   ·exact .inr ⟨gv,h,e⟩)
theorem zip_is {f:Nat→Option Cst}:∀(N:List Nat) (vs:List Cst),N.map f=vs.map some→(∀gv∈N.zip vs,f gv.1=some gv.2)∧∀g∈N,∃gv∈N.zip vs,gv.1=g
 |[],[],_=>⟨fun gv h=>absurd h (by simp),fun g h=>absurd h (by simp)⟩
 |[],v::vs,h=>by cases h
 |c::l,[],h=>by cases h
 |c::l,v::vs,h=>by
  rw[List.map_cons,List.map_cons]at h;injection h with h1 h2
  obtain⟨q1,q2⟩:=zip_is l vs h2;refine⟨fun gv hg=>?_,fun g hg=>?_⟩
  ·rw[List.zip_cons_cons]at hg;rcases List.mem_cons.1 hg with rfl|hg
   ·exact h1
   ·exact q1 gv hg
  ·rw[List.zip_cons_cons];rcases List.mem_cons.1 hg with rfl|hg
   ·exact⟨(g,v),List.mem_cons_self,rfl⟩
   ·obtain⟨gv,r1,r2⟩:=q2 g hg;exact⟨gv,by simp[r1],r2⟩
theorem rowF_is {f:Nat→Option Cst}{N:List Nat}{vs:List Cst}(h:N.map f=vs.map some){g:Nat}{x:Cst}(hx:rowF N vs g=some x):f g=some x:=
 row_go _ _ (zip_is N vs h).1 (fun _ _ h=>by cases h) g x hx
theorem rowF_at {f:Nat→Option Cst}{N:List Nat}{vs:List Cst}(h:N.map f=vs.map some){g:Nat}(hg:g∈N){x:Cst}(hx:f g=some x):rowF N vs g=some x:=by
 have h1:=row_in (N.zip vs) (fun _=>none) g (.inr ((zip_is N vs h).2 g hg));obtain⟨y,hy⟩:=Option.isSome_iff_exists.1 h1;have h2:rowF N vs g=some y:=hy;rw[h2];have:=rowF_is h h2;rw[hx]at this;exact this.symm
structure Fair (v:Cst):Prop where
 s1:1≤v.s
 s2:v.s≤1099511627776
 c0:0≤v.c
 c1:v.c<v.s
 i0:0≤v.i
 i1:v.i≤v.s
theorem mc_go (b:Int):∀(l:List Cst),(∀x∈l,Fair x∧x.c+1≤b)→∀a,0≤a→a≤b→(l.map Cst.c).foldl (fun a d=>max a (wrap64 (d+1))) a=l.foldl (fun a d=>max a (IntKind.u64.wrap (d.c+1))) a∧0≤l.foldl (fun a d=>max a (IntKind.u64.wrap (d.c+1))) a∧l.foldl (fun a d=>max a (IntKind.u64.wrap (d.c+1))) a≤b
 |[],_,a,h0,hb=>⟨rfl,h0,hb⟩
 |x::l,hl,a,h0,hb=>by
  obtain⟨hf,hx⟩:=hl x (by simp);have e1:wrap64 (x.c+1)=x.c+1:=by have:=hf.c0;have:=hf.c1;have:=hf.s2;unfold wrap64;omega
  have e2:IntKind.u64.wrap (x.c+1)=x.c+1:=wrapU _ (by have:=hf.c0;have:=hf.c1;have:=hf.s2;omega);simp only[List.map_cons,List.foldl_cons];rw[e1,e2];clear e1 e2;exact mc_go b l (fun y hy=>hl y (by simp[hy])) _ (by omega) (by omega)
theorem mc_dp {l:List Cst}{b:Int}(h0:0≤b)(h:∀x∈l,Fair x∧x.c+1≤b):dpL (l.map Cst.c)=mcL l∧0≤mcL l∧mcL l≤b:=mc_go b l h 0 (Int.le_refl _) h0
theorem gate_fair {m:PImg}(hok:BOk m):∀k,∀n∈List.range m.gates.length,∀v,evF (nxG m) (ctF m) k n=some v→evF (nxG m) dpF k n=some v.c∧Fair v
 |0,_,_,_,h=>by cases h
 |k+1,n,hn,v,h=>by
  obtain⟨vs,h1,h2⟩:=evF_get h;have hg:=List.mem_range.1 hn;obtain⟨kc,hkc,hgc,he0,he1⟩:=hok.gates n hg;obtain⟨hlen,hcall⟩:=hok.code kc hkc;have eL:=gcode_of hg hkc hgc;have eE:=gent_of hg;have hin:=nxG_in hok n hn;have ih:=fun c (hc:c∈nxG m n) x hx=>gate_fair hok k c (hin c hc) x hx
  have hvs:∀x∈vs,Fair x:=fun x hx=>by
   obtain⟨c,hc,hcx⟩:=(map_some h1).2 x hx;exact(ih c hc x hcx).2
  have hrow:∀g x,rowF (nxG m n) vs g=some x→Fair x:=fun g x hx=>by
   have hf:∀(l:List (Nat×Cst)) (F:Nat→Option Cst),(∀gv∈l,Fair gv.2)→(∀g x,F g=some x→Fair x)→∀g x,l.foldl (fun F gv=>fun q=>if q=gv.1 then some gv.2 else F q) F g=some x→Fair x:=by
    intro l
    induction l with
    |nil=>intro F _ hF;exact hF
    |cons a l ih2=>
     intro F hl hF;refine ih2 _ (fun gv h=>hl gv (by simp[h])) (fun g x h=>?_);dsimp only at h
     split at h
     ·injection h with h
      rw[←h];exact hl a (by simp)
     ·exact hF g x h
   exact hf _ _ (fun gv hgv=>hvs _ (List.of_mem_zip hgv).2) (fun _ _ h=>by cases h) g x hx
  unfold ctF at h2;rw[←eL]at hlen hcall he1;rw[←eE]at he0 he1;have hN:∀g∈nxG m n,∃pc,pc<(gcode m n).length∧Rch (gcode m n) [gent m n] (-1) pc∧∃k,(gcode m n)[pc]?=some k∧k.op=31∧k.m.toNat=g:=by
   intro g hgm;unfold nxG calL at hgm;obtain⟨pc,a1,a2⟩:=List.mem_map.1 hgm;obtain⟨a3,a4⟩:=List.mem_filter.1 a1;rw[List.mem_range]at a3;unfold calB at a4;unfold imF at a2;rw[List.getElem?_eq_getElem a3]at a2 a4;simp only[Bool.and_eq_true,beq_iff_eq]at a4;exact⟨pc,a3,rchB_iff.1 a4.1,_,List.getElem?_eq_getElem a3,a4.2,a2⟩
  generalize hF:rowF (nxG m n) vs=F at*;generalize gcode m n=L at*;generalize gent m n=e at*;have hs0:∀g,0≤sF F g∧sF F g≤1099511627776∧0≤iF F g∧iF F g≤sF F g:=fun g=>by
   unfold sF iF
   cases hq:F g with
   |none=>dsimp only;omega
   |some x=>
    have q:=hrow g x hq;exact⟨by have:=q.s1;show 0≤x.s;omega,q.s2,q.i0,q.i1⟩
  have hca:∀pc,0≤caF L (sF F) pc∧caF L (sF F) pc≤1099511627776:=fun pc=>by
   unfold caF
   cases L[pc]? with
   |none=>exact⟨by show(0:Int)≤0;omega,by first|(show(0:Int)≤1099511627776;omega)|(dsimp only;omega)⟩
   |some i=>
    dsimp only
    split
    ·exact⟨(hs0 _).1,(hs0 _).2.1⟩
    ·omega
  have hst:∀pc,stF L (sF F) pc=1+caF L (sF F) pc:=fun pc=>by
   have:=hca pc;unfold stF;exact wrapU _ (by omega)
  have hcF:∀pc,0≤stF L (sF F) pc∧stF L (sF F) pc≤1099511627777:=fun pc=>by
   have:=hca pc;rw[hst];omega
  have hdF:∀pc,0≤inF L (iF F) pc∧inF L (iF F) pc≤stF L (sF F) pc:=fun pc=>by
   have h3:=hca pc;rw[hst];unfold inF;unfold caF at h3 ⊢
   cases L[pc]? with
   |none=>exact⟨by show(0:Int)≤0;omega,by first|(show(0:Int)≤1099511627776;omega)|(dsimp only;omega)⟩
   |some i=>
    dsimp only at h3 ⊢;have:=hs0 i.m.toNat
    split
    ·first|omega|(split<;>omega)
    ·split<;>omega
  obtain⟨en,rfl⟩:∃en:Nat,e=(en:Int):=⟨e.toNat,by omega⟩;rw[Int.toNat_natCast]at h2
  cases hs:sumS L (stF L (sF F)) en with
  |none=>rw[hs]at h2;cases h2
  |some s=>
   rw[hs]at h2;dsimp only at h2
   split at h2
   ·cases h2
   ·rename_i hbig
    injection h2 with h2
    have hfu:(List.range (L.length+1)).length≤1000:=by rw[List.length_range];omega
    unfold sumS ev at hs;have hge:=sum_ge hcF (by omega) hs;have hs1:1≤s:=by
     have:=hca en;rw[hst]at hge;omega
    have hpre:∀x∈vs,Fair x∧x.c+1≤s - 1:=fun x hx=>by
     refine⟨hvs x hx,?_⟩;obtain⟨c,hc,hcx⟩:=(map_some h1).2 x hx;obtain⟨pc,a1,a2,i,a3,a4,a5⟩:=hN c hc;obtain⟨j,u,b1,b2,b3⟩:=sum_rch hcF (by omega) rfl hs a2;have b4:=sum_ge hcF (by omega) b2;have hFc:F c=some x:=by rw[←hF];exact rowF_at h1 hc hcx
     have e3:caF L (sF F) pc=x.s:=by
      unfold caF;rw[a3];show(if i.op=31 then sF F i.m.toNat else 0)=x.s;rw[if_pos a4,a5];unfold sF;rw[hFc]
     rw[hst,e3]at b4;have:=(hvs x hx).c1;omega
    obtain⟨d1,d2,d3⟩:=mc_dp (by omega) hpre;obtain⟨u,i1,i2,i3⟩:=sum_below hcF hdF _ hfu en s hs;have e5:(sumS L (inF L (iF F)) en).getD 0=u:=by unfold sumS ev;rw[i1];rfl
    rw[e5]at h2;rw[←h2];refine⟨?_,⟨hs1,by show s≤1099511627776;omega,d2,by show mcL vs<s;omega,i2,i3⟩⟩;rw[evF_put (map_fun Cst.c _ _ (fun c hc x hx=>(ih c hc x hx).1) h1)];unfold dpF;rw[d1]
theorem agree {m:PImg}(hok:BOk m){n:Nat}(hn:n∈List.range m.gates.length){v:Cst}(h:ev (nxG m) (ctF m) (List.range m.gates.length) n=some v):ev (nxG m) dpF (List.range m.gates.length) n=some v.c∧Fair v:=gate_fair hok _ n hn v h
open F (rchB)
def oneP (L:List Ins):PImg:=⟨[],[⟨[],L⟩],[⟨0,0,[],[]⟩],1⟩
theorem calL_none {L:List Ins}{e:Int}(h:∀k∈L,k.op≠31):calL L e=[]:=by
 unfold calL;rw[List.map_eq_nil_iff,List.filter_eq_nil_iff];intro pc hp;rw[List.mem_range]at hp;unfold calB;rw[List.getElem?_eq_getElem hp];have:=h _ (List.getElem_mem hp);simp[this]
def cst1 (L:List Ins):Option Cst:=
 match sumS L (stF L (fun _=>0)) 0 with
 |none=>none
 |some s=>if 1099511627776<s then none else some ⟨s,0,(sumS L (inF L (fun _=>0)) 0).getD 0⟩
theorem nxG_one {L:List Ins}(h:∀k∈L,k.op≠31):nxG (oneP L) 0=[]:=calL_none h
theorem gate_one {L:List Ins}(h:∀k∈L,k.op≠31):ev (nxG (oneP L)) (ctF (oneP L)) (List.range (oneP L).gates.length) 0=cst1 L:=by
 have e:=nxG_one h;show evF (nxG (oneP L)) (ctF (oneP L)) 1 0=_;rw[evF_put (vs:=[]) (by rw[e];rfl)];unfold ctF;rw[e]
 rfl
theorem deep_one {L:List Ins}(h:∀k∈L,k.op≠31):ev (nxG (oneP L)) dpF (List.range (oneP L).gates.length) 0=some 0:=by
 have e:=nxG_one h;show evF (nxG (oneP L)) dpF 1 0=_;rw[evF_put (vs:=[]) (by rw[e];rfl)]
 rfl
theorem one_rng {L:List Ins}(h:L.length≤400)(ho:OpsIn L):(oneP L).Rng:=
 ⟨⟨by unfold maxG;simp[oneP],fun r q=>by cases q⟩,⟨by unfold maxG;simp[oneP],fun c q=>by
  have:c=⟨[],L⟩:=by simpa [oneP]using q
  subst this;exact⟨by unfold maxG;simp,by unfold maxI;show L.length≤_;omega,ho,fun k q=>(by cases q)⟩⟩,
  ⟨by unfold maxG;simp[oneP],fun g q=>by
   have:g=⟨0,0,[],[]⟩:=by simpa [oneP]using q
   subst this;exact⟨by unfold J64;show -9223372036854775808≤(0:Int)∧(0:Int)<9223372036854775808;omega,by unfold J64;show -9223372036854775808≤(0:Int)∧(0:Int)<9223372036854775808;omega,by unfold maxG;simp,by unfold maxG;simp,⟨fun k q=>(by cases q),fun k q=>(by cases q)⟩⟩⟩,by show J64 1;unfold J64;omega⟩
def sm1:List Ins:=[⟨1,1,0,0,5⟩,⟨27,1,0,0,0⟩]
def sm2:List Ins:=[⟨29,1,0,0,0⟩,⟨21,1,0,0,4⟩,⟨29,2,0,0,0⟩,⟨30,2,0,0,0⟩,⟨32,0,0,0,0⟩]
def sm3:List Ins:=[⟨11,1,1,0, -1⟩,⟨22,1,0,0,0⟩,⟨32,0,0,0,0⟩]
theorem sm1_c:cst1 sm1=some ⟨2,0,0⟩:=by kernel_rfl
theorem sm2_c:cst1 sm2=some ⟨5,0,2⟩:=by kernel_rfl
theorem sm3_c:cst1 sm3=none:=by kernel_rfl
theorem sm1_h:hgB (oneP sm1) 0=true:=by kernel_rfl
theorem sm2_h:hgB (oneP sm2) 0=true:=by kernel_rfl
theorem sm3_h:hgB (oneP sm3) 0=true:=by kernel_rfl
theorem ops_in (L:List Ins)(h:(L.all fun k=>decide (0≤k.op)&&decide (k.op<256))=true):OpsIn L:=fun k hk=>by
 have:=List.all_eq_true.1 h k hk;simpa using this
theorem one_any (L:List Ins)(ka:Option Addr)(kc:Nat)(w:World)(hL:LIn w.heap.size w ka L):
 Calls Tryz.prog 14 #[.slice ka L.length kc] w fun e w'=>∃c g,e=.returned (imA (oneP L) none 0 (some ⟨c,0,none⟩) 1 (some ⟨g,0,none⟩) 1)∧ImgIn w'.heap.size w' none (some ⟨c,0,none⟩) (some ⟨g,0,none⟩) (oneP L)∧Below w.heap.size w w':=by
 replace hL:=ζ hL;go_enter Tryz.func14,Tryz.ntmps14;go_wp2_with fail;refine bodyPost_ret (v:=.agg #[.slice none 0 0,.slice (some ⟨w.heap.size+1,0,none⟩) 1 1,.slice (some ⟨w.heap.size+1+1,0,none⟩) 1 1,.int .i64 1]) (by simp[results,Tryz.results14,go_sem]) rfl ?_;refine⟨w.heap.size+1,w.heap.size+1+1,rfl,?_,?_⟩
 ·generalize hX:Obj.cells #[Value.slice none 0 0,Value.slice (some {block:=w.heap.size+1,off:=0}) 1 1,Value.slice (some {block:=w.heap.size+1+1,off:=0}) 1 1,Value.int IntKind.i64 1] 40=X;have b1:=bl_alloc w X;have e1:(w.alloc X).heap.size=w.heap.size+1:=by simp
  have a1:=At.new (w.alloc X) #[Value.slice none 0 0,Value.slice ka L.length kc] 32;rw[e1]at a1;generalize hW1:(w.alloc X).alloc (.cells #[Value.slice none 0 0,Value.slice ka L.length kc] 32)=W1 at*;have b2:Below w.heap.size w W1:=by rw[←hW1];exact b1.trans ((bl_alloc _ _).mono (by simp))
  have e2:W1.heap.size=w.heap.size+1+1:=by rw[←hW1];simp
  have a2:=At.new W1 #[Value.int IntKind.i64 0,Value.int IntKind.i64 0,Value.slice none 0 0,Value.slice none 0 0] 36;rw[e2]at a2;have a1':=at_past a1 (bl_alloc W1 (.cells #[Value.int IntKind.i64 0,Value.int IntKind.i64 0,Value.slice none 0 0,Value.slice none 0 0] 36));have b3:=b2.trans ((bl_alloc W1 (.cells #[Value.int IntKind.i64 0,Value.int IntKind.i64 0,Value.slice none 0 0,Value.slice none 0 0] 36)).mono b2.size);refine⟨fun i hi=>absurd hi (by simp[oneP]),fun i hi=>?_,fun i hi=>?_⟩
  ·obtain rfl:i=0:=by simp[oneP]at hi;omega
   exact⟨w.heap.size+1,0,none,0,ka,kc,rfl,a1'.1,a1'.1,a1'.2.1 0,a1'.2.1 1,FIn.nil _ _ _ _ _,(hL.out.below b3).mono b3.size⟩
  ·obtain rfl:i=0:=by simp[oneP]at hi;omega
   exact⟨w.heap.size+1+1,0,none,0,none,0,rfl,a2.1,a2.1,a2.2.1 0,a2.2.1 1,a2.2.1 2,a2.2.1 3,FIn.nil _ _ _ _ _,FIn.nil _ _ _ _ _⟩
 ·exact(bl_alloc _ _).trans (((bl_alloc _ _).mono (by simp)).trans ((bl_alloc _ _).mono (by simp<;>omega)))
def flt (L:List Ins):List Value:=L.flatMap fun k=>[.int .u8 k.op,.int .i64 k.a,.int .i64 k.b,.int .i64 k.c,.int .i64 k.m]
theorem flt_at:∀(L:List Ins) (i:Nat) (hi:i<L.length) (j:Nat),j<5→(flt L)[i*5+j]?=[Value.int .u8 L[i].op,.int .i64 L[i].a,.int .i64 L[i].b,.int .i64 L[i].c,.int .i64 L[i].m][j]?
 |[],i,hi,_,_=>by simp at hi
 |k::L,0,_,j,hj=>by
  unfold flt;rw[List.flatMap_cons,Nat.zero_mul,Nat.zero_add,List.getElem?_append_left (by simpa using hj)]
  rfl
 |k::L,i+1,hi,j,hj=>by
  have h:=flt_at L i (by simpa using hi) j hj;unfold flt at h ⊢;rw[List.flatMap_cons,List.getElem?_append_right (by simp;omega)];simp only[List.length_cons,List.length_nil,List.getElem_cons_succ];rw[←h]
  congr 1
  omega
theorem lin_of {w:World}{k:Nat}{L:List Ins}(h:At w k (flt L).toArray):LIn w.heap.size w (some ⟨k,0,none⟩) L:=fun i hi=>by
 have hc:∀j,j<5→w.cell? ⟨k,i*5+j,none⟩=[Value.int .u8 L[i].op,.int .i64 L[i].a,.int .i64 L[i].b,.int .i64 L[i].c,.int .i64 L[i].m][j]?:=fun j hj=>by
  rw[h.2.1,List.getElem?_toArray];exact flt_at L i hi j hj
 refine⟨k,0,rfl,h.1,h.1,?_⟩;rw[Nat.zero_add];exact⟨hc 0 (by omega),hc 1 (by omega),hc 2 (by omega),hc 3 (by omega),hc 4 (by omega)⟩
theorem headB_any (w:World)(ht:TabIn w):
 Calls Tryz.prog 6 #[] w fun e w'=>e=.returned (.bool true)∧Below w.heap.size w w':=by
 have hT:=ζ (fun W (q:Below w.heap.size w W)=>ht.below q ht.size);have G1:=ζ (fun W c g (t:TabIn W) (h:ImgIn W.heap.size W none (some ⟨c,0,none⟩) (some ⟨g,0,none⟩) (oneP sm1))=>Gate_any (oneP sm1) none (some ⟨c,0,none⟩) (some ⟨g,0,none⟩) 0 1 1 0 W t h (one_rng (by decide) (ops_in sm1 (by kernel_rfl))));have G2:=ζ (fun W c g (t:TabIn W) (h:ImgIn W.heap.size W none (some ⟨c,0,none⟩) (some ⟨g,0,none⟩) (oneP sm2))=>Gate_any (oneP sm2) none (some ⟨c,0,none⟩) (some ⟨g,0,none⟩) 0 1 1 0 W t h (one_rng (by decide) (ops_in sm2 (by kernel_rfl))));have G3:=ζ (fun W c g (t:TabIn W) (h:ImgIn W.heap.size W none (some ⟨c,0,none⟩) (some ⟨g,0,none⟩) (oneP sm3))=>Gate_any (oneP sm3) none (some ⟨c,0,none⟩) (some ⟨g,0,none⟩) 0 1 1 0 W t h (one_rng (by decide) (ops_in sm3 (by kernel_rfl))));have D3:=ζ (fun W c g (t:TabIn W) (h:ImgIn W.heap.size W none (some ⟨c,0,none⟩) (some ⟨g,0,none⟩) (oneP sm3))=>Deep_any (oneP sm3) none (some ⟨c,0,none⟩) (some ⟨g,0,none⟩) 0 1 1 0 W t h (one_rng (by decide) (ops_in sm3 (by kernel_rfl))))
 rw[sm1_h,if_pos rfl,Int.toNat_zero,gate_one (by decide),sm1_c]at G1;rw[sm2_h,if_pos rfl,Int.toNat_zero,gate_one (by decide),sm2_c]at G2;rw[sm3_h,if_pos rfl,Int.toNat_zero,gate_one (by decide),sm3_c]at G3;rw[sm3_h,if_pos rfl,Int.toNat_zero,deep_one (by decide)]at D3;have O1:=ζ (fun W k (h:At W k (flt sm1).toArray)=>one_any sm1 (some ⟨k,0,none⟩) 2 W (lin_of h));have O2:=ζ (fun W k (h:At W k (flt sm2).toArray)=>one_any sm2 (some ⟨k,0,none⟩) 5 W (lin_of h));have O3:=ζ (fun W k (h:At W k (flt sm3).toArray)=>one_any sm3 (some ⟨k,0,none⟩) 3 W (lin_of h));unfold imA gtV at*;replace ht:=ζ ht;have hI:∀(L:List Ins) (W W':World) c g,ImgIn W.heap.size W none (some ⟨c,0,none⟩) (some ⟨g,0,none⟩) (oneP L)→Below W.heap.size W W'→ImgIn W'.heap.size W' none (some ⟨c,0,none⟩) (some ⟨g,0,none⟩) (oneP L):=fun L W W' c g h q=>(h.below q).mono q.size
 replace hI:=ζ hI;go_enter Tryz.func6,Tryz.ntmps6;have hB:Hz (Below w.heap.size w w):=ζ (Below.refl _ _);go_upto_region 2 with(go_at_call 14;refine(O1.out _ w.heap.size (At.new w _ _)).mono ?_;rintro r W1 ⟨c1,g1,rfl,im1,b1⟩;replace b1:=(bl_alloc w _).trans (b1.mono (by simp));replace im1:=ζ im1;replace b1:=ζ b1)
 replace hB:=ζ (hB.out.trans (b1.out.mono hB.out.size));clear b1 O1;refine wp_world (fun X=>At X W1.heap.size #[.slice none (oneP sm1).regs.length 0,.slice (some ⟨c1,0,none⟩) (oneP sm1).comps.length 1,.slice (some ⟨g1,0,none⟩) (oneP sm1).gates.length 1,.int .i64 (oneP sm1).depth]∧Below W1.heap.size W1 X) ⟨(by first|exact At.new W1 _ _|simpa using At.new W1 #[.slice none (oneP sm1).regs.length 0,.slice (some ⟨c1,0,none⟩) (oneP sm1).comps.length 1,.slice (some ⟨g1,0,none⟩) (oneP sm1).gates.length 1,.int .i64 (oneP sm1).depth] _),(by repeat(first|exact Below.refl _ _|refine Below.alloc ?_ (by simp<;>omega) _|refine Below.setCell ?_ (by simp<;>omega) _))⟩ ?_;rintro X1 ⟨a1,hb1⟩;replace im1:=ζ (hI.out _ _ _ _ _ im1.out hb1);replace hB:=ζ (hB.out.trans (hb1.mono hB.out.size));generalize W1.heap.size=kx1 at*;have bx1:=ζ a1;clear a1 hb1;go_upto_region 3 with(go_at_call 14;refine(O2.out _ X1.heap.size (At.new X1 _ _)).mono ?_;rintro r W2 ⟨c2,g2,rfl,im2,b2⟩;replace b2:=(bl_alloc X1 _).trans (b2.mono (by simp));replace im2:=ζ im2;replace b2:=ζ b2)
 replace bx1:=ζ (at_past bx1.out b2.out);replace im1:=ζ (hI.out _ _ _ _ _ im1.out b2.out);replace hB:=ζ (hB.out.trans (b2.out.mono hB.out.size));clear b2 O2;refine wp_world (fun X=>At X W2.heap.size #[.slice none (oneP sm2).regs.length 0,.slice (some ⟨c2,0,none⟩) (oneP sm2).comps.length 1,.slice (some ⟨g2,0,none⟩) (oneP sm2).gates.length 1,.int .i64 (oneP sm2).depth]∧Below W2.heap.size W2 X) ⟨(by first|exact At.new W2 _ _|simpa using At.new W2 #[.slice none (oneP sm2).regs.length 0,.slice (some ⟨c2,0,none⟩) (oneP sm2).comps.length 1,.slice (some ⟨g2,0,none⟩) (oneP sm2).gates.length 1,.int .i64 (oneP sm2).depth] _),(by repeat(first|exact Below.refl _ _|refine Below.alloc ?_ (by simp<;>omega) _|refine Below.setCell ?_ (by simp<;>omega) _))⟩ ?_;rintro X2 ⟨a2,hb2⟩;replace bx1:=ζ (at_past bx1.out hb2);replace im1:=ζ (hI.out _ _ _ _ _ im1.out hb2);replace im2:=ζ (hI.out _ _ _ _ _ im2.out hb2);replace hB:=ζ (hB.out.trans (hb2.mono hB.out.size))
 generalize W2.heap.size=kx2 at*;have bx2:=ζ a2;clear a2 hb2;go_upto_region 4 with(go_at_call 14;refine(O3.out _ X2.heap.size (At.new X2 _ _)).mono ?_;rintro r W3 ⟨c3,g3,rfl,im3,b3⟩;replace b3:=(bl_alloc X2 _).trans (b3.mono (by simp));replace im3:=ζ im3;replace b3:=ζ b3)
 replace bx1:=ζ (at_past bx1.out b3.out);replace bx2:=ζ (at_past bx2.out b3.out);replace im1:=ζ (hI.out _ _ _ _ _ im1.out b3.out);replace im2:=ζ (hI.out _ _ _ _ _ im2.out b3.out);replace hB:=ζ (hB.out.trans (b3.out.mono hB.out.size));clear b3 O3;refine wp_world (fun X=>At X W3.heap.size #[.slice none (oneP sm3).regs.length 0,.slice (some ⟨c3,0,none⟩) (oneP sm3).comps.length 1,.slice (some ⟨g3,0,none⟩) (oneP sm3).gates.length 1,.int .i64 (oneP sm3).depth]∧Below W3.heap.size W3 X) ⟨(by first|exact At.new W3 _ _|simpa using At.new W3 #[.slice none (oneP sm3).regs.length 0,.slice (some ⟨c3,0,none⟩) (oneP sm3).comps.length 1,.slice (some ⟨g3,0,none⟩) (oneP sm3).gates.length 1,.int .i64 (oneP sm3).depth] _),(by repeat(first|exact Below.refl _ _|refine Below.alloc ?_ (by simp<;>omega) _|refine Below.setCell ?_ (by simp<;>omega) _))⟩ ?_;rintro X3 ⟨a3,hb3⟩;replace bx1:=ζ (at_past bx1.out hb3);replace bx2:=ζ (at_past bx2.out hb3)
 replace im1:=ζ (hI.out _ _ _ _ _ im1.out hb3);replace im2:=ζ (hI.out _ _ _ _ _ im2.out hb3);replace im3:=ζ (hI.out _ _ _ _ _ im3.out hb3);replace hB:=ζ (hB.out.trans (hb3.mono hB.out.size));generalize W3.heap.size=kx3 at*;have bx3:=ζ a3;clear a3 hb3;have q0:X3.cell? ⟨kx1,0,none⟩=some (.slice none (oneP sm1).regs.length 0):=bx1.out.2.1 0;have q1:X3.cell? ⟨kx1,1,none⟩=some (.slice (some ⟨c1,0,none⟩) (oneP sm1).comps.length 1):=bx1.out.2.1 1;have q2:X3.cell? ⟨kx1,2,none⟩=some (.slice (some ⟨g1,0,none⟩) (oneP sm1).gates.length 1):=bx1.out.2.1 2;have q3:X3.cell? ⟨kx1,3,none⟩=some (.int .i64 (oneP sm1).depth):=bx1.out.2.1 3;have hc1:=ζ (G1.out X3 _ _ (hT.out _ hB.out) im1.out);go_upto_region 5 with(go_at_call 8;refine hc1.out.mono ?_;rintro r V1 ⟨rfl,b1⟩;replace b1:=ζ b1)
 clear q0 q1 q2 q3 hc1 G1;replace bx1:=ζ (at_past bx1.out b1.out);replace bx2:=ζ (at_past bx2.out b1.out);replace bx3:=ζ (at_past bx3.out b1.out);replace im1:=ζ (hI.out _ _ _ _ _ im1.out b1.out);replace im2:=ζ (hI.out _ _ _ _ _ im2.out b1.out);replace im3:=ζ (hI.out _ _ _ _ _ im3.out b1.out);replace hB:=ζ (hB.out.trans (b1.out.mono hB.out.size));clear b1;refine wp_world (fun X=>At X V1.heap.size #[.bool true,.int .u64 2,.int .u64 0,.int .u64 0]∧Below V1.heap.size V1 X) ⟨(by first|exact At.new V1 _ _|simpa using At.new V1 #[.bool true,.int .u64 2,.int .u64 0,.int .u64 0] _),(by repeat(first|exact Below.refl _ _|refine Below.alloc ?_ (by simp<;>omega) _|refine Below.setCell ?_ (by simp<;>omega) _))⟩ ?_;rintro X4 ⟨a4,hb4⟩;replace bx1:=ζ (at_past bx1.out hb4);replace bx2:=ζ (at_past bx2.out hb4);replace bx3:=ζ (at_past bx3.out hb4);replace im1:=ζ (hI.out _ _ _ _ _ im1.out hb4);replace im2:=ζ (hI.out _ _ _ _ _ im2.out hb4)
 replace im3:=ζ (hI.out _ _ _ _ _ im3.out hb4);replace hB:=ζ (hB.out.trans (hb4.mono hB.out.size));generalize V1.heap.size=kc1 at*;have cx1:=ζ a4;clear a4 hb4;have q0:X4.cell? ⟨kx2,0,none⟩=some (.slice none (oneP sm2).regs.length 0):=bx2.out.2.1 0;have q1:X4.cell? ⟨kx2,1,none⟩=some (.slice (some ⟨c2,0,none⟩) (oneP sm2).comps.length 1):=bx2.out.2.1 1;have q2:X4.cell? ⟨kx2,2,none⟩=some (.slice (some ⟨g2,0,none⟩) (oneP sm2).gates.length 1):=bx2.out.2.1 2;have q3:X4.cell? ⟨kx2,3,none⟩=some (.int .i64 (oneP sm2).depth):=bx2.out.2.1 3;have hc2:=ζ (G2.out X4 _ _ (hT.out _ hB.out) im2.out);go_upto_region 6 with(go_at_call 8;refine hc2.out.mono ?_;rintro r V2 ⟨rfl,b2⟩;replace b2:=ζ b2)
 clear q0 q1 q2 q3 hc2 G2;replace bx1:=ζ (at_past bx1.out b2.out);replace bx2:=ζ (at_past bx2.out b2.out);replace bx3:=ζ (at_past bx3.out b2.out);replace cx1:=ζ (at_past cx1.out b2.out);replace im1:=ζ (hI.out _ _ _ _ _ im1.out b2.out);replace im2:=ζ (hI.out _ _ _ _ _ im2.out b2.out);replace im3:=ζ (hI.out _ _ _ _ _ im3.out b2.out);replace hB:=ζ (hB.out.trans (b2.out.mono hB.out.size));clear b2;refine wp_world (fun X=>At X V2.heap.size #[.bool true,.int .u64 5,.int .u64 0,.int .u64 2]∧Below V2.heap.size V2 X) ⟨(by first|exact At.new V2 _ _|simpa using At.new V2 #[.bool true,.int .u64 5,.int .u64 0,.int .u64 2] _),(by repeat(first|exact Below.refl _ _|refine Below.alloc ?_ (by simp<;>omega) _|refine Below.setCell ?_ (by simp<;>omega) _))⟩ ?_;rintro X5 ⟨a5,hb5⟩;replace bx1:=ζ (at_past bx1.out hb5);replace bx2:=ζ (at_past bx2.out hb5);replace bx3:=ζ (at_past bx3.out hb5);replace cx1:=ζ (at_past cx1.out hb5)
 replace im1:=ζ (hI.out _ _ _ _ _ im1.out hb5);replace im2:=ζ (hI.out _ _ _ _ _ im2.out hb5);replace im3:=ζ (hI.out _ _ _ _ _ im3.out hb5);replace hB:=ζ (hB.out.trans (hb5.mono hB.out.size));generalize V2.heap.size=kc2 at*;have cx2:=ζ a5;clear a5 hb5;have q0:X5.cell? ⟨kx3,0,none⟩=some (.slice none (oneP sm3).regs.length 0):=bx3.out.2.1 0;have q1:X5.cell? ⟨kx3,1,none⟩=some (.slice (some ⟨c3,0,none⟩) (oneP sm3).comps.length 1):=bx3.out.2.1 1;have q2:X5.cell? ⟨kx3,2,none⟩=some (.slice (some ⟨g3,0,none⟩) (oneP sm3).gates.length 1):=bx3.out.2.1 2;have q3:X5.cell? ⟨kx3,3,none⟩=some (.int .i64 (oneP sm3).depth):=bx3.out.2.1 3;have hc3:=ζ (G3.out X5 _ _ (hT.out _ hB.out) im3.out);go_upto_region 7 with(go_at_call 8;refine hc3.out.mono ?_;rintro r V3 ⟨rfl,b3⟩;replace b3:=ζ b3)
 clear q0 q1 q2 q3 hc3 G3;replace bx1:=ζ (at_past bx1.out b3.out);replace bx2:=ζ (at_past bx2.out b3.out);replace bx3:=ζ (at_past bx3.out b3.out);replace cx1:=ζ (at_past cx1.out b3.out);replace cx2:=ζ (at_past cx2.out b3.out);replace im1:=ζ (hI.out _ _ _ _ _ im1.out b3.out);replace im2:=ζ (hI.out _ _ _ _ _ im2.out b3.out);replace im3:=ζ (hI.out _ _ _ _ _ im3.out b3.out);replace hB:=ζ (hB.out.trans (b3.out.mono hB.out.size));clear b3;refine wp_world (fun X=>At X V3.heap.size #[.bool false,.int .u64 0,.int .u64 0,.int .u64 0]∧Below V3.heap.size V3 X) ⟨(by first|exact At.new V3 _ _|simpa using At.new V3 #[.bool false,.int .u64 0,.int .u64 0,.int .u64 0] _),(by repeat(first|exact Below.refl _ _|refine Below.alloc ?_ (by simp<;>omega) _|refine Below.setCell ?_ (by simp<;>omega) _))⟩ ?_;rintro X6 ⟨a6,hb6⟩;replace bx1:=ζ (at_past bx1.out hb6);replace bx2:=ζ (at_past bx2.out hb6);replace bx3:=ζ (at_past bx3.out hb6)
 replace cx1:=ζ (at_past cx1.out hb6);replace cx2:=ζ (at_past cx2.out hb6);replace im1:=ζ (hI.out _ _ _ _ _ im1.out hb6);replace im2:=ζ (hI.out _ _ _ _ _ im2.out hb6);replace im3:=ζ (hI.out _ _ _ _ _ im3.out hb6);replace hB:=ζ (hB.out.trans (hb6.mono hB.out.size));generalize V3.heap.size=kc3 at*;have cx3:=ζ a6;clear a6 hb6;have q0:X6.cell? ⟨kx3,0,none⟩=some (.slice none (oneP sm3).regs.length 0):=bx3.out.2.1 0;have q1:X6.cell? ⟨kx3,1,none⟩=some (.slice (some ⟨c3,0,none⟩) (oneP sm3).comps.length 1):=bx3.out.2.1 1;have q2:X6.cell? ⟨kx3,2,none⟩=some (.slice (some ⟨g3,0,none⟩) (oneP sm3).gates.length 1):=bx3.out.2.1 2;have q3:X6.cell? ⟨kx3,3,none⟩=some (.int .i64 (oneP sm3).depth):=bx3.out.2.1 3;have hd:=ζ (D3.out X6 _ _ (hT.out _ hB.out) im3.out);unfold tupi at hd;go_upto_region 8 with(go_at_call 11;refine hd.out.mono ?_;rintro r V4 ⟨rfl,b4⟩;replace b4:=ζ b4)
 clear q0 q1 q2 q3 hd D3;replace bx1:=ζ (at_past bx1.out b4.out);replace bx2:=ζ (at_past bx2.out b4.out);replace bx3:=ζ (at_past bx3.out b4.out);replace cx1:=ζ (at_past cx1.out b4.out);replace cx2:=ζ (at_past cx2.out b4.out);replace cx3:=ζ (at_past cx3.out b4.out);replace im1:=ζ (hI.out _ _ _ _ _ im1.out b4.out);replace im2:=ζ (hI.out _ _ _ _ _ im2.out b4.out);replace im3:=ζ (hI.out _ _ _ _ _ im3.out b4.out);replace hB:=ζ (hB.out.trans (b4.out.mono hB.out.size));have e10:V4.cell? ⟨kc1,0,none⟩=some (.bool true):=cx1.out.2.1 0;have e11:V4.cell? ⟨kc1,1,none⟩=some (.int .u64 2):=cx1.out.2.1 1;have e12:V4.cell? ⟨kc1,2,none⟩=some (.int .u64 0):=cx1.out.2.1 2;have e13:V4.cell? ⟨kc1,3,none⟩=some (.int .u64 0):=cx1.out.2.1 3;have e20:V4.cell? ⟨kc2,0,none⟩=some (.bool true):=cx2.out.2.1 0;have e21:V4.cell? ⟨kc2,1,none⟩=some (.int .u64 5):=cx2.out.2.1 1;have e22:V4.cell? ⟨kc2,2,none⟩=some (.int .u64 0):=cx2.out.2.1 2
 have e23:V4.cell? ⟨kc2,3,none⟩=some (.int .u64 2):=cx2.out.2.1 3;have e30:V4.cell? ⟨kc3,0,none⟩=some (.bool false):=cx3.out.2.1 0;have e31:V4.cell? ⟨kc3,1,none⟩=some (.int .u64 0):=cx3.out.2.1 1;have e32:V4.cell? ⟨kc3,2,none⟩=some (.int .u64 0):=cx3.out.2.1 2;have e33:V4.cell? ⟨kc3,3,none⟩=some (.int .u64 0):=cx3.out.2.1 3;go_wp2_with fail;go_ret;exact⟨rfl,hB.out⟩
end Bd
end Go.Proofs.YthlpjlnehonpdaaGreatDoor
