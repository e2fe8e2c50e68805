import Derived.Test.YthlpjlnehonpdaaGreatDoorK05
import Derived.BigFrame
import Derived.Test.YthlpjlnehonpdaaGreatDoorK41
import Derived.Deep.RegionHeld3
import Derived.StillTactics
import Derived.Deep.DeepCutAuto
import Derived.DeepKeys
namespace Go.Proofs.YthlpjlnehonpdaaGreatDoor
set_option maxRecDepth 100000
set_option maxHeartbeats 40000000
namespace Q
open Go.RowKit
def rgMk (_:World)(v:RgV):Prop:=v=rgM
def gtMk (_:World)(v:GtV):Prop:=v=gtM
structure TwIn (kk kr kc kg:Nat)(W:World)(m:PImg)(lr:List RgV)(lc:List CpV)(lg:List GtV):Prop where
 r:At W kr (rowV [] RgV.vals lr).toArray
 c:At W kc (rowV [] CpV.vals lc).toArray
 g:At W kg (rowV [] GtV.vals lg).toArray
 rl:lr.length=m.regs.length+8
 cl:lc.length=m.comps.length+8
 gl:lg.length=m.gates.length+8
 rd:Done (RgOk kk) rgMk W m.regs lr (m.regs.length+8)
 cd:Done (CpOk kk) (CpMark kk) W m.comps lc (m.comps.length+8)
 gd:Done (GtOk kk) gtMk W m.gates lg (m.gates.length+8)
theorem rgOk_keep {kk:Nat}{W W':World}(k:Kt kk W W')(a:PReg)(b:RgV)(h:RgOk kk W a b):RgOk kk W' a b:=⟨h.1,h.2.1,h.2.2.1,h.2.2.2.keep k⟩
theorem cpOk_keep {kk:Nat}{W W':World}(k:Kt kk W W')(a:PComp)(b:CpV)(h:CpOk kk W a b):CpOk kk W' a b:=⟨h.1.keep k,h.2.keep k⟩
theorem gtOk_keep {kk:Nat}{W W':World}(k:Kt kk W W')(a:PGate)(b:GtV)(h:GtOk kk W a b):GtOk kk W' a b:=⟨h.1,h.2.1,h.2.2.1.keep k,h.2.2.2.keep k⟩
theorem cpMark_keep {kk:Nat}{W W':World}(k:Kt kk W W')(b:CpV)(h:CpMark kk W b):CpMark kk W' b:=by
 obtain⟨h1,g,h2,h3,h4⟩:=h;exact⟨h1,g,h2,h3,k.at_ h4 h3⟩
theorem range4 {W:World}{b o:Nat}{v0 v1 v2 v3:Value}(h0:W.cell? ⟨b,o,none⟩=some v0)(h1:W.cell? ⟨b,o+1,none⟩=some v1)(h2:W.cell? ⟨b,o+1+1,none⟩=some v2)(h3:W.cell? ⟨b,o+1+1+1,none⟩=some v3):W.rangeAt b o [v0,v1,v2,v3]:=fun j v q=>by
 match j with
 |0=>simp at q;subst q;exact h0
 |1=>simp at q;subst q;exact h1
 |2=>simp at q;subst q;exact h2
 |3=>simp at q;subst q;exact h3
 |j+4=>simp at q
theorem Tw.setO {w:World}{im out:List Value}{lr:List RgV}{lc:List CpV}{lg:List GtV}{W:World}(h:Tw w im out lr lc lg W)(i:Nat)(hi:i<out.length)(v:Value):Tw w im (out.set i v) lr lc lg (W.setCell ⟨w.heap.size+1+1,i,none⟩ v):=
 ⟨h.m.other (by omega) i [v],h.res.other (by omega) i [v],by have:=h.o.set i v (by simpa using hi);simpa using this,h.r.other (by omega) i [v],h.c.other (by omega) i [v],h.g.other (by omega) i [v],h.gr.setCells (w.heap.size+1+1) (by omega) [v] i⟩
theorem results_row {fn:Func}{p:Tmp}{ty:TypeId}{v:Value}{a:Addr}(h:fn.results=#[.cell p ty])(tmps:Array Value)(w:World)(ht:tmps.getD p undef=.pointer (some a))(hl:(loadVar ty a).run Tryz.prog w=.ok v w):
 (results fn tmps).run Tryz.prog w=.ok v w:=by
 have ht':tmps[p]?.getD undef=.pointer (some a):=by simpa using ht
 simp[results,h,ht',asAddr,hl]
theorem Twin_any (m:PImg)(ra ca ga:Option Addr)(rc cc gc:Nat)(w:World)(hm:ImgIn w.heap.size w ra ca ga m)(hF:TwFit m):Calls Tryz.prog 12 #[.agg [Value.slice ra m.regs.length rc,.slice ca m.comps.length cc,.slice ga m.gates.length gc,.int .i64 m.depth].toArray] w fun x w'=>x=.returned (.agg #[.slice (some ⟨w.heap.size+1+1+1,0,none⟩) m.regs.length (m.regs.length+8),.slice (some ⟨w.heap.size+1+1+1+1,0,none⟩) m.comps.length (m.comps.length+8),.slice (some ⟨w.heap.size+1+1+1+1+1,0,none⟩) m.gates.length (m.gates.length+8),.int .i64 m.depth])∧Gr w w'∧∃lr lc lg,TwIn (w.heap.size+1+1+1+1+1) (w.heap.size+1+1+1) (w.heap.size+1+1+1+1) (w.heap.size+1+1+1+1+1) w' m lr lc lg:=by
 have hr:=fun W=>make_k (vals:=RgV.vals) (Z:=rgZ) (t:=38) (e:=95) (k:=4) (b:=56) (by omega) rg_len Tryz.underlying38 (by kernel_rfl) (m.regs.length+8) (by have:=hF.r;omega) hF.r W
 rw[show ((m.regs.length+8:Nat):Int)=(m.regs.length:Int)+8 by omega]at hr;have hrw:wrap64 ((m.regs.length:Int)+8)=(m.regs.length:Int)+8:=by have:=hF.r;unfold wrap64;omega
 have hrx:IntKind.i64.wrap ((m.regs.length:Int)+8)=(m.regs.length:Int)+8:=by have:=hF.r;rw[IntKind.wrap_i64];omega
 have hc:=fun W=>make_k (vals:=CpV.vals) (Z:=cpZ) (t:=33) (e:=32) (k:=2) (b:=48) (by omega) cp_len Tryz.underlying33 (by kernel_rfl) (m.comps.length+8) (by have:=hF.c;omega) hF.c W
 rw[show ((m.comps.length+8:Nat):Int)=(m.comps.length:Int)+8 by omega]at hc;have hcw:wrap64 ((m.comps.length:Int)+8)=(m.comps.length:Int)+8:=by have:=hF.c;unfold wrap64;omega
 have hcx:IntKind.i64.wrap ((m.comps.length:Int)+8)=(m.comps.length:Int)+8:=by have:=hF.c;rw[IntKind.wrap_i64];omega
 have hg:=fun W=>make_k (vals:=GtV.vals) (Z:=gtZ) (t:=37) (e:=36) (k:=4) (b:=64) (by omega) gt_len Tryz.underlying37 (by kernel_rfl) (m.gates.length+8) (by have:=hF.g;omega) hF.g W
 rw[show ((m.gates.length+8:Nat):Int)=(m.gates.length:Int)+8 by omega]at hg;have hgw:wrap64 ((m.gates.length:Int)+8)=(m.gates.length:Int)+8:=by have:=hF.g;unfold wrap64;omega
 have hgx:IntKind.i64.wrap ((m.gates.length:Int)+8)=(m.gates.length:Int)+8:=by have:=hF.g;rw[IntKind.wrap_i64];omega
 have lr1:m.regs.length≤281474976710648:=by have:=hF.r;omega
 have lc1:m.comps.length≤281474976710648:=by have:=hF.c;omega
 have lg1:m.gates.length≤281474976710648:=by have:=hF.g;omega
 replace hm:=Hid.mk hm;replace hF:=Hid.mk hF;generalize eR:(Obj.cells (rowV [] RgV.vals (List.replicate (m.regs.length+8) rgZ)).toArray 95)=oR at*;generalize eC:(Obj.cells (rowV [] CpV.vals (List.replicate (m.comps.length+8) cpZ)).toArray 32)=oC at*;generalize eG:(Obj.cells (rowV [] GtV.vals (List.replicate (m.gates.length+8) gtZ)).toArray 36)=oG at*;replace eR:=Hid.mk eR;replace eC:=Hid.mk eC;replace eG:=Hid.mk eG;have eim:=Hid.mk (show [Value.slice ra m.regs.length rc,.slice ca m.comps.length cc,.slice ga m.gates.length gc,.int .i64 m.depth]=[Value.slice ra m.regs.length rc,.slice ca m.comps.length cc,.slice ga m.gates.length gc,.int .i64 m.depth]from rfl);generalize hIM:[Value.slice ra m.regs.length rc,.slice ca m.comps.length cc,.slice ga m.gates.length gc,.int .i64 m.depth]=im at eim;go_enter Tryz.func12,Tryz.ntmps12;go_upto_region 1 with fail
 refine wp_world (fun W=>At W w.heap.size im.toArray∧At W (w.heap.size+1) #[.slice none 0 0,.slice none 0 0,.slice none 0 0,.int .i64 0]∧Gr w W∧W.heap.size=w.heap.size+1+1) ⟨by rw[←hIM];exact(At.at_ w _ _ rfl).alloc _,At.at_ _ _ _ (by simp),((Gr.refl w).alloc _).alloc _,by simp⟩ ?_;rintro Wa ⟨b0,b1,G,hs⟩;replace b0:=Hid.mk b0;replace b1:=Hid.mk b1;replace G:=Hid.mk G;have c3:Wa.cell? ⟨w.heap.size,3,none⟩=some (.int .i64 m.depth):=by rw[b0.out.2.1,←hIM];rfl
 refine wp_region_lit ?_;iterate 4 (refine xp fun K hK=>?_;go_simp;with_reducible refine hK _ _ ?_;clear hK K;(try simp only[xap]))
 have b2:=Hid.mk (At.new' Wa [.slice none 0 0,.slice none 0 0,.slice none 0 0,.int .i64 0] 40 hs);refine xp fun K hK=>?_
 refine wp_store_mid _ _ _ rfl _ _ (List.toArray [Value.slice none 0 0,.slice none 0 0,.slice none 0 0,.int .i64 m.depth]) rfl rfl (b2.out.there 0 _ (by simp)) (by kernel_rfl) (all_oneCell_toArray (by intro v hv;simp at hv;rcases hv with rfl|rfl<;>rfl)) (hK _ _ ?_);clear hK K;try simp only[Act.put]
 replace b2:=Hid.mk (b2.out.setAll [Value.slice none 0 0,.slice none 0 0,.slice none 0 0,.int .i64 m.depth] rfl);replace b0:=Hid.mk ((b0.out.alloc (Obj.cells #[.slice none 0 0,.slice none 0 0,.slice none 0 0,.int .i64 0] 40)).other (b':=w.heap.size+1+1) (by omega) 0 [Value.slice none 0 0,.slice none 0 0,.slice none 0 0,.int .i64 m.depth]);replace b1:=Hid.mk ((b1.out.alloc (Obj.cells #[.slice none 0 0,.slice none 0 0,.slice none 0 0,.int .i64 0] 40)).other (b':=w.heap.size+1+1) (by omega) 0 [Value.slice none 0 0,.slice none 0 0,.slice none 0 0,.int .i64 m.depth]);replace G:=Hid.mk ((G.out.alloc (Obj.cells #[.slice none 0 0,.slice none 0 0,.slice none 0 0,.int .i64 0] 40)).setCells (w.heap.size+1+1) (by omega) [Value.slice none 0 0,.slice none 0 0,.slice none 0 0,.int .i64 m.depth] 0);replace hs:(World.setCells (Wa.alloc (Obj.cells #[.slice none 0 0,.slice none 0 0,.slice none 0 0,.int .i64 0] 40)) (w.heap.size+1+1) 0 [Value.slice none 0 0,.slice none 0 0,.slice none 0 0,.int .i64 m.depth]).heap.size=w.heap.size+1+1+1:=by rw[setCells_size];simp[hs]
 clear c3;generalize World.setCells _ _ _ _=W1 at*;have c0:W1.cell? ⟨w.heap.size,0,none⟩=some (.slice ra m.regs.length rc):=by rw[b0.out.2.1,←hIM];rfl
 go_upto_region 2 with fail;refine wp_region_lit ?_;iterate 6 (refine xp fun K hK=>?_;go_simp;with_reducible refine hK _ _ ?_;clear hK K;(try simp only[xap]))
 go_upto_region 3 with fail;have b3:Hid (At (W1.alloc oR) (w.heap.size+1+1+1) (rowV [] RgV.vals (List.replicate (m.regs.length+8) rgZ)).toArray):=Hid.mk (by rw[←eR.out];exact At.new' _ _ _ hs);replace b0:=Hid.mk (b0.out.alloc oR);replace b1:=Hid.mk (b1.out.alloc oR);replace b2:=Hid.mk (b2.out.alloc oR);replace G:=Hid.mk (G.out.alloc oR);replace hs:(W1.alloc oR).heap.size=w.heap.size+1+1+1+1:=by simp[hs]
 clear c0 hr;generalize W1.alloc oR=W2 at*;have c0:W2.cell? ⟨w.heap.size,1,none⟩=some (.slice ca m.comps.length cc):=by rw[b0.out.2.1,←hIM];rfl
 refine wp_region_lit ?_;iterate 6 (refine xp fun K hK=>?_;go_simp;with_reducible refine hK _ _ ?_;clear hK K;(try simp only[xap]))
 go_upto_region 4 with fail;have b4:Hid (At (W2.alloc oC) (w.heap.size+1+1+1+1) (rowV [] CpV.vals (List.replicate (m.comps.length+8) cpZ)).toArray):=Hid.mk (by rw[←eC.out];exact At.new' _ _ _ hs);replace b0:=Hid.mk (b0.out.alloc oC);replace b1:=Hid.mk (b1.out.alloc oC);replace b2:=Hid.mk (b2.out.alloc oC);replace b3:=Hid.mk (b3.out.alloc oC);replace G:=Hid.mk (G.out.alloc oC);replace hs:(W2.alloc oC).heap.size=w.heap.size+1+1+1+1+1:=by simp[hs]
 clear c0 hc;generalize W2.alloc oC=W3 at*;have c0:W3.cell? ⟨w.heap.size,2,none⟩=some (.slice ga m.gates.length gc):=by rw[b0.out.2.1,←hIM];rfl
 refine wp_region_lit ?_;iterate 6 (refine xp fun K hK=>?_;go_simp;with_reducible refine hK _ _ ?_;clear hK K;(try simp only[xap]))
 go_upto_region 6 with fail;have T0:Hid (Tw w im [Value.slice none 0 0,.slice none 0 0,.slice none 0 0,.int .i64 m.depth] (List.replicate (m.regs.length+8) rgZ) (List.replicate (m.comps.length+8) cpZ) (List.replicate (m.gates.length+8) gtZ) (W3.alloc oG)):=Hid.mk ⟨b0.out.alloc oG,b1.out.alloc oG,b2.out.alloc oG,b3.out.alloc oG,b4.out.alloc oG,by rw[←eG.out];exact At.new' _ _ _ hs,G.out.alloc oG⟩;replace hs:w.heap.size+1+1+1+1+1<(W3.alloc oG).heap.size:=by simp[hs]
 clear c0 hg b0 b1 b2 b3 b4 G eR eC eG;have D0:=Hid.mk (Done.zero (RgOk (w.heap.size+1+1+1+1+1)) rgMk (W3.alloc oG) m.regs (List.replicate (m.regs.length+8) rgZ));have L0:Hid ((List.replicate (m.regs.length+8) rgZ).length=m.regs.length+8):=Hid.mk (by simp);generalize W3.alloc oG=W4 at*;generalize List.replicate (m.regs.length+8) rgZ=lr0 at*;generalize elc:List.replicate (m.comps.length+8) cpZ=lc0 at*;generalize elg:List.replicate (m.gates.length+8) gtZ=lg0 at*;replace elc:=Hid.mk elc;replace elg:=Hid.mk elg;go_loopw [7] (fun x wr=>∃(i:Nat) (lr:List RgV),x=.int .i64 i∧i≤m.regs.length+8∧Hid (Tw w im [Value.slice none 0 0,.slice none 0 0,.slice none 0 0,.int .i64 m.depth] lr lc0 lg0 wr)∧Hid (lr.length=m.regs.length+8)∧Hid (Done (RgOk (w.heap.size+1+1+1+1+1)) rgMk wr m.regs lr i)∧Hid (w.heap.size+1+1+1+1+1<wr.heap.size)) (fun x _=>m.regs.length+8 - (intOf x).toNat)
 case atStart=>exact⟨0,lr0,rfl,by omega,T0,L0,D0,Hid.mk hs⟩
 case round=>
  clear T0 L0 D0 hs;obtain⟨i,lr,rfl,hi,T0,L0,D0,hs⟩:=hrel;by_cases hlt:i<m.regs.length+8
  ·have hi1:(i:Int)<(m.regs.length:Int)+8:=by omega
   have hil:i<lr.length:=by rw[L0.out];exact hlt
   go_upto_region 8 with fail;refine wp_region_lit ?_;iterate 4 (refine xp fun K hK=>?_;go_simp;with_reducible refine hK _ _ ?_;clear hK K;(try simp only[xap]))
   have hT:=Hid.mk (T0.out.r.there (i*4) 4 (by rw[row_len rg_len,L0.out];simp;omega));have K0:=Hid.mk ((Kt.refl (w.heap.size+1+1+1+1+1) wr).sets (w.heap.size+1+1+1) (i*4) rgM.vals (.inl (by omega)));have T1:=Hid.mk (T0.out.setR i hil rgM);refine xp fun K hK=>?_
   refine wp_store_mid _ _ _ rfl _ _ (List.toArray (RgV.vals rgM)) rfl rfl hT.out (by kernel_rfl) (all_oneCell_toArray (rg_one _)) (hK _ _ ?_);clear hK K hT;try simp only[Act.put]
   have c0:(World.setCells wr (w.heap.size+1+1+1) (i*4) rgM.vals).cell? ⟨w.heap.size,0,none⟩=some (.slice ra m.regs.length rc):=by rw[T1.out.m.2.1,←hIM];rfl
   generalize World.setCells _ _ _ _=V1 at*;by_cases hn:i<m.regs.length
   ·have hin:(i:Int)<(m.regs.length:Int):=by omega
    obtain⟨rb,off,sa,sc,hra,hb1,hb2,k0,k1,k2,k3,kf⟩:=hm.out.regs i hn;subst hra;have hfit:=hF.out.rs _ (List.getElem_mem hn);have hrr:Hid (m.regs[i]=m.regs[i]):=Hid.mk rfl;generalize hrg:m.regs[i]=rr at k0 k1 k2 k3 kf hfit hrr;replace hrg:=Hid.mk hrg;replace k0:=Hid.mk k0;replace k1:=Hid.mk k1;replace k2:=Hid.mk k2;replace k3:=Hid.mk k3;replace kf:=Hid.mk kf;replace hfit:=Hid.mk hfit;have rg:=Hid.mk (range4 ((T1.out.gr.below.cell (p:=⟨rb,off+i*4,none⟩) hb1).trans k0.out) ((T1.out.gr.below.cell (p:=⟨rb,off+i*4+1,none⟩) hb1).trans k1.out) ((T1.out.gr.below.cell (p:=⟨rb,off+i*4+1+1,none⟩) hb1).trans k2.out) ((T1.out.gr.below.cell (p:=⟨rb,off+i*4+1+1+1,none⟩) hb1).trans k3.out));go_upto_region 10 with fail;refine wp_region_lit ?_;iterate 4 (refine xp fun K hK=>?_;go_simp;with_reducible refine hK _ _ ?_;clear hK K;(try simp only[xap]))
    refine xp fun K hK=>?_
    refine wp_load_mid _ _ rfl _ (off+i*4) rfl [Value.int .u64 rr.b,.int .u64 rr.n,.string (str rr.data),.slice sa rr.slots.length sc] _ rg.out Tryz.underlying95 rfl (by kernel_rfl) (hK _ _ ?_);clear hK K;try simp only[xap]
    refine xp fun K hK=>?_
    go_simp;with_reducible refine hK _ _ ?_
    clear hK K;try simp only[xap]
    have bx:=Hid.mk (At.new V1 [Value.int .u64 0,.int .u64 0,.string {data:=#[]},.slice none 0 0].toArray 95);refine xp fun K hK=>?_
    refine wp_store_mid _ _ _ rfl _ _ (List.toArray [Value.int .u64 rr.b,.int .u64 rr.n,.string (str rr.data),.slice sa rr.slots.length sc]) rfl rfl (bx.out.there 0 _ (by simp)) (by kernel_rfl) (all_oneCell_toArray (rg_one ⟨rr.b,rr.n,rr.data,⟨sa,rr.slots.length,sc⟩⟩)) (hK _ _ ?_);clear hK K;try simp only[Act.put]
    replace bx:=Hid.mk (bx.out.setAll [Value.int .u64 rr.b,.int .u64 rr.n,.string (str rr.data),.slice sa rr.slots.length sc] rfl);have hk1:w.heap.size+1+1+1+1+1<V1.heap.size:=Nat.lt_of_lt_of_le hs.out K0.out.size;have hk2:wr.heap.size≤V1.heap.size:=K0.out.size;have T2:=Hid.mk ((T1.out.grow ((Gr.refl V1).alloc (Obj.cells [Value.int .u64 0,.int .u64 0,.string {data:=#[]},.slice none 0 0].toArray 95))).sets V1.heap.size 0 [Value.int .u64 rr.b,.int .u64 rr.n,.string (str rr.data),.slice sa rr.slots.length sc] hk1);have K2:=Hid.mk ((K0.out.trans (Kt.gr ((Gr.refl V1).alloc (Obj.cells [Value.int .u64 0,.int .u64 0,.string {data:=#[]},.slice none 0 0].toArray 95)))).sets V1.heap.size 0 [Value.int .u64 rr.b,.int .u64 rr.n,.string (str rr.data),.slice sa rr.slots.length sc] (.inr hk2));clear T1 K0 rg c0;generalize World.setCells _ _ _ _=V2 at*;generalize V1.heap.size=kx at*;have c0:V2.cell? ⟨w.heap.size,0,none⟩=some (.slice (some ⟨rb,off,none⟩) m.regs.length rc):=by rw[T2.out.m.2.1,←hIM];rfl
    have c1:V2.cell? ⟨rb,off+i*4+1+1+1,none⟩=some (.slice sa rr.slots.length sc):=((T2.out.gr.below.cell (p:=⟨rb,off+i*4+1+1+1,none⟩) hb1).trans k3.out);have hk3:w.heap.size+1+1+1+1+1<V2.heap.size:=Nat.lt_trans hk1 bx.out.1;have hcl:=Hid.mk (slots_all rr.slots sa sc w.heap.size kx V2 (kf.out.below T2.out.gr.below) hfit.out T2.out.gr.below.size bx.out.1);go_upto_region 11 with fail
    refine wp_region_lit ?_;iterate 6 (refine xp fun K hK=>?_;go_simp;with_reducible refine hK _ _ ?_;clear hK K;(try simp only[xap]))
    refine xp fun K hK=>?_
    go_simp
    (go_at_call 26;refine hcl.out.mono ?_;rintro x wq ⟨s,rfl,qs,q9⟩;replace q9:=Hid.mk q9;replace qs:=Hid.mk qs)
    with_reducible refine hK _ _ ?_
    clear hK K;try simp only[xap]
    refine xp fun K hK=>?_
    go_simp;with_reducible refine hK _ _ ?_
    clear hK K;try simp only[xap]
    have d1:∃y,wq.cell? ⟨kx,3,none⟩=some y:=⟨_,(bx.out.gr q9.out).2.1 3⟩;obtain⟨y9,d1⟩:=d1;have d2:wq.frozen? ⟨kx,3,none⟩=false:=(bx.out.gr q9.out).2.2 3;refine xp fun K hK=>?_
    go_simp;with_reducible refine hK _ _ ?_
    clear hK K d1 d2 y9;try simp only[Act.put]
    have x9:=Hid.mk ((Kt.refl kx wq).set kx 3 (.slice s.a s.l s.c) (.inl (Nat.le_refl _)));replace qs:=Hid.mk (qs.out.keep x9.out);replace bx:=Hid.mk (show At (World.setCell wq ⟨kx,3,none⟩ (.slice s.a s.l s.c)) kx (List.toArray [Value.int .u64 rr.b,.int .u64 rr.n,.string (str rr.data),.slice s.a s.l s.c])from(bx.out.gr q9.out).set 3 (.slice s.a s.l s.c) (by simp));replace K2:=Hid.mk ((K2.out.trans (Kt.gr q9.out)).set kx 3 (.slice s.a s.l s.c) (.inr hk2));replace T2:=Hid.mk (show Tw w im [Value.slice none 0 0,.slice none 0 0,.slice none 0 0,.int .i64 m.depth] _ _ _ (World.setCell wq ⟨kx,3,none⟩ (.slice s.a s.l s.c))from(T2.out.grow q9.out).sets kx 3 [.slice s.a s.l s.c] hk1);clear q9 x9 hcl c0 c1 hk3;generalize World.setCell _ _ _=V3 at*;go_upto_region 12 with fail
    refine wp_region_lit ?_;iterate 2 (refine xp fun K hK=>?_;go_simp;with_reducible refine hK _ _ ?_;clear hK K;(try simp only[xap]))
    refine xp fun K hK=>?_
    refine wp_load_mid _ _ rfl _ 0 rfl (RgV.vals ⟨rr.b,rr.n,rr.data,s⟩) _ bx.out.range Tryz.underlying95 rfl (by kernel_rfl) (hK _ _ ?_);clear hK K;try simp only[xap]
    refine xp fun K hK=>?_
    go_simp;with_reducible refine hK _ _ ?_
    clear hK K;try simp only[xap]
    have hT:=Hid.mk (T2.out.r.there (i*4) 4 (by rw[row_len rg_len,List.length_set,L0.out];simp;omega));have hl2:i<(lr.set i rgM).length:=by rw[List.length_set];exact hil
    have T3:=Hid.mk (T2.out.setR i hl2 ⟨rr.b,rr.n,rr.data,s⟩);rw[List.set_set]at T3;have K3:=Hid.mk (K2.out.sets (w.heap.size+1+1+1) (i*4) (RgV.vals ⟨rr.b,rr.n,rr.data,s⟩) (.inl (by omega)));have x9:=Hid.mk ((Kt.refl kx V3).sets (w.heap.size+1+1+1) (i*4) (RgV.vals ⟨rr.b,rr.n,rr.data,s⟩) (.inl (by omega)));refine xp fun K hK=>?_
    refine wp_store_mid _ _ _ rfl _ _ (List.toArray (RgV.vals ⟨rr.b,rr.n,rr.data,s⟩)) rfl rfl hT.out (by kernel_rfl) (all_oneCell_toArray (rg_one _)) (hK _ _ ?_);clear hK K hT hl2 bx T2 K2;try simp only[Act.put]
    generalize World.setCells _ _ _ _=V4 at*;replace qs:=Hid.mk ((qs.out.keep x9.out).mono (Nat.le_of_lt hk1));have D1:=Hid.mk ((D0.out.keep (rgOk_keep K3.out) (fun _ h=>h)).next hil ⟨rr.b,rr.n,rr.data,s⟩ (fun _=>by rw[hrg.out];exact⟨rfl,rfl,rfl,qs.out⟩) (fun h=>by omega));have L1:Hid ((lr.set i ⟨rr.b,rr.n,rr.data,s⟩).length=m.regs.length+8):=Hid.mk (by rw[List.length_set];exact L0.out);have hs3:=Hid.mk (Nat.lt_of_lt_of_le hs.out K3.out.size);clear x9 qs D0 L0 hs hrg hrr k0 k1 k2 k3 kf hfit;clear K3;go_wp2_with fail;exact⟨⟨i+1,_,by go_num,by omega,T3,L1,D1,hs3⟩,by simp[intOf];omega⟩
   ·have hin:¬(i:Int)<(m.regs.length:Int):=by omega
    have T3:=T1;have K3:=K0;have D1:=Hid.mk ((D0.out.keep (rgOk_keep K3.out) (fun _ h=>h)).next hil rgM (fun h=>absurd h hn) (fun _=>rfl));have L1:Hid ((lr.set i rgM).length=m.regs.length+8):=Hid.mk (by rw[List.length_set];exact L0.out);have hs3:=Hid.mk (Nat.lt_of_lt_of_le hs.out K3.out.size);clear D0 L0 hs T1 K0;clear K3;go_wp2_with fail;exact⟨⟨i+1,_,by go_num,by omega,T3,L1,D1,hs3⟩,by simp[intOf];omega⟩
  ·have hi1:¬(i:Int)<(m.regs.length:Int)+8:=by omega
   have ei:i=m.regs.length+8:=by omega
   subst ei;replace D0:=Hid.mk (show Done (RgOk (w.heap.size+1+1+1+1+1)) rgMk wr m.regs lr (m.regs.length+8)from D0.out);have LR:=L0;have DR:=D0;have LC:Hid (lc0.length=m.comps.length+8):=Hid.mk (by rw[←elc.out];simp);have DC:=Hid.mk (Done.zero (CpOk (w.heap.size+1+1+1+1+1)) (CpMark (w.heap.size+1+1+1+1+1)) wr m.comps lc0);clear L0 D0;go_upto_region 14 with fail
   generalize wr=Wb at*;go_loopw [9] (fun x wr=>∃(i:Nat) (lc:List CpV),x=.int .i64 i∧i≤m.comps.length+8∧Hid (Tw w im [Value.slice none 0 0,.slice none 0 0,.slice none 0 0,.int .i64 m.depth] lr lc lg0 wr)∧Hid (lc.length=m.comps.length+8)∧Hid (Done (CpOk (w.heap.size+1+1+1+1+1)) (CpMark (w.heap.size+1+1+1+1+1)) wr m.comps lc i)∧Hid (Done (RgOk (w.heap.size+1+1+1+1+1)) rgMk wr m.regs lr (m.regs.length+8))∧Hid (w.heap.size+1+1+1+1+1<wr.heap.size)) (fun x _=>m.comps.length+8 - (intOf x).toNat)
   case atStart=>exact⟨0,lc0,rfl,by omega,T0,LC,DC,DR,hs⟩
   case round=>
    clear T0 LC DC DR hs;obtain⟨i,lc,rfl,hi,T0,L0,D0,DR,hs⟩:=hrel;by_cases hlt:i<m.comps.length+8
    ·have hi1:(i:Int)<(m.comps.length:Int)+8:=by omega
     have hil:i<lc.length:=by rw[L0.out];exact hlt
     go_upto_region 16 with fail;refine wp_region_lit ?_;iterate 6 (refine xp fun K hK=>?_;go_simp;with_reducible refine hK _ _ ?_;clear hK K;(try simp only[xap]))
     have hT:=Hid.mk ((T0.out.c.alloc (Obj.cells #[.int .i64 (-7),.int .u64 0,.int .u64 0,.int .u64 0,.int .u8 0,.int .i64 0] 98)).there (i*2) 2 (by rw[row_len cp_len,L0.out];simp;omega));have K0:=Hid.mk (((Kt.refl (w.heap.size+1+1+1+1+1) wr).trans (Kt.gr ((Gr.refl wr).alloc (Obj.cells #[.int .i64 (-7),.int .u64 0,.int .u64 0,.int .u64 0,.int .u8 0,.int .i64 0] 98)))).sets (w.heap.size+1+1+1+1) (i*2) (CpV.vals (⟨⟨some ⟨wr.heap.size,0,none⟩,1,1⟩,nilS⟩:CpV)) (.inl (by omega)));have T1:=Hid.mk ((T0.out.grow ((Gr.refl wr).alloc (Obj.cells #[.int .i64 (-7),.int .u64 0,.int .u64 0,.int .u64 0,.int .u8 0,.int .i64 0] 98))).setC i hil (⟨⟨some ⟨wr.heap.size,0,none⟩,1,1⟩,nilS⟩:CpV));have bm:Hid (At (World.setCells (wr.alloc (Obj.cells #[.int .i64 (-7),.int .u64 0,.int .u64 0,.int .u64 0,.int .u8 0,.int .i64 0] 98)) (w.heap.size+1+1+1+1) (i*2) (CpV.vals (⟨⟨some ⟨wr.heap.size,0,none⟩,1,1⟩,nilS⟩:CpV))) wr.heap.size (rowV [] PRoot.vals [rootM]).toArray):=Hid.mk ((At.new wr _ _).other (by have:=hs.out;omega) _ _)
     refine xp fun K hK=>?_
     refine wp_store_mid _ _ _ rfl _ _ (List.toArray (CpV.vals (⟨⟨some ⟨wr.heap.size,0,none⟩,1,1⟩,nilS⟩:CpV))) rfl rfl hT.out (by kernel_rfl) (all_oneCell_toArray (cp_one _)) (hK _ _ ?_);clear hK K hT;try simp only[Act.put]
     have c0:(World.setCells (wr.alloc (Obj.cells #[.int .i64 (-7),.int .u64 0,.int .u64 0,.int .u64 0,.int .u8 0,.int .i64 0] 98)) (w.heap.size+1+1+1+1) (i*2) (CpV.vals (⟨⟨some ⟨wr.heap.size,0,none⟩,1,1⟩,nilS⟩:CpV))).cell? ⟨w.heap.size,1,none⟩=some (.slice ca m.comps.length cc):=by rw[T1.out.m.2.1,←hIM];rfl
     generalize World.setCells _ _ _ _=V1 at*;by_cases hn:i<m.comps.length
     ·have hin:(i:Int)<(m.comps.length:Int):=by omega
      obtain⟨cb,off,ra',rc',ka,kc,hca,hb1,hb2,k0,k1,kr,kl⟩:=hm.out.comps i hn;subst hca;have hfit:=hF.out.cs _ (List.getElem_mem hn);generalize hrg:m.comps[i]=rr at k0 k1 kr kl hfit;replace hrg:=Hid.mk hrg;replace k0:=Hid.mk k0;replace k1:=Hid.mk k1;replace kr:=Hid.mk kr;replace kl:=Hid.mk kl;replace hfit:=Hid.mk hfit;have T2:=T1;have K2:=K0;clear T1 K0 c0;have c0:V1.cell? ⟨w.heap.size,1,none⟩=some (.slice (some ⟨cb,off,none⟩) m.comps.length cc):=by rw[T2.out.m.2.1,←hIM];rfl
      have c1:V1.cell? ⟨cb,off+i*2,none⟩=some (.slice ra' rr.roots.length rc'):=((T2.out.gr.below.cell (p:=⟨cb,off+i*2,none⟩) hb1).trans k0.out);have hcl:=Hid.mk (roots_all rr.roots ra' rc' w.heap.size (w.heap.size+1+1+1+1+1) V1 (kr.out.below T2.out.gr.below) hfit.out.1 T2.out.gr.below.size (Nat.lt_of_lt_of_le hs.out K2.out.size));go_upto_region 18 with fail
      refine wp_region_lit ?_;iterate 6 (refine xp fun K hK=>?_;go_simp;with_reducible refine hK _ _ ?_;clear hK K;(try simp only[xap]))
      refine xp fun K hK=>?_
      go_simp
      (go_at_call 27;refine hcl.out.mono ?_;rintro x wq ⟨s,rfl,qs,q9⟩;replace q9:=Hid.mk q9;replace qs:=Hid.mk qs)
      with_reducible refine hK _ _ ?_
      clear hK K;try simp only[xap]
      refine xp fun K hK=>?_
      go_simp;with_reducible refine hK _ _ ?_
      clear hK K;try simp only[xap]
      replace T2:=Hid.mk (T2.out.grow q9.out);replace K2:=Hid.mk (K2.out.trans (Kt.gr q9.out));clear q9 hcl c0 c1;generalize wq=V2 at*;have c0:V2.cell? ⟨w.heap.size,1,none⟩=some (.slice (some ⟨cb,off,none⟩) m.comps.length cc):=by rw[T2.out.m.2.1,←hIM];rfl
      have c1:V2.cell? ⟨cb,off+i*2+1,none⟩=some (.slice ka rr.code.length kc):=((T2.out.gr.below.cell (p:=⟨cb,off+i*2+1,none⟩) hb1).trans k1.out);have hcl:=Hid.mk (insts_all rr.code ka kc w.heap.size (w.heap.size+1+1+1+1+1) V2 (kl.out.below T2.out.gr.below) hfit.out.2 T2.out.gr.below.size (Nat.lt_of_lt_of_le hs.out K2.out.size));go_upto_region 19 with fail
      refine wp_region_lit ?_;iterate 6 (refine xp fun K hK=>?_;go_simp;with_reducible refine hK _ _ ?_;clear hK K;(try simp only[xap]))
      refine xp fun K hK=>?_
      go_simp
      (go_at_call 28;refine hcl.out.mono ?_;rintro x wq ⟨t,rfl,qt,q9⟩;replace q9:=Hid.mk q9;replace qt:=Hid.mk qt)
      with_reducible refine hK _ _ ?_
      clear hK K;try simp only[xap]
      refine xp fun K hK=>?_
      go_simp;with_reducible refine hK _ _ ?_
      clear hK K;try simp only[xap]
      replace T2:=Hid.mk (T2.out.grow q9.out);replace K2:=Hid.mk (K2.out.trans (Kt.gr q9.out));replace qs:=Hid.mk (qs.out.keep (Kt.gr q9.out));clear q9 hcl c0 c1;generalize wq=V3 at*;go_upto_region 20 with fail
      refine wp_region_lit ?_;iterate 6 (refine xp fun K hK=>?_;go_simp;with_reducible refine hK _ _ ?_;clear hK K;(try simp only[xap]))
      have kx:Nat:=0;have bx:=True.intro;have hT:=Hid.mk (T2.out.c.there (i*2) 2 (by rw[row_len cp_len,List.length_set,L0.out];simp;omega));have hl2:i<(lc.set i (⟨⟨some ⟨wr.heap.size,0,none⟩,1,1⟩,nilS⟩:CpV)).length:=by rw[List.length_set];exact hil
      have T3:=Hid.mk (T2.out.setC i hl2 ⟨s,t⟩);rw[List.set_set]at T3;have K3:=Hid.mk (K2.out.sets (w.heap.size+1+1+1+1) (i*2) (CpV.vals ⟨s,t⟩) (.inl (by omega)));have x9:=Hid.mk ((Kt.refl (w.heap.size+1+1+1+1+1) V3).sets (w.heap.size+1+1+1+1) (i*2) (CpV.vals ⟨s,t⟩) (.inl (by omega)));refine xp fun K hK=>?_
      refine wp_store_mid _ _ _ rfl _ _ (List.toArray (CpV.vals ⟨s,t⟩)) rfl rfl hT.out (by kernel_rfl) (all_oneCell_toArray (cp_one _)) (hK _ _ ?_);clear hK K hT hl2 bx T2 K2;try simp only[Act.put]
      generalize World.setCells _ _ _ _=V4 at*;replace qs:=Hid.mk (qs.out.keep x9.out);replace qt:=Hid.mk (qt.out.keep x9.out);have D1:=Hid.mk ((D0.out.keep (cpOk_keep K3.out) (cpMark_keep K3.out)).next hil ⟨s,t⟩ (fun _=>by rw[hrg.out];exact⟨qs.out,qt.out⟩) (fun h=>by omega));have L1:Hid ((lc.set i ⟨s,t⟩).length=m.comps.length+8):=Hid.mk (by rw[List.length_set];exact L0.out);have hs3:=Hid.mk (Nat.lt_of_lt_of_le hs.out K3.out.size);have R1:=Hid.mk (DR.out.keep (rgOk_keep K3.out) (fun _ h=>h));clear x9 qs qt D0 L0 hs hrg k0 k1 kr kl hfit DR kx;clear K3;go_wp2_with fail;exact⟨⟨i+1,_,by go_num,by omega,T3,L1,D1,R1,hs3⟩,by simp[intOf];omega⟩
     ·have hin:¬(i:Int)<(m.comps.length:Int):=by omega
      have T3:=T1;have K3:=K0;have D1:=Hid.mk ((D0.out.keep (cpOk_keep K3.out) (cpMark_keep K3.out)).next hil (⟨⟨some ⟨wr.heap.size,0,none⟩,1,1⟩,nilS⟩:CpV) (fun h=>absurd h hn) (fun _=>⟨rfl,wr.heap.size,rfl,hs.out,bm.out⟩));have L1:Hid ((lc.set i (⟨⟨some ⟨wr.heap.size,0,none⟩,1,1⟩,nilS⟩:CpV)).length=m.comps.length+8):=Hid.mk (by rw[List.length_set];exact L0.out);have hs3:=Hid.mk (Nat.lt_of_lt_of_le hs.out K3.out.size);have R1:=Hid.mk (DR.out.keep (rgOk_keep K3.out) (fun _ h=>h));clear D0 L0 hs T1 K0 DR bm;clear K3;go_wp2_with fail;exact⟨⟨i+1,_,by go_num,by omega,T3,L1,D1,R1,hs3⟩,by simp[intOf];omega⟩
    ·have hi1:¬(i:Int)<(m.comps.length:Int)+8:=by omega
     have ei:i=m.comps.length+8:=by omega
     subst ei;have LCC:=L0;have DC:=D0;have LG:Hid (lg0.length=m.gates.length+8):=Hid.mk (by rw[←elg.out];simp);have DG:=Hid.mk (Done.zero (GtOk (w.heap.size+1+1+1+1+1)) gtMk wr m.gates lg0);clear L0 D0;go_upto_region 22 with fail
     generalize wr=Wc at*;go_loopw [12] (fun x wr=>∃(i:Nat) (lg:List GtV),x=.int .i64 i∧i≤m.gates.length+8∧Hid (Tw w im [Value.slice none 0 0,.slice none 0 0,.slice none 0 0,.int .i64 m.depth] lr lc lg wr)∧Hid (lg.length=m.gates.length+8)∧Hid (Done (GtOk (w.heap.size+1+1+1+1+1)) gtMk wr m.gates lg i)∧Hid (Done (CpOk (w.heap.size+1+1+1+1+1)) (CpMark (w.heap.size+1+1+1+1+1)) wr m.comps lc (m.comps.length+8))∧Hid (Done (RgOk (w.heap.size+1+1+1+1+1)) rgMk wr m.regs lr (m.regs.length+8))∧Hid (w.heap.size+1+1+1+1+1<wr.heap.size)) (fun x _=>m.gates.length+8 - (intOf x).toNat)
     case atStart=>exact⟨0,lg0,rfl,by omega,T0,LG,DG,DC,DR,hs⟩
     case round=>
      clear T0 LG DG DC DR hs;obtain⟨i,lg,rfl,hi,T0,L0,D0,DC,DR,hs⟩:=hrel;by_cases hlt:i<m.gates.length+8
      ·have hi1:(i:Int)<(m.gates.length:Int)+8:=by omega
       have hil:i<lg.length:=by rw[L0.out];exact hlt
       go_upto_region 24 with fail;refine wp_region_lit ?_;iterate 4 (refine xp fun K hK=>?_;go_simp;with_reducible refine hK _ _ ?_;clear hK K;(try simp only[xap]))
       have hT:=Hid.mk (T0.out.g.there (i*4) 4 (by rw[row_len gt_len,L0.out];simp;omega));have K0:=Hid.mk ((Kt.refl (w.heap.size+1+1+1+1+1) wr).sets (w.heap.size+1+1+1+1+1) (i*4) gtM.vals (.inl (by omega)));have T1:=Hid.mk (T0.out.setG i hil gtM);refine xp fun K hK=>?_
       refine wp_store_mid _ _ _ rfl _ _ (List.toArray (GtV.vals gtM)) rfl rfl hT.out (by kernel_rfl) (all_oneCell_toArray (gt_one _)) (hK _ _ ?_);clear hK K hT;try simp only[Act.put]
       have c0:(World.setCells wr (w.heap.size+1+1+1+1+1) (i*4) gtM.vals).cell? ⟨w.heap.size,2,none⟩=some (.slice ga m.gates.length gc):=by rw[T1.out.m.2.1,←hIM];rfl
       generalize World.setCells _ _ _ _=V1 at*;by_cases hn:i<m.gates.length
       ·have hin:(i:Int)<(m.gates.length:Int):=by omega
        obtain⟨rb,off,xa,xc,ya,yc,hga,hb1,hb2,k0,k1,k2,k3,kx9,ky9⟩:=hm.out.gates i hn;subst hga;have hfit:=hF.out.gs _ (List.getElem_mem hn);generalize hrg:m.gates[i]=rr at k0 k1 k2 k3 kx9 ky9 hfit;replace hrg:=Hid.mk hrg;replace k0:=Hid.mk k0;replace k1:=Hid.mk k1;replace k2:=Hid.mk k2;replace k3:=Hid.mk k3;replace kx9:=Hid.mk kx9;replace ky9:=Hid.mk ky9;replace hfit:=Hid.mk hfit;have rg:=Hid.mk (range4 ((T1.out.gr.below.cell (p:=⟨rb,off+i*4,none⟩) hb1).trans k0.out) ((T1.out.gr.below.cell (p:=⟨rb,off+i*4+1,none⟩) hb1).trans k1.out) ((T1.out.gr.below.cell (p:=⟨rb,off+i*4+1+1,none⟩) hb1).trans k2.out) ((T1.out.gr.below.cell (p:=⟨rb,off+i*4+1+1+1,none⟩) hb1).trans k3.out));go_upto_region 26 with fail;refine wp_region_lit ?_;iterate 4 (refine xp fun K hK=>?_;go_simp;with_reducible refine hK _ _ ?_;clear hK K;(try simp only[xap]))
        refine xp fun K hK=>?_
        refine wp_load_mid _ _ rfl _ (off+i*4) rfl [Value.int .i64 rr.c,.int .i64 rr.e,.slice xa rr.args.length xc,.slice ya rr.res.length yc] _ rg.out Tryz.underlying36 rfl (by kernel_rfl) (hK _ _ ?_);clear hK K;try simp only[xap]
        refine xp fun K hK=>?_
        go_simp;with_reducible refine hK _ _ ?_
        clear hK K;try simp only[xap]
        have bx:=Hid.mk (At.new V1 [Value.int .i64 0,.int .i64 0,.slice none 0 0,.slice none 0 0].toArray 36);refine xp fun K hK=>?_
        refine wp_store_mid _ _ _ rfl _ _ (List.toArray [Value.int .i64 rr.c,.int .i64 rr.e,.slice xa rr.args.length xc,.slice ya rr.res.length yc]) rfl rfl (bx.out.there 0 _ (by simp)) (by kernel_rfl) (all_oneCell_toArray (gt_one ⟨rr.c,rr.e,⟨xa,rr.args.length,xc⟩,⟨ya,rr.res.length,yc⟩⟩)) (hK _ _ ?_);clear hK K;try simp only[Act.put]
        replace bx:=Hid.mk (bx.out.setAll [Value.int .i64 rr.c,.int .i64 rr.e,.slice xa rr.args.length xc,.slice ya rr.res.length yc] rfl);have hk1:w.heap.size+1+1+1+1+1<V1.heap.size:=Nat.lt_of_lt_of_le hs.out K0.out.size;have hk2:wr.heap.size≤V1.heap.size:=K0.out.size;have T2:=Hid.mk ((T1.out.grow ((Gr.refl V1).alloc (Obj.cells [Value.int .i64 0,.int .i64 0,.slice none 0 0,.slice none 0 0].toArray 36))).sets V1.heap.size 0 [Value.int .i64 rr.c,.int .i64 rr.e,.slice xa rr.args.length xc,.slice ya rr.res.length yc] hk1);have K2:=Hid.mk ((K0.out.trans (Kt.gr ((Gr.refl V1).alloc (Obj.cells [Value.int .i64 0,.int .i64 0,.slice none 0 0,.slice none 0 0].toArray 36)))).sets V1.heap.size 0 [Value.int .i64 rr.c,.int .i64 rr.e,.slice xa rr.args.length xc,.slice ya rr.res.length yc] (.inr hk2));clear T1 K0 rg c0;generalize World.setCells _ _ _ _=V2 at*;generalize V1.heap.size=kx at*;have c0:V2.cell? ⟨w.heap.size,2,none⟩=some (.slice (some ⟨rb,off,none⟩) m.gates.length gc):=by rw[T2.out.m.2.1,←hIM];rfl
        have c1:V2.cell? ⟨rb,off+i*4+1+1,none⟩=some (.slice xa rr.args.length xc):=((T2.out.gr.below.cell (p:=⟨rb,off+i*4+1+1,none⟩) hb1).trans k2.out);have hk3:w.heap.size+1+1+1+1+1<V2.heap.size:=Nat.lt_trans hk1 bx.out.1;have hcl:=Hid.mk (typed_all rr.args xa xc w.heap.size kx V2 (kx9.out.below T2.out.gr.below) hfit.out.1 T2.out.gr.below.size bx.out.1);go_upto_region 27 with fail
        refine wp_region_lit ?_;iterate 6 (refine xp fun K hK=>?_;go_simp;with_reducible refine hK _ _ ?_;clear hK K;(try simp only[xap]))
        refine xp fun K hK=>?_
        go_simp
        (go_at_call 29;refine hcl.out.mono ?_;rintro x wq ⟨s,rfl,qs,q9⟩;replace q9:=Hid.mk q9;replace qs:=Hid.mk qs)
        with_reducible refine hK _ _ ?_
        clear hK K;try simp only[xap]
        refine xp fun K hK=>?_
        go_simp;with_reducible refine hK _ _ ?_
        clear hK K;try simp only[xap]
        have d1:∃y,wq.cell? ⟨kx,2,none⟩=some y:=⟨_,(bx.out.gr q9.out).2.1 2⟩;obtain⟨y9,d1⟩:=d1;have d2:wq.frozen? ⟨kx,2,none⟩=false:=(bx.out.gr q9.out).2.2 2;refine xp fun K hK=>?_
        go_simp;with_reducible refine hK _ _ ?_
        clear hK K d1 d2 y9;try simp only[Act.put]
        have x9:=Hid.mk ((Kt.refl kx wq).set kx 2 (.slice s.a s.l s.c) (.inl (Nat.le_refl _)));replace qs:=Hid.mk (qs.out.keep x9.out);replace bx:=Hid.mk (show At (World.setCell wq ⟨kx,2,none⟩ (.slice s.a s.l s.c)) kx (List.toArray [Value.int .i64 rr.c,.int .i64 rr.e,.slice s.a s.l s.c,.slice ya rr.res.length yc])from(bx.out.gr q9.out).set 2 (.slice s.a s.l s.c) (by simp));replace K2:=Hid.mk ((K2.out.trans (Kt.gr q9.out)).set kx 2 (.slice s.a s.l s.c) (.inr hk2));replace T2:=Hid.mk (show Tw w im [Value.slice none 0 0,.slice none 0 0,.slice none 0 0,.int .i64 m.depth] _ _ _ (World.setCell wq ⟨kx,2,none⟩ (.slice s.a s.l s.c))from(T2.out.grow q9.out).sets kx 2 [.slice s.a s.l s.c] hk1);clear q9 x9 hcl c0 c1 hk3;generalize World.setCell _ _ _=V3 at*;have c0:V3.cell? ⟨w.heap.size,2,none⟩=some (.slice (some ⟨rb,off,none⟩) m.gates.length gc):=by rw[T2.out.m.2.1,←hIM];rfl
        have c1:V3.cell? ⟨rb,off+i*4+1+1+1,none⟩=some (.slice ya rr.res.length yc):=((T2.out.gr.below.cell (p:=⟨rb,off+i*4+1+1+1,none⟩) hb1).trans k3.out);have hk3:w.heap.size+1+1+1+1+1<V3.heap.size:=Nat.lt_trans hk1 bx.out.1;have hcl:=Hid.mk (typed_all rr.res ya yc w.heap.size kx V3 (ky9.out.below T2.out.gr.below) hfit.out.2 T2.out.gr.below.size bx.out.1);go_upto_region 28 with fail
        refine wp_region_lit ?_;iterate 6 (refine xp fun K hK=>?_;go_simp;with_reducible refine hK _ _ ?_;clear hK K;(try simp only[xap]))
        refine xp fun K hK=>?_
        go_simp
        (go_at_call 29;refine hcl.out.mono ?_;rintro x wq ⟨t,rfl,qt,q9⟩;replace q9:=Hid.mk q9;replace qt:=Hid.mk qt)
        with_reducible refine hK _ _ ?_
        clear hK K;try simp only[xap]
        refine xp fun K hK=>?_
        go_simp;with_reducible refine hK _ _ ?_
        clear hK K;try simp only[xap]
        have d1:∃y,wq.cell? ⟨kx,3,none⟩=some y:=⟨_,(bx.out.gr q9.out).2.1 3⟩;obtain⟨y9,d1⟩:=d1;have d2:wq.frozen? ⟨kx,3,none⟩=false:=(bx.out.gr q9.out).2.2 3;refine xp fun K hK=>?_
        go_simp;with_reducible refine hK _ _ ?_
        clear hK K d1 d2 y9;try simp only[Act.put]
        have x9:=Hid.mk ((Kt.refl kx wq).set kx 3 (.slice t.a t.l t.c) (.inl (Nat.le_refl _)));replace qs:=Hid.mk (qs.out.keep ((Kt.gr q9.out).trans x9.out));replace qt:=Hid.mk (qt.out.keep x9.out);replace bx:=Hid.mk (show At (World.setCell wq ⟨kx,3,none⟩ (.slice t.a t.l t.c)) kx (List.toArray [Value.int .i64 rr.c,.int .i64 rr.e,.slice s.a s.l s.c,.slice t.a t.l t.c])from(bx.out.gr q9.out).set 3 (.slice t.a t.l t.c) (by simp));replace K2:=Hid.mk ((K2.out.trans (Kt.gr q9.out)).set kx 3 (.slice t.a t.l t.c) (.inr hk2));replace T2:=Hid.mk (show Tw w im [Value.slice none 0 0,.slice none 0 0,.slice none 0 0,.int .i64 m.depth] _ _ _ (World.setCell wq ⟨kx,3,none⟩ (.slice t.a t.l t.c))from(T2.out.grow q9.out).sets kx 3 [.slice t.a t.l t.c] hk1);clear q9 x9 hcl c0 c1 hk3;generalize World.setCell _ _ _=V5 at*;go_upto_region 29 with fail
        refine wp_region_lit ?_;iterate 2 (refine xp fun K hK=>?_;go_simp;with_reducible refine hK _ _ ?_;clear hK K;(try simp only[xap]))
        refine xp fun K hK=>?_
        refine wp_load_mid _ _ rfl _ 0 rfl (GtV.vals ⟨rr.c,rr.e,s,t⟩) _ bx.out.range Tryz.underlying36 rfl (by kernel_rfl) (hK _ _ ?_);clear hK K;try simp only[xap]
        refine xp fun K hK=>?_
        go_simp;with_reducible refine hK _ _ ?_
        clear hK K;try simp only[xap]
        have hT:=Hid.mk (T2.out.g.there (i*4) 4 (by rw[row_len gt_len,List.length_set,L0.out];simp;omega));have hl2:i<(lg.set i gtM).length:=by rw[List.length_set];exact hil
        have T3:=Hid.mk (T2.out.setG i hl2 ⟨rr.c,rr.e,s,t⟩);rw[List.set_set]at T3;have K3:=Hid.mk (K2.out.sets (w.heap.size+1+1+1+1+1) (i*4) (GtV.vals ⟨rr.c,rr.e,s,t⟩) (.inl (by omega)));have x9:=Hid.mk ((Kt.refl kx V5).sets (w.heap.size+1+1+1+1+1) (i*4) (GtV.vals ⟨rr.c,rr.e,s,t⟩) (.inl (by omega)));refine xp fun K hK=>?_
        refine wp_store_mid _ _ _ rfl _ _ (List.toArray (GtV.vals ⟨rr.c,rr.e,s,t⟩)) rfl rfl hT.out (by kernel_rfl) (all_oneCell_toArray (gt_one _)) (hK _ _ ?_);clear hK K hT hl2 bx T2 K2;try simp only[Act.put]
        generalize World.setCells _ _ _ _=V4 at*;replace qs:=Hid.mk ((qs.out.keep x9.out).mono (Nat.le_of_lt hk1));replace qt:=Hid.mk ((qt.out.keep x9.out).mono (Nat.le_of_lt hk1));have D1:=Hid.mk ((D0.out.keep (gtOk_keep K3.out) (fun _ h=>h)).next hil ⟨rr.c,rr.e,s,t⟩ (fun _=>by rw[hrg.out];exact⟨rfl,rfl,qs.out,qt.out⟩) (fun h=>by omega));have L1:Hid ((lg.set i ⟨rr.c,rr.e,s,t⟩).length=m.gates.length+8):=Hid.mk (by rw[List.length_set];exact L0.out);have hs3:=Hid.mk (Nat.lt_of_lt_of_le hs.out K3.out.size);have R1:=Hid.mk (DR.out.keep (rgOk_keep K3.out) (fun _ h=>h));have C1:=Hid.mk (DC.out.keep (cpOk_keep K3.out) (cpMark_keep K3.out));clear x9 qs qt D0 L0 hs hrg k0 k1 k2 k3 kx9 ky9 hfit DR DC;clear K3;go_wp2_with fail;exact⟨⟨i+1,_,by go_num,by omega,T3,L1,D1,C1,R1,hs3⟩,by simp[intOf];omega⟩
       ·have hin:¬(i:Int)<(m.gates.length:Int):=by omega
        have T3:=T1;have K3:=K0;have D1:=Hid.mk ((D0.out.keep (gtOk_keep K3.out) (fun _ h=>h)).next hil gtM (fun h=>absurd h hn) (fun _=>rfl));have L1:Hid ((lg.set i gtM).length=m.gates.length+8):=Hid.mk (by rw[List.length_set];exact L0.out);have hs3:=Hid.mk (Nat.lt_of_lt_of_le hs.out K3.out.size);have R1:=Hid.mk (DR.out.keep (rgOk_keep K3.out) (fun _ h=>h));have C1:=Hid.mk (DC.out.keep (cpOk_keep K3.out) (cpMark_keep K3.out));clear D0 L0 hs T1 K0 DR DC;clear K3;go_wp2_with fail;exact⟨⟨i+1,_,by go_num,by omega,T3,L1,D1,C1,R1,hs3⟩,by simp[intOf];omega⟩
      ·have hi1:¬(i:Int)<(m.gates.length:Int)+8:=by omega
       have ei:i=m.gates.length+8:=by omega
       subst ei;have LG:=L0;have DG:=D0;clear L0 D0;go_upto_region 30 with fail
       generalize wr=Wd at*;have c0:Wd.cell? ⟨w.heap.size,0,none⟩=some (.slice ra m.regs.length rc):=by rw[T0.out.m.2.1,←hIM];rfl
       have d1:Wd.cell? ⟨w.heap.size+1+1,0,none⟩=some (.slice none 0 0):=T0.out.o.2.1 0;have d2:Wd.frozen? ⟨w.heap.size+1+1,0,none⟩=false:=T0.out.o.2.2 0;have hle9:(m.regs.length:Int)≤(m.regs.length:Int)+8:=by omega
       go_upto_region 30 with fail;refine wp_region_lit ?_;iterate 6 (refine xp fun K hK=>?_;go_simp;with_reducible refine hK _ _ ?_;clear hK K;(try simp only[xap]))
       refine xp fun K hK=>?_
       go_simp;with_reducible refine hK _ _ ?_
       clear hK K;try simp only[Act.put]
       have K9:=Hid.mk ((Kt.refl (w.heap.size+1+1+1+1+1) Wd).set (w.heap.size+1+1) 0 (.slice (some ⟨w.heap.size+1+1+1,0,none⟩) m.regs.length (m.regs.length+8)) (.inl (by omega)));replace T0:=Hid.mk (T0.out.setO 0 (by simp) (.slice (some ⟨w.heap.size+1+1+1,0,none⟩) m.regs.length (m.regs.length+8)));replace DR:=Hid.mk (DR.out.keep (rgOk_keep K9.out) (fun _ h=>h));replace DC:=Hid.mk (DC.out.keep (cpOk_keep K9.out) (cpMark_keep K9.out));replace DG:=Hid.mk (DG.out.keep (gtOk_keep K9.out) (fun _ h=>h));simp only[List.set_cons_zero]at T0;clear c0 d1 d2 hle9 K9;generalize World.setCell _ _ _=We at*;have c0:We.cell? ⟨w.heap.size,1,none⟩=some (.slice ca m.comps.length cc):=by rw[T0.out.m.2.1,←hIM];rfl
       have d1:We.cell? ⟨w.heap.size+1+1,1,none⟩=some (.slice none 0 0):=T0.out.o.2.1 1;have d2:We.frozen? ⟨w.heap.size+1+1,1,none⟩=false:=T0.out.o.2.2 1;have hle9:(m.comps.length:Int)≤(m.comps.length:Int)+8:=by omega
       go_upto_region 31 with fail;refine wp_region_lit ?_;iterate 6 (refine xp fun K hK=>?_;go_simp;with_reducible refine hK _ _ ?_;clear hK K;(try simp only[xap]))
       refine xp fun K hK=>?_
       go_simp;with_reducible refine hK _ _ ?_
       clear hK K;try simp only[Act.put]
       have K9:=Hid.mk ((Kt.refl (w.heap.size+1+1+1+1+1) We).set (w.heap.size+1+1) 1 (.slice (some ⟨w.heap.size+1+1+1+1,0,none⟩) m.comps.length (m.comps.length+8)) (.inl (by omega)));replace T0:=Hid.mk (T0.out.setO 1 (by simp) (.slice (some ⟨w.heap.size+1+1+1+1,0,none⟩) m.comps.length (m.comps.length+8)));replace DR:=Hid.mk (DR.out.keep (rgOk_keep K9.out) (fun _ h=>h));replace DC:=Hid.mk (DC.out.keep (cpOk_keep K9.out) (cpMark_keep K9.out));replace DG:=Hid.mk (DG.out.keep (gtOk_keep K9.out) (fun _ h=>h));simp only[List.set_cons_zero,List.set_cons_succ]at T0;clear c0 d1 d2 hle9 K9;generalize World.setCell _ _ _=Wf at*;have c0:Wf.cell? ⟨w.heap.size,2,none⟩=some (.slice ga m.gates.length gc):=by rw[T0.out.m.2.1,←hIM];rfl
       have d1:Wf.cell? ⟨w.heap.size+1+1,2,none⟩=some (.slice none 0 0):=T0.out.o.2.1 2;have d2:Wf.frozen? ⟨w.heap.size+1+1,2,none⟩=false:=T0.out.o.2.2 2;have hle9:(m.gates.length:Int)≤(m.gates.length:Int)+8:=by omega
       go_upto_region 32 with fail;refine wp_region_lit ?_;iterate 6 (refine xp fun K hK=>?_;go_simp;with_reducible refine hK _ _ ?_;clear hK K;(try simp only[xap]))
       refine xp fun K hK=>?_
       go_simp;with_reducible refine hK _ _ ?_
       clear hK K;try simp only[Act.put]
       have K9:=Hid.mk ((Kt.refl (w.heap.size+1+1+1+1+1) Wf).set (w.heap.size+1+1) 2 (.slice (some ⟨w.heap.size+1+1+1+1+1,0,none⟩) m.gates.length (m.gates.length+8)) (.inl (by omega)));replace T0:=Hid.mk (T0.out.setO 2 (by simp) (.slice (some ⟨w.heap.size+1+1+1+1+1,0,none⟩) m.gates.length (m.gates.length+8)));replace DR:=Hid.mk (DR.out.keep (rgOk_keep K9.out) (fun _ h=>h));replace DC:=Hid.mk (DC.out.keep (cpOk_keep K9.out) (cpMark_keep K9.out));replace DG:=Hid.mk (DG.out.keep (gtOk_keep K9.out) (fun _ h=>h));simp only[List.set_cons_zero,List.set_cons_succ]at T0;clear c0 d1 d2 hle9 K9;generalize World.setCell _ _ _=Wg at*;go_upto_region 33 with fail
       refine wp_region_lit ?_;refine xp fun K hK=>?_
       refine wp_load_mid _ _ rfl _ 0 rfl [Value.slice (some ⟨w.heap.size+1+1+1,0,none⟩) m.regs.length (m.regs.length+8),.slice (some ⟨w.heap.size+1+1+1+1,0,none⟩) m.comps.length (m.comps.length+8),.slice (some ⟨w.heap.size+1+1+1+1+1,0,none⟩) m.gates.length (m.gates.length+8),.int .i64 m.depth] _ T0.out.o.range Tryz.underlying40 rfl (by kernel_rfl) (hK _ _ ?_);clear hK K;try simp only[xap]
       have hT:=Hid.mk (At.there (cs:=[.slice none 0 0,.slice none 0 0,.slice none 0 0,.int .i64 0]) T0.out.res 0 4 (by simp));have K9:=Hid.mk ((Kt.refl (w.heap.size+1+1+1+1+1) Wg).sets (w.heap.size+1) 0 [Value.slice (some ⟨w.heap.size+1+1+1,0,none⟩) m.regs.length (m.regs.length+8),.slice (some ⟨w.heap.size+1+1+1+1,0,none⟩) m.comps.length (m.comps.length+8),.slice (some ⟨w.heap.size+1+1+1+1+1,0,none⟩) m.gates.length (m.gates.length+8),.int .i64 m.depth] (.inl (by omega)));have G9:=Hid.mk (T0.out.gr.setCells (w.heap.size+1) (by omega) [Value.slice (some ⟨w.heap.size+1+1+1,0,none⟩) m.regs.length (m.regs.length+8),.slice (some ⟨w.heap.size+1+1+1+1,0,none⟩) m.comps.length (m.comps.length+8),.slice (some ⟨w.heap.size+1+1+1+1+1,0,none⟩) m.gates.length (m.gates.length+8),.int .i64 m.depth] 0);have S9:=Hid.mk (At.setAll (cs:=[.slice none 0 0,.slice none 0 0,.slice none 0 0,.int .i64 0]) T0.out.res [Value.slice (some ⟨w.heap.size+1+1+1,0,none⟩) m.regs.length (m.regs.length+8),.slice (some ⟨w.heap.size+1+1+1+1,0,none⟩) m.comps.length (m.comps.length+8),.slice (some ⟨w.heap.size+1+1+1+1+1,0,none⟩) m.gates.length (m.gates.length+8),.int .i64 m.depth] rfl).range
       have TI9:Hid (TwIn (w.heap.size+1+1+1+1+1) (w.heap.size+1+1+1) (w.heap.size+1+1+1+1) (w.heap.size+1+1+1+1+1) (World.setCells Wg (w.heap.size+1) 0 [Value.slice (some ⟨w.heap.size+1+1+1,0,none⟩) m.regs.length (m.regs.length+8),.slice (some ⟨w.heap.size+1+1+1+1,0,none⟩) m.comps.length (m.comps.length+8),.slice (some ⟨w.heap.size+1+1+1+1+1,0,none⟩) m.gates.length (m.gates.length+8),.int .i64 m.depth]) m lr lc lg):=Hid.mk ⟨T0.out.r.other (by omega) _ _,T0.out.c.other (by omega) _ _,T0.out.g.other (by omega) _ _,LR.out,LCC.out,LG.out,DR.out.keep (rgOk_keep K9.out) (fun _ h=>h),DC.out.keep (cpOk_keep K9.out) (cpMark_keep K9.out),DG.out.keep (gtOk_keep K9.out) (fun _ h=>h)⟩;refine xp fun K hK=>?_
       refine wp_store_mid _ _ _ rfl _ _ (List.toArray [Value.slice (some ⟨w.heap.size+1+1+1,0,none⟩) m.regs.length (m.regs.length+8),.slice (some ⟨w.heap.size+1+1+1+1,0,none⟩) m.comps.length (m.comps.length+8),.slice (some ⟨w.heap.size+1+1+1+1+1,0,none⟩) m.gates.length (m.gates.length+8),.int .i64 m.depth]) rfl rfl hT.out (by kernel_rfl) (all_oneCell_toArray (by intro v hv;simp at hv;rcases hv with rfl|rfl|rfl|rfl<;>rfl)) (hK _ _ ?_);clear hK K hT T0 DR DC DG LR LCC LG K9;try simp only[Act.put]
       generalize World.setCells _ _ _ _=Wz at*;have hrun:=Hid.mk (run_loadVar_mid (P:=Tryz.prog) Wz (w.heap.size+1) 0 40 [Value.slice (some ⟨w.heap.size+1+1+1,0,none⟩) m.regs.length (m.regs.length+8),.slice (some ⟨w.heap.size+1+1+1+1,0,none⟩) m.comps.length (m.comps.length+8),.slice (some ⟨w.heap.size+1+1+1+1+1,0,none⟩) m.gates.length (m.gates.length+8),.int .i64 m.depth] _ S9.out Tryz.underlying40 rfl (by kernel_rfl));clear S9;go_wp2_with fail;refine bodyPost_ret (v:=.agg (List.toArray [Value.slice (some ⟨w.heap.size+1+1+1,0,none⟩) m.regs.length (m.regs.length+8),.slice (some ⟨w.heap.size+1+1+1+1,0,none⟩) m.comps.length (m.comps.length+8),.slice (some ⟨w.heap.size+1+1+1+1+1,0,none⟩) m.gates.length (m.gates.length+8),.int .i64 m.depth])) ?_ rfl ⟨rfl,G9.out,lr,lc,lg,TI9.out⟩;exact results_row Tryz.results12 _ _ rfl hrun.out
theorem elem_atL {α:Type}{f:α→List Value}{k:Nat}(hf:∀x,(f x).length=k){w:World}{b:Nat}{L:List α}(h:At w b (rowV [] f L).toArray)(i:Nat)(v:α)(hv:L[i]?=some v):w.rangeAt b (i*k) (f v):=by
 obtain⟨hi,rfl⟩:=List.getElem?_eq_some_iff.1 hv;exact h.elem (pre:=[]) hf i hi (i*k) (by simp)
theorem marked_atL {α:Type}{M:α}{L:List α}(i:Nat)(hi:i<L.length):(marked M L)[i]?=some L[i]:=by
 unfold marked;rw[List.getElem?_append_left hi,List.getElem?_eq_getElem hi]
theorem LsOk.finL {α:Type}{vals:α→List Value}{M:α}{kk k:Nat}{W:World}{L:List α}{s:Sl}(hk:∀x,(vals x).length=k)(h:LsOk vals M kk W L s):FIn k vals W.heap.size W s.a L:=by
 obtain⟨g,rfl,_,hA⟩:=h;intro i hi;refine⟨g,0,rfl,hA.1,hA.1,fun j hj=>?_⟩;have hj':j<(vals L[i]).length:=by rw[hk];exact hj
 rw[List.getElem?_eq_getElem hj',Nat.zero_add];exact elem_atL hk hA i _ (marked_atL i hi) j _ (List.getElem?_eq_getElem hj')
theorem LsOk.linL {M:Ins}{kk:Nat}{W:World}{L:List Ins}{s:Sl}(h:LsOk Ins.vals M kk W L s):LIn W.heap.size W s.a L:=by
 obtain⟨g,rfl,_,hA⟩:=h;intro i hi;have q:=elem_atL (k:=5) (fun _=>rfl) hA i _ (marked_atL i hi);refine⟨g,0,rfl,hA.1,hA.1,?_⟩;rw[Nat.zero_add];exact⟨q 0 _ rfl,q 1 _ rfl,q 2 _ rfl,q 3 _ rfl,q 4 _ rfl⟩
theorem LsOk.lenL {α:Type}{vals:α→List Value}{M:α}{kk:Nat}{W:World}{L:List α}{s:Sl}(h:LsOk vals M kk W L s):s.l=L.length:=by
 obtain⟨g,rfl,_,_⟩:=h
 rfl
end Q
namespace Bd
open Go.RowKit
theorem twin_img {kk kr kc kg:Nat}{W:World}{m:PImg}{lr:List Q.RgV}{lc:List Q.CpV}{lg:List Q.GtV}(h:Q.TwIn kk kr kc kg W m lr lc lg):ImgIn W.heap.size W (some ⟨kr,0,none⟩) (some ⟨kc,0,none⟩) (some ⟨kg,0,none⟩) m:=by
 refine⟨fun i hi=>?_,fun i hi=>?_,fun i hi=>?_⟩
 ·obtain⟨v,hv,e1,e2,e3,hok⟩:=(h.rd i (by omega)).1 hi;have q:=Q.elem_atL Q.rg_len h.r i _ hv;rcases hok with⟨h0,hs⟩|⟨_,hok⟩
  ·refine⟨kr,0,none,0,rfl,h.r.1,h.r.1,?_,?_,?_,?_,by rw[h0];exact FIn.nil _ _ _ _ _⟩
   ·rw[Nat.zero_add,←e1];exact q 0 _ rfl
   ·rw[Nat.zero_add,←e2];exact q 1 _ rfl
   ·rw[Nat.zero_add,←e3];exact q 2 _ rfl
   ·rw[Nat.zero_add,h0];have:=q 3 _ rfl;rw[hs]at this;exact this
  ·refine⟨kr,0,v.s.a,v.s.c,rfl,h.r.1,h.r.1,?_,?_,?_,?_,hok.finL Q.slt_len⟩
   ·rw[Nat.zero_add,←e1];exact q 0 _ rfl
   ·rw[Nat.zero_add,←e2];exact q 1 _ rfl
   ·rw[Nat.zero_add,←e3];exact q 2 _ rfl
   ·rw[Nat.zero_add,←hok.lenL];exact q 3 _ rfl
 ·obtain⟨v,hv,hok⟩:=(h.cd i (by omega)).1 hi;have q:=Q.elem_atL Q.cp_len h.c i _ hv;refine⟨kc,0,v.r.a,v.r.c,v.k.a,v.k.c,rfl,h.c.1,h.c.1,?_,?_,hok.1.finL Q.rot_len,hok.2.linL⟩
  ·rw[Nat.zero_add,←hok.1.lenL];exact q 0 _ rfl
  ·rw[Nat.zero_add,←hok.2.lenL];exact q 1 _ rfl
 ·obtain⟨v,hv,e1,e2,h1,h2⟩:=(h.gd i (by omega)).1 hi;have q:=Q.elem_atL Q.gt_len h.g i _ hv;refine⟨kg,0,v.x.a,v.x.c,v.y.a,v.y.c,rfl,h.g.1,h.g.1,?_,?_,?_,?_,h1.finL Q.typ_len,h2.finL Q.typ_len⟩
  ·rw[Nat.zero_add,←e1];exact q 0 _ rfl
  ·rw[Nat.zero_add,←e2];exact q 1 _ rfl
  ·rw[Nat.zero_add,←h1.lenL];exact q 2 _ rfl
  ·rw[Nat.zero_add,←h2.lenL];exact q 3 _ rfl
end Bd
namespace Q
open Go.RowKit
end Q
end Go.Proofs.YthlpjlnehonpdaaGreatDoor
