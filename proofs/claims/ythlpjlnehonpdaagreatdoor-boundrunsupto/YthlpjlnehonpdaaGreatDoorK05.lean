import Derived.Test.YthlpjlnehonpdaaGreatDoorK04
namespace Go.Proofs.YthlpjlnehonpdaaGreatDoor
namespace Q
open Go.RowKit
structure Sl where
 a:Option Addr
 l:Nat
 c:Nat
structure RgV where
 b:Int
 n:Int
 d:List UInt8
 s:Sl
structure CpV where
 r:Sl
 k:Sl
structure GtV where
 c:Int
 e:Int
 x:Sl
 y:Sl
def RgV.vals (v:RgV):List Value:=[.int .u64 v.b,.int .u64 v.n,.string (str v.d),.slice v.s.a v.s.l v.s.c]
def CpV.vals (v:CpV):List Value:=[.slice v.r.a v.r.l v.r.c,.slice v.k.a v.k.l v.k.c]
def GtV.vals (v:GtV):List Value:=[.int .i64 v.c,.int .i64 v.e,.slice v.x.a v.x.l v.x.c,.slice v.y.a v.y.l v.y.c]
theorem rg_len (v:RgV):v.vals.length=4:=rfl
theorem cp_len (v:CpV):v.vals.length=2:=rfl
theorem gt_len (v:GtV):v.vals.length=4:=rfl
theorem rg_one (x:RgV):∀v∈x.vals,v.oneCell'=true:=by
 intro v h;simp only[RgV.vals,List.mem_cons,List.not_mem_nil,or_false]at h;rcases h with rfl|rfl|rfl|rfl<;>rfl
theorem cp_one (x:CpV):∀v∈x.vals,v.oneCell'=true:=by
 intro v h;simp only[CpV.vals,List.mem_cons,List.not_mem_nil,or_false]at h;rcases h with rfl|rfl<;>rfl
theorem gt_one (x:GtV):∀v∈x.vals,v.oneCell'=true:=by
 intro v h;simp only[GtV.vals,List.mem_cons,List.not_mem_nil,or_false]at h;rcases h with rfl|rfl|rfl|rfl<;>rfl
def nilS:Sl:=⟨none,0,0⟩
def rgZ:RgV:=⟨0,0,[],nilS⟩
def cpZ:CpV:=⟨nilS,nilS⟩
def gtZ:GtV:=⟨0,0,nilS,nilS⟩
def rgM:RgV:=⟨77,0,[109,97,114,107],nilS⟩
def gtM:GtV:=⟨-7,0,nilS,nilS⟩
structure Kt (kk:Nat)(w w':World):Prop where
 size:w.heap.size≤w'.heap.size
 block:∀g,kk<g→g<w.heap.size→w'.heap[g]?=w.heap[g]?
theorem Kt.refl (kk:Nat)(w:World):Kt kk w w:=⟨Nat.le_refl _,fun _ _ _=>rfl⟩
theorem Kt.trans {kk:Nat}{a b c:World}(h:Kt kk a b)(k:Kt kk b c):Kt kk a c:=⟨Nat.le_trans h.size k.size,fun g h1 h2=>(k.block g h1 (Nat.lt_of_lt_of_le h2 h.size)).trans (h.block g h1 h2)⟩
theorem Kt.gr {kk:Nat}{a b:World}(h:Gr a b):Kt kk a b:=⟨h.below.size,fun g _ h2=>h.below.block g h2⟩
theorem setCell_block (w:World)(b o g:Nat)(v:Value)(h:b≠g):(w.setCell ⟨b,o,none⟩ v).heap[g]?=w.heap[g]?:=by
 unfold World.setCell;simp only[Array.getElem?_modify];rw[if_neg h]
theorem setCells_block (b g:Nat)(h:b≠g):∀(vs:List Value) (o:Nat) (w:World),(w.setCells b o vs).heap[g]?=w.heap[g]?
 |[],_,_=>rfl
 |v::r,o,w=>by rw[World.setCells,setCells_block b g h r,setCell_block w b o g v h]
theorem Kt.sets {kk:Nat}{a w:World}(h:Kt kk a w)(b o:Nat)(vs:List Value)(hb:b≤kk∨a.heap.size≤b):Kt kk a (w.setCells b o vs):=
 ⟨by rw[setCells_size];exact h.size,fun g h1 h2=>by rw[setCells_block b g (by omega)];exact h.block g h1 h2⟩
theorem Kt.set {kk:Nat}{a w:World}(h:Kt kk a w)(b o:Nat)(v:Value)(hb:b≤kk∨a.heap.size≤b):Kt kk a (w.setCell ⟨b,o,none⟩ v):=h.sets b o [v] hb
theorem Kt.at_ {kk g:Nat}{w w':World}{cs:Array Value}(h:Kt kk w w')(q:At w g cs)(hg:kk<g):At w' g cs:=
 ⟨Nat.lt_of_lt_of_le q.1 h.size,fun i=>by rw[World.cell?_of_block (a:=⟨g,i,none⟩) (h.block g hg q.1)];exact q.2.1 i,fun i=>by rw[World.frozen?_of_block (a:=⟨g,i,none⟩) (h.block g hg q.1)];exact q.2.2 i⟩
def LsOk {α:Type}(vals:α→List Value)(M:α)(kk:Nat)(W:World)(L:List α)(s:Sl):Prop:=∃g,s=⟨some ⟨g,0,none⟩,L.length,L.length+8⟩∧kk<g∧At W g (rowV [] vals (marked M L)).toArray
def SlOk (kk:Nat)(W:World)(L:List PSlot)(s:Sl):Prop:=(L=[]∧s=nilS)∨(L≠[]∧LsOk PSlot.vals slotM kk W L s)
theorem LsOk.keep {α:Type}{vals:α→List Value}{M:α}{kk:Nat}{W W':World}{L:List α}{s:Sl}(h:LsOk vals M kk W L s)(k:Kt kk W W'):LsOk vals M kk W' L s:=by
 obtain⟨g,h1,h2,h3⟩:=h;exact⟨g,h1,h2,k.at_ h3 h2⟩
theorem SlOk.keep {kk:Nat}{W W':World}{L:List PSlot}{s:Sl}(h:SlOk kk W L s)(k:Kt kk W W'):SlOk kk W' L s:=by
 rcases h with h|⟨h0,h⟩
 ·exact .inl h
 ·exact .inr ⟨h0,h.keep k⟩
theorem LsOk.mono {α:Type}{vals:α→List Value}{M:α}{kk k':Nat}{W:World}{L:List α}{s:Sl}(h:LsOk vals M k' W L s)(hk:kk≤k'):LsOk vals M kk W L s:=by
 obtain⟨g,h1,h2,h3⟩:=h;exact⟨g,h1,by omega,h3⟩
theorem SlOk.mono {kk k':Nat}{W:World}{L:List PSlot}{s:Sl}(h:SlOk k' W L s)(hk:kk≤k'):SlOk kk W L s:=by
 rcases h with h|⟨h0,h⟩
 ·exact .inl h
 ·exact .inr ⟨h0,h.mono hk⟩
def RgOk (kk:Nat)(W:World)(r:PReg)(v:RgV):Prop:=v.b=r.b∧v.n=r.n∧v.d=r.data∧SlOk kk W r.slots v.s
def CpOk (kk:Nat)(W:World)(c:PComp)(v:CpV):Prop:=LsOk PRoot.vals rootM kk W c.roots v.r∧LsOk Ins.vals instM kk W c.code v.k
def GtOk (kk:Nat)(W:World)(g:PGate)(v:GtV):Prop:=v.c=g.c∧v.e=g.e∧LsOk PTyp.vals typeM kk W g.args v.x∧LsOk PTyp.vals typeM kk W g.res v.y
def CpMark (kk:Nat)(W:World)(v:CpV):Prop:=v.k=nilS∧∃g,v.r=⟨some ⟨g,0,none⟩,1,1⟩∧kk<g∧At W g (rowV [] PRoot.vals [rootM]).toArray
def Done {α β:Type}(ok:World→α→β→Prop)(mk:World→β→Prop)(W:World)(L:List α)(l:List β)(i:Nat):Prop:=
 ∀j,j<i→(∀h:j<L.length,∃v,l[j]?=some v∧ok W L[j] v)∧(L.length≤j→∃v,l[j]?=some v∧mk W v)
theorem Done.zero {α β:Type}(ok:World→α→β→Prop)(mk:World→β→Prop)(W:World)(L:List α)(l:List β):Done ok mk W L l 0:=fun j h=>by omega
theorem Done.keep {α β:Type}{ok:World→α→β→Prop}{mk:World→β→Prop}{W W':World}{L:List α}{l:List β}{i:Nat}(h:Done ok mk W L l i)(k1:∀a b,ok W a b→ok W' a b)(k2:∀b,mk W b→mk W' b):Done ok mk W' L l i:=fun j hj=>by
 refine⟨fun q=>?_,fun q=>?_⟩
 ·obtain⟨v,h1,h2⟩:=(h j hj).1 q;exact⟨v,h1,k1 _ _ h2⟩
 ·obtain⟨v,h1,h2⟩:=(h j hj).2 q;exact⟨v,h1,k2 _ h2⟩
theorem Done.next {α β:Type}{ok:World→α→β→Prop}{mk:World→β→Prop}{W:World}{L:List α}{l:List β}{i:Nat}(h:Done ok mk W L l i)(hi:i<l.length)(v:β)(h1:∀q:i<L.length,ok W L[i] v)(h2:L.length≤i→mk W v):Done ok mk W L (l.set i v) (i+1):=fun j hj=>by
 by_cases e:j=i
 ·subst e;exact⟨fun q=>⟨v,by simp[hi],h1 q⟩,fun q=>⟨v,by simp[hi],h2 q⟩⟩
 ·obtain⟨a,b⟩:=h j (by omega);rw[List.getElem?_set_ne (fun r=>e r.symm)];exact⟨a,b⟩
structure TwFit (m:PImg):Prop where
 r:56*(m.regs.length+8)≤281474976710656
 c:48*(m.comps.length+8)≤281474976710656
 g:64*(m.gates.length+8)≤281474976710656
 rs:∀r∈m.regs,64*(r.slots.length+8)≤281474976710656
 cs:∀c∈m.comps,48*(c.roots.length+8)≤281474976710656∧40*(c.code.length+8)≤281474976710656
 gs:∀g∈m.gates,56*(g.args.length+8)≤281474976710656∧56*(g.res.length+8)≤281474976710656
structure Tw (w:World)(im:List Value)(out:List Value)(lr:List RgV)(lc:List CpV)(lg:List GtV)(W:World):Prop where
 m:At W w.heap.size im.toArray
 res:At W (w.heap.size+1) #[.slice none 0 0,.slice none 0 0,.slice none 0 0,.int .i64 0]
 o:At W (w.heap.size+1+1) out.toArray
 r:At W (w.heap.size+1+1+1) (rowV [] RgV.vals lr).toArray
 c:At W (w.heap.size+1+1+1+1) (rowV [] CpV.vals lc).toArray
 g:At W (w.heap.size+1+1+1+1+1) (rowV [] GtV.vals lg).toArray
 gr:Gr w W
theorem Tw.grow {w:World}{im out:List Value}{lr:List RgV}{lc:List CpV}{lg:List GtV}{W W':World}(h:Tw w im out lr lc lg W)(q:Gr W W'):Tw w im out lr lc lg W':=
 ⟨h.m.gr q,h.res.gr q,h.o.gr q,h.r.gr q,h.c.gr q,h.g.gr q,h.gr.trans q⟩
theorem Tw.sets {w:World}{im out:List Value}{lr:List RgV}{lc:List CpV}{lg:List GtV}{W:World}(h:Tw w im out lr lc lg W)(b o:Nat)(vs:List Value)(hb:w.heap.size+1+1+1+1+1<b):Tw w im out lr lc lg (W.setCells b o vs):=
 ⟨h.m.other (by omega) o vs,h.res.other (by omega) o vs,h.o.other (by omega) o vs,h.r.other (by omega) o vs,h.c.other (by omega) o vs,h.g.other (by omega) o vs,h.gr.setCells b (by omega) vs o⟩
theorem Tw.setR {w:World}{im out:List Value}{lr:List RgV}{lc:List CpV}{lg:List GtV}{W:World}(h:Tw w im out lr lc lg W)(i:Nat)(hi:i<lr.length)(v:RgV):Tw w im out (lr.set i v) lc lg (W.setCells (w.heap.size+1+1+1) (i*4) v.vals):=
 ⟨h.m.other (by omega) _ _,h.res.other (by omega) _ _,h.o.other (by omega) _ _,h.r.setElem rg_len i hi v (i*4) (by simp),h.c.other (by omega) _ _,h.g.other (by omega) _ _,h.gr.setCells _ (by omega) _ _⟩
theorem Tw.setC {w:World}{im out:List Value}{lr:List RgV}{lc:List CpV}{lg:List GtV}{W:World}(h:Tw w im out lr lc lg W)(i:Nat)(hi:i<lc.length)(v:CpV):Tw w im out lr (lc.set i v) lg (W.setCells (w.heap.size+1+1+1+1) (i*2) v.vals):=
 ⟨h.m.other (by omega) _ _,h.res.other (by omega) _ _,h.o.other (by omega) _ _,h.r.other (by omega) _ _,h.c.setElem cp_len i hi v (i*2) (by simp),h.g.other (by omega) _ _,h.gr.setCells _ (by omega) _ _⟩
theorem Tw.setG {w:World}{im out:List Value}{lr:List RgV}{lc:List CpV}{lg:List GtV}{W:World}(h:Tw w im out lr lc lg W)(i:Nat)(hi:i<lg.length)(v:GtV):Tw w im out lr lc (lg.set i v) (W.setCells (w.heap.size+1+1+1+1+1) (i*4) v.vals):=
 ⟨h.m.other (by omega) _ _,h.res.other (by omega) _ _,h.o.other (by omega) _ _,h.r.other (by omega) _ _,h.c.other (by omega) _ _,h.g.setElem gt_len i hi v (i*4) (by simp),h.gr.setCells _ (by omega) _ _⟩
theorem slots_all (L:List PSlot)(a:Option Addr)(c B kk:Nat)(w:World)(hL:FIn 8 PSlot.vals B w a L)(hb:64*(L.length+8)≤281474976710656)(hB:B≤w.heap.size)(hk:kk<w.heap.size):Calls Tryz.prog 26 #[.slice a L.length c] w fun x w'=>∃s:Sl,x=.returned (.slice s.a s.l s.c)∧SlOk kk w' L s∧Gr w w':=by
 by_cases h:L=[]
 ·subst h;go_enter Tryz.func26,Tryz.ntmps26;go_wp2_with fail;go_ret;exact⟨nilS,rfl,.inl ⟨rfl,rfl⟩,Gr.refl w⟩
 ·exact(slots_any L a c B w hL hb hB h).mono fun _ _ ⟨h1,h2,h3⟩=>⟨⟨some ⟨w.heap.size,0,none⟩,L.length,L.length+8⟩,h1,.inr ⟨h,w.heap.size,rfl,hk,h2⟩,h3⟩
theorem insts_all (L:List Ins)(a:Option Addr)(c B kk:Nat)(w:World)(hL:LIn B w a L)(hb:40*(L.length+8)≤281474976710656)(hB:B≤w.heap.size)(hk:kk<w.heap.size):Calls Tryz.prog 28 #[.slice a L.length c] w fun x w'=>∃s:Sl,x=.returned (.slice s.a s.l s.c)∧LsOk Ins.vals instM kk w' L s∧Gr w w':=
 (insts_any L a c B w hL hb hB).mono fun _ _ ⟨h1,h2,h3⟩=>⟨⟨some ⟨w.heap.size,0,none⟩,L.length,L.length+8⟩,h1,⟨w.heap.size,rfl,hk,h2⟩,h3⟩
theorem typed_all (L:List PTyp)(a:Option Addr)(c B kk:Nat)(w:World)(hL:FIn 7 PTyp.vals B w a L)(hb:56*(L.length+8)≤281474976710656)(hB:B≤w.heap.size)(hk:kk<w.heap.size):Calls Tryz.prog 29 #[.slice a L.length c] w fun x w'=>∃s:Sl,x=.returned (.slice s.a s.l s.c)∧LsOk PTyp.vals typeM kk w' L s∧Gr w w':=
 (typed_any L a c B w hL hb hB).mono fun _ _ ⟨h1,h2,h3⟩=>⟨⟨some ⟨w.heap.size,0,none⟩,L.length,L.length+8⟩,h1,⟨w.heap.size,rfl,hk,h2⟩,h3⟩
theorem roots_all (L:List PRoot)(a:Option Addr)(c B kk:Nat)(w:World)(hL:FIn 6 PRoot.vals B w a L)(hb:48*(L.length+8)≤281474976710656)(hB:B≤w.heap.size)(hk:kk<w.heap.size):Calls Tryz.prog 27 #[.slice a L.length c] w fun x w'=>∃s:Sl,x=.returned (.slice s.a s.l s.c)∧LsOk PRoot.vals rootM kk w' L s∧Gr w w':=
 (roots_any L a c B w hL hb hB).mono fun _ _ ⟨h1,h2,h3⟩=>⟨⟨some ⟨w.heap.size,0,none⟩,L.length,L.length+8⟩,h1,⟨w.heap.size,rfl,hk,h2⟩,h3⟩
end Q
set_option maxRecDepth 100000
set_option maxHeartbeats 40000000
open Go.ChangeShapes Go.WideShapes Go.ChangeAt Go.RowKit Go.Deep
def PReg.Fit (r:PReg):Prop:=W64 r.b∧W64 r.n∧r.data.length≤maxG∧r.slots.length*64≤reachBytes∧∀k∈r.slots,k.Rng
def PComp.Fit (c:PComp):Prop:=c.roots.length*48≤reachBytes∧c.code.length*40≤reachBytes∧OpsIn c.code∧∀k∈c.roots,k.Rng
def PGate.Fit (g:PGate):Prop:=J64 g.c∧J64 g.e∧g.args.length*56≤reachBytes∧g.res.length*56≤reachBytes∧(∀k∈g.args,k.Rng)∧(∀k∈g.res,k.Rng)
structure PImg.Fit (m:PImg):Prop where
 regs:m.regs.length*56≤reachBytes∧∀r∈m.regs,r.Fit
 comps:m.comps.length*48≤reachBytes∧∀c∈m.comps,c.Fit
 gates:m.gates.length*64≤reachBytes∧∀g∈m.gates,g.Fit
 depth:J64 m.depth
theorem reach_is:reachBytes=140737488351232:=by decide
theorem PReg.Fit.rng {r:PReg}(h:r.Fit):r.Rng:=⟨h.1,h.2.1,h.2.2.1,long_le (k:=64) (by omega) h.2.2.2.1,h.2.2.2.2⟩
theorem PComp.Fit.rng {c:PComp}(h:c.Fit):c.Rng:=⟨long_le (k:=48) (by omega) h.1,by have:=h.2.1;rw[reach_is]at this;unfold maxI;omega,h.2.2⟩
theorem PGate.Fit.rng {g:PGate}(h:g.Fit):g.Rng:=⟨h.1,h.2.1,long_le (k:=56) (by omega) h.2.2.1,long_le (k:=56) (by omega) h.2.2.2.1,h.2.2.2.2⟩
theorem PImg.Fit.rng {m:PImg}(h:m.Fit):m.Rng:=⟨⟨long_le (k:=56) (by omega) h.regs.1,fun r q=>(h.regs.2 r q).rng⟩,⟨long_le (k:=48) (by omega) h.comps.1,fun r q=>(h.comps.2 r q).rng⟩,⟨long_le (k:=64) (by omega) h.gates.1,fun r q=>(h.gates.2 r q).rng⟩,h.depth⟩
theorem PImg.Fit.tw {m:PImg}(h:m.Fit):Q.TwFit m:=by
 have e:=reach_is;refine⟨?_,?_,?_,fun r q=>?_,fun r q=>?_,fun r q=>?_⟩
 ·have:=h.regs.1;omega
 ·have:=h.comps.1;omega
 ·have:=h.gates.1;omega
 ·have:=(h.regs.2 r q).2.2.2.1;omega
 ·have:=(h.comps.2 r q).1;have:=(h.comps.2 r q).2.1;omega
 ·have:=(h.gates.2 r q).2.2.1;have:=(h.gates.2 r q).2.2.2.1;omega
theorem bytesSlotF:Tryz.prog.bytesOf 135=64:=by kernel_rfl
theorem bytesTypeF:Tryz.prog.bytesOf 132=56:=by kernel_rfl
theorem bytesRootF:Tryz.prog.bytesOf 98=48:=by kernel_rfl
theorem bytesRegionF:Tryz.prog.bytesOf 95=56:=by kernel_rfl
theorem bytesCompF:Tryz.prog.bytesOf 32=48:=by kernel_rfl
theorem bytesGateF:Tryz.prog.bytesOf 36=64:=by kernel_rfl
theorem row_slotsF {H:Type}{enc:TypeId×Value→H}{W:World}{spare:Nat→Bool}{held:Bool}{n:Nat}{cs:List Value}{x:DataW H×List MemPlace}
 (hf:DataW.trod enc Tryz.prog W 0 spare held n 93 cs=some x):∃(a:Option Addr) (cap:Nat) (L:List PSlot),cs=[.slice a L.length cap]∧FIn 8 PSlot.vals W.heap.size W a L∧(Light 93 x.1→L.length*64≤reachBytes)∧∀r∈L,PSlot.Rng r:=by
 obtain⟨a,cap,L,e,hL,hr⟩:=open_rows (Q:=fun cs (a:PSlot)=>cs=PSlot.vals a∧PSlot.Rng a) (Rg:=fun _=>True) Tryz.underlying93 cellsSlot (by omega) (fun _ _ _ h=>by obtain⟨a,h1,h2⟩:=trod_slot h;exact⟨a,⟨h1,h2⟩,fun _=>trivial⟩) hf;refine⟨a,cap,L,e,fun i hi=>?_,fun hli=>by have:=(hr hli).1;rwa [bytesSlotF]at this,fun r hm=>?_⟩
 ·obtain⟨b,off,ha,hb,cs',⟨rfl,_⟩,hc⟩:=hL i hi;exact⟨b,off,ha,hb,hb,hc⟩
 ·obtain⟨i,hi,rfl⟩:=List.getElem_of_mem hm;obtain⟨b,off,ha,hb,cs',⟨rfl,q⟩,hc⟩:=hL i hi;exact q
theorem row_typesF {H:Type}{enc:TypeId×Value→H}{W:World}{spare:Nat→Bool}{held:Bool}{n:Nat}{cs:List Value}{x:DataW H×List MemPlace}
 (hf:DataW.trod enc Tryz.prog W 0 spare held n 34 cs=some x):∃(a:Option Addr) (cap:Nat) (L:List PTyp),cs=[.slice a L.length cap]∧FIn 7 PTyp.vals W.heap.size W a L∧(Light 34 x.1→L.length*56≤reachBytes)∧∀r∈L,PTyp.Rng r:=by
 obtain⟨a,cap,L,e,hL,hr⟩:=open_rows (Q:=fun cs (a:PTyp)=>cs=PTyp.vals a∧PTyp.Rng a) (Rg:=fun _=>True) Tryz.underlying34 cellsType (by omega) (fun _ _ _ h=>by obtain⟨a,h1,h2⟩:=trod_typ h;exact⟨a,⟨h1,h2⟩,fun _=>trivial⟩) hf;refine⟨a,cap,L,e,fun i hi=>?_,fun hli=>by have:=(hr hli).1;rwa [bytesTypeF]at this,fun r hm=>?_⟩
 ·obtain⟨b,off,ha,hb,cs',⟨rfl,_⟩,hc⟩:=hL i hi;exact⟨b,off,ha,hb,hb,hc⟩
 ·obtain⟨i,hi,rfl⟩:=List.getElem_of_mem hm;obtain⟨b,off,ha,hb,cs',⟨rfl,q⟩,hc⟩:=hL i hi;exact q
theorem row_rootsF {H:Type}{enc:TypeId×Value→H}{W:World}{spare:Nat→Bool}{held:Bool}{n:Nat}{cs:List Value}{x:DataW H×List MemPlace}
 (hf:DataW.trod enc Tryz.prog W 0 spare held n 30 cs=some x):∃(a:Option Addr) (cap:Nat) (L:List PRoot),cs=[.slice a L.length cap]∧FIn 6 PRoot.vals W.heap.size W a L∧(Light 30 x.1→L.length*48≤reachBytes)∧∀r∈L,PRoot.Rng r:=by
 obtain⟨a,cap,L,e,hL,hr⟩:=open_rows (Q:=fun cs (a:PRoot)=>cs=PRoot.vals a∧PRoot.Rng a) (Rg:=fun _=>True) Tryz.underlying30 cellsRoot (by omega) (fun _ _ _ h=>by obtain⟨a,h1,h2⟩:=trod_root h;exact⟨a,⟨h1,h2⟩,fun _=>trivial⟩) hf;refine⟨a,cap,L,e,fun i hi=>?_,fun hli=>by have:=(hr hli).1;rwa [bytesRootF]at this,fun r hm=>?_⟩
 ·obtain⟨b,off,ha,hb,cs',⟨rfl,_⟩,hc⟩:=hL i hi;exact⟨b,off,ha,hb,hb,hc⟩
 ·obtain⟨i,hi,rfl⟩:=List.getElem_of_mem hm;obtain⟨b,off,ha,hb,cs',⟨rfl,q⟩,hc⟩:=hL i hi;exact q
theorem row_instsF {H:Type}{enc:TypeId×Value→H}{W:World}{spare:Nat→Bool}{held:Bool}{n:Nat}{cs:List Value}{x:DataW H×List MemPlace}
 (hf:DataW.trod enc Tryz.prog W 0 spare held n 24 cs=some x):∃(a:Option Addr) (cap:Nat) (L:List Ins),cs=[.slice a L.length cap]∧LIn W.heap.size W a L∧(Light 24 x.1→L.length*40≤reachBytes)∧OpsIn L:=by
 obtain⟨a,cap,L,e,hL,hr⟩:=open_rows (Q:=fun cs (a:Ins)=>cs=a.vals∧(0≤a.op∧a.op<256)) (Rg:=fun _=>True) Tryz.underlying24 cellsInst (by omega) (fun _ _ _ h=>by obtain⟨a,h1,h2,_⟩:=trod_inst h;exact⟨a,⟨h1,h2⟩,fun _=>trivial⟩) hf;refine⟨a,cap,L,e,fun i hi=>?_,fun hli=>?_,fun r hm=>?_⟩
 ·obtain⟨b,off,ha,hb,cs',⟨rfl,_⟩,hc⟩:=hL i hi;exact⟨b,off,ha,hb,hb,hc 0 (by omega),hc 1 (by omega),hc 2 (by omega),hc 3 (by omega),hc 4 (by omega)⟩
 ·have:=(hr hli).1
  rwa [bytesInst]at this
 ·obtain⟨i,hi,rfl⟩:=List.getElem_of_mem hm;obtain⟨b,off,ha,hb,cs',⟨rfl,q⟩,hc⟩:=hL i hi;exact q
theorem trod_regF {H:Type}{enc:TypeId×Value→H}{W:World}{spare:Nat→Bool}{held:Bool}{n:Nat}{cs:List Value}{x:DataW H×List MemPlace}
 (hf:DataW.trod enc Tryz.prog W 0 spare held n 95 cs=some x):∃r:PReg,(∃sa sc,cs=[.int .u64 r.b,.int .u64 r.n,.string (str r.data),.slice sa r.slots.length sc]∧FIn 8 PSlot.vals W.heap.size W sa r.slots)∧(Light 95 x.1→r.Fit):=by
 have hs:=Tryz.underlying95;obtain⟨xs,m,_,hxx,hcl,hl,hx⟩:=DataW.trod_struct hs hf;obtain⟨c0,c1,c2,c3,rfl⟩:=list_4 (hcl.trans cellsRegion);have at_:∀i,i<4→∃y,xs[i]?=some y:=by
  intro i hi;have:i<xs.length:=by rw[hl];simpa using hi
  exact⟨xs[i],by simp[this]⟩
 obtain⟨y0,t0⟩:=at_ 0 (by omega);rw[←hx 0 _ rfl]at t0;obtain⟨y1,t1⟩:=at_ 1 (by omega);rw[←hx 1 _ rfl]at t1;obtain⟨y2,t2⟩:=at_ 2 (by omega);have u2:=t2;rw[←hx 2 _ rfl]at t2;obtain⟨y3,t3⟩:=at_ 3 (by omega);have u3:=t3;rw[←hx 3 _ rfl]at t3;have ku64:Tryz.prog.cellsOf 25=1:=by kernel_rfl
 have kstr:Tryz.prog.cellsOf 9=1:=by kernel_rfl
 have kSlots:Tryz.prog.cellsOf 93=1:=by kernel_rfl
 obtain⟨b,e0,_,w0⟩:=DataW.trod_int Tryz.underlying25 t0;obtain⟨nn,e1,_,w1⟩:=DataW.trod_int Tryz.underlying25 t1;obtain⟨z,e2,hx2,_⟩:=DataW.trod_string Tryz.underlying9 t2;obtain⟨sa,sc,L,e3,hL,hln,hrg⟩:=row_slotsF t3;simp[ku64,kstr,kSlots]at e0 e1 e2 e3;subst e0 e1 e2 e3;refine⟨⟨b,nn,z.data.toList,L⟩,⟨sa,sc,rfl,hL⟩,fun hli=>⟨bd_u64 w0,bd_u64 w1,?_,hln ?_,hrg⟩⟩
 ·rw[hxx]at hli;have hz:Light 9 y2.1:=(Light.part hs hli (j:=2) rfl (by simp[u2]));rw[hx2]at hz;exact Nat.le_trans (hz _ (by simp[DataW.weights])) reach_le
 ·rw[hxx]at hli;exact(Light.part hs hli (j:=3) rfl (by simp[u3]))
theorem trod_compF {H:Type}{enc:TypeId×Value→H}{W:World}{spare:Nat→Bool}{held:Bool}{n:Nat}{cs:List Value}{x:DataW H×List MemPlace}
 (hf:DataW.trod enc Tryz.prog W 0 spare held n 32 cs=some x):∃c:PComp,(∃ra rc ka kc,cs=[.slice ra c.roots.length rc,.slice ka c.code.length kc]∧FIn 6 PRoot.vals W.heap.size W ra c.roots∧LIn W.heap.size W ka c.code)∧(Light 32 x.1→c.Fit):=by
 have hs:=Tryz.underlying32;obtain⟨xs,m,_,hxx,hcl,hl,hx⟩:=DataW.trod_struct hs hf;obtain⟨c0,c1,rfl⟩:=list_2 (hcl.trans cellsComp);have at_:∀i,i<2→∃y,xs[i]?=some y:=by
  intro i hi;have:i<xs.length:=by rw[hl];simpa using hi
  exact⟨xs[i],by simp[this]⟩
 obtain⟨y0,t0⟩:=at_ 0 (by omega);have u0:=t0;rw[←hx 0 _ rfl]at t0;obtain⟨y1,t1⟩:=at_ 1 (by omega);have u1:=t1;rw[←hx 1 _ rfl]at t1;have kRoots:Tryz.prog.cellsOf 30=1:=by kernel_rfl
 have kInsts:Tryz.prog.cellsOf 24=1:=by kernel_rfl
 obtain⟨ra,rc,R,e0,hR,hlr,hrr⟩:=row_rootsF t0;obtain⟨ka,kc,K,e1,hK,hlk,hok⟩:=row_instsF t1;simp[kRoots,kInsts]at e0 e1;subst e0 e1;refine⟨⟨R,K⟩,⟨ra,rc,ka,kc,rfl,hR,hK⟩,fun hli=>⟨hlr ?_,hlk ?_,hok,hrr⟩⟩
 ·rw[hxx]at hli;exact(Light.part hs hli (j:=0) rfl (by simp[u0]))
 ·rw[hxx]at hli;exact(Light.part hs hli (j:=1) rfl (by simp[u1]))
theorem trod_gateF {H:Type}{enc:TypeId×Value→H}{W:World}{spare:Nat→Bool}{held:Bool}{n:Nat}{cs:List Value}{x:DataW H×List MemPlace}
 (hf:DataW.trod enc Tryz.prog W 0 spare held n 36 cs=some x):∃g:PGate,(∃xa xc ya yc,cs=[.int .i64 g.c,.int .i64 g.e,.slice xa g.args.length xc,.slice ya g.res.length yc]∧FIn 7 PTyp.vals W.heap.size W xa g.args∧FIn 7 PTyp.vals W.heap.size W ya g.res)∧(Light 36 x.1→g.Fit):=by
 have hs:=Tryz.underlying36;obtain⟨xs,m,_,hxx,hcl,hl,hx⟩:=DataW.trod_struct hs hf;obtain⟨c0,c1,c2,c3,rfl⟩:=list_4 (hcl.trans cellsGate);have at_:∀i,i<4→∃y,xs[i]?=some y:=by
  intro i hi;have:i<xs.length:=by rw[hl];simpa using hi
  exact⟨xs[i],by simp[this]⟩
 obtain⟨y0,t0⟩:=at_ 0 (by omega);rw[←hx 0 _ rfl]at t0;obtain⟨y1,t1⟩:=at_ 1 (by omega);rw[←hx 1 _ rfl]at t1;obtain⟨y2,t2⟩:=at_ 2 (by omega);have u2:=t2;rw[←hx 2 _ rfl]at t2;obtain⟨y3,t3⟩:=at_ 3 (by omega);have u3:=t3;rw[←hx 3 _ rfl]at t3;have kint:Tryz.prog.cellsOf 3=1:=by kernel_rfl
 have kTypes:Tryz.prog.cellsOf 34=1:=by kernel_rfl
 obtain⟨c,e0,_,w0⟩:=DataW.trod_int Tryz.underlying3 t0;obtain⟨e,e1,_,w1⟩:=DataW.trod_int Tryz.underlying3 t1;obtain⟨xa,xc,X,e2,hX,hlx,hrx⟩:=row_typesF t2;obtain⟨ya,yc,Y,e3,hY,hly,hry⟩:=row_typesF t3;simp[kint,kTypes]at e0 e1 e2 e3;subst e0 e1 e2 e3;refine⟨⟨c,e,X,Y⟩,⟨xa,xc,ya,yc,rfl,hX,hY⟩,fun hli=>⟨bd_i64 w0,bd_i64 w1,hlx ?_,hly ?_,hrx,hry⟩⟩
 ·rw[hxx]at hli;exact(Light.part hs hli (j:=2) rfl (by simp[u2]))
 ·rw[hxx]at hli;exact(Light.part hs hli (j:=3) rfl (by simp[u3]))
theorem row_regsF {H:Type}{enc:TypeId×Value→H}{W:World}{spare:Nat→Bool}{held:Bool}{n:Nat}{cs:List Value}{x:DataW H×List MemPlace}
 (hf:DataW.trod enc Tryz.prog W 0 spare held n 38 cs=some x):∃(a:Option Addr) (cap:Nat) (L:List PReg),cs=[.slice a L.length cap]∧RegIn W.heap.size W a L∧(Light 38 x.1→L.length*56≤reachBytes∧∀r∈L,r.Fit):=by
 obtain⟨a,cap,L,e,hL,hr⟩:=open_rows (Q:=fun cs (r:PReg)=>∃sa sc,cs=[.int .u64 r.b,.int .u64 r.n,.string (str r.data),.slice sa r.slots.length sc]∧FIn 8 PSlot.vals W.heap.size W sa r.slots) (Rg:=fun r=>r.Fit) Tryz.underlying38 cellsRegion (by omega) (fun _ _ _ h=>trod_regF h) hf;refine⟨a,cap,L,e,fun i hi=>?_,fun hli=>⟨by have:=(hr hli).1;rwa [bytesRegionF]at this,(hr hli).2⟩⟩;obtain⟨b,off,ha,hb,cs',⟨sa,sc,rfl,hF⟩,hc⟩:=hL i hi;exact⟨b,off,sa,sc,ha,hb,hb,hc 0 (by omega),hc 1 (by omega),hc 2 (by omega),hc 3 (by omega),hF⟩
theorem row_compsF {H:Type}{enc:TypeId×Value→H}{W:World}{spare:Nat→Bool}{held:Bool}{n:Nat}{cs:List Value}{x:DataW H×List MemPlace}
 (hf:DataW.trod enc Tryz.prog W 0 spare held n 33 cs=some x):∃(a:Option Addr) (cap:Nat) (L:List PComp),cs=[.slice a L.length cap]∧CompIn W.heap.size W a L∧(Light 33 x.1→L.length*48≤reachBytes∧∀r∈L,r.Fit):=by
 obtain⟨a,cap,L,e,hL,hr⟩:=open_rows (Q:=fun cs (r:PComp)=>∃ra rc ka kc,cs=[.slice ra r.roots.length rc,.slice ka r.code.length kc]∧FIn 6 PRoot.vals W.heap.size W ra r.roots∧LIn W.heap.size W ka r.code) (Rg:=fun r=>r.Fit) Tryz.underlying33 cellsComp (by omega) (fun _ _ _ h=>trod_compF h) hf;refine⟨a,cap,L,e,fun i hi=>?_,fun hli=>⟨by have:=(hr hli).1;rwa [bytesCompF]at this,(hr hli).2⟩⟩;obtain⟨b,off,ha,hb,cs',⟨ra,rc,ka,kc,rfl,hR,hK⟩,hc⟩:=hL i hi;exact⟨b,off,ra,rc,ka,kc,ha,hb,hb,hc 0 (by omega),hc 1 (by omega),hR,hK⟩
theorem row_gatesF {H:Type}{enc:TypeId×Value→H}{W:World}{spare:Nat→Bool}{held:Bool}{n:Nat}{cs:List Value}{x:DataW H×List MemPlace}
 (hf:DataW.trod enc Tryz.prog W 0 spare held n 37 cs=some x):∃(a:Option Addr) (cap:Nat) (L:List PGate),cs=[.slice a L.length cap]∧GateIn W.heap.size W a L∧(Light 37 x.1→L.length*64≤reachBytes∧∀r∈L,r.Fit):=by
 obtain⟨a,cap,L,e,hL,hr⟩:=open_rows (Q:=fun cs (r:PGate)=>∃xa xc ya yc,cs=[.int .i64 r.c,.int .i64 r.e,.slice xa r.args.length xc,.slice ya r.res.length yc]∧FIn 7 PTyp.vals W.heap.size W xa r.args∧FIn 7 PTyp.vals W.heap.size W ya r.res) (Rg:=fun r=>r.Fit) Tryz.underlying37 cellsGate (by omega) (fun _ _ _ h=>trod_gateF h) hf;refine⟨a,cap,L,e,fun i hi=>?_,fun hli=>⟨by have:=(hr hli).1;rwa [bytesGateF]at this,(hr hli).2⟩⟩;obtain⟨b,off,ha,hb,cs',⟨xa,xc,ya,yc,rfl,hX,hY⟩,hc⟩:=hL i hi;exact⟨b,off,xa,xc,ya,yc,ha,hb,hb,hc 0 (by omega),hc 1 (by omega),hc 2 (by omega),hc 3 (by omega),hX,hY⟩
theorem trod_imgF {H:Type}{enc:TypeId×Value→H}{W:World}{spare:Nat→Bool}{held:Bool}{n:Nat}{cs:List Value}{x:DataW H×List MemPlace}
 (hf:DataW.trod enc Tryz.prog W 0 spare held n 40 cs=some x):∃(m:PImg) (ra:Option Addr) (rc:Nat) (ca:Option Addr) (cc:Nat) (ga:Option Addr) (gc:Nat),cs=[.slice ra m.regs.length rc,.slice ca m.comps.length cc,.slice ga m.gates.length gc,.int .i64 m.depth]∧ImgIn W.heap.size W ra ca ga m∧(Light 40 x.1→m.Fit):=by
 have hs:=Tryz.underlying40;obtain⟨xs,m,_,hxx,hcl,hl,hx⟩:=DataW.trod_struct hs hf;obtain⟨c0,c1,c2,c3,rfl⟩:=list_4 (hcl.trans cellsImage);have at_:∀i,i<4→∃y,xs[i]?=some y:=by
  intro i hi;have:i<xs.length:=by rw[hl];simpa using hi
  exact⟨xs[i],by simp[this]⟩
 obtain⟨y0,t0⟩:=at_ 0 (by omega);have u0:=t0;rw[←hx 0 _ rfl]at t0;obtain⟨y1,t1⟩:=at_ 1 (by omega);have u1:=t1;rw[←hx 1 _ rfl]at t1;obtain⟨y2,t2⟩:=at_ 2 (by omega);have u2:=t2;rw[←hx 2 _ rfl]at t2;obtain⟨y3,t3⟩:=at_ 3 (by omega);rw[←hx 3 _ rfl]at t3;have kRegions:Tryz.prog.cellsOf 38=1:=by kernel_rfl
 have kComps:Tryz.prog.cellsOf 33=1:=by kernel_rfl
 have kGates:Tryz.prog.cellsOf 37=1:=by kernel_rfl
 have kint:Tryz.prog.cellsOf 3=1:=by kernel_rfl
 obtain⟨ra,rc,R,e0,hR,hr⟩:=row_regsF t0;obtain⟨ca,cc,C,e1,hC,hc⟩:=row_compsF t1;obtain⟨ga,gc,G,e2,hG,hg⟩:=row_gatesF t2;obtain⟨d,e3,_,w3⟩:=DataW.trod_int Tryz.underlying3 t3;simp[kRegions,kComps,kGates,kint]at e0 e1 e2 e3;subst e0 e1 e2 e3;refine⟨⟨R,C,G,d⟩,ra,rc,ca,cc,ga,gc,rfl,⟨hR,hC,hG⟩,fun hli=>⟨hr ?_,hc ?_,hg ?_,bd_i64 w3⟩⟩
 ·rw[hxx]at hli;exact(Light.part hs hli (j:=0) rfl (by simp[u0]))
 ·rw[hxx]at hli;exact(Light.part hs hli (j:=1) rfl (by simp[u1]))
 ·rw[hxx]at hli;exact(Light.part hs hli (j:=2) rfl (by simp[u2]))
theorem open_imgF {H:Type}{enc:TypeId×Value→H}{W:World}{r:Reach}{base:Nat}{spare:Nat→Bool}{held:Bool}{v:Value}{d:DataW H}{ps:List MemPlace}
 (hv:Value.okWide Tryz.prog W r base 40 v)(h:DataW.Trod enc Tryz.prog W 0 spare held 40 v d ps):
 ∃(m:PImg) (ra:Option Addr) (rc:Nat) (ca:Option Addr) (cc:Nat) (ga:Option Addr) (gc:Nat),v=.agg #[.slice ra m.regs.length rc,.slice ca m.comps.length cc,.slice ga m.gates.length gc,.int .i64 m.depth]∧ImgIn W.heap.size W ra ca ga m∧(Light 40 d→m.Fit):=by
 obtain⟨cs,rfl,_⟩:=okWide_struct Tryz.underlying40 hv;obtain⟨fuel,hf⟩:=h;obtain⟨m,ra,rc,ca,cc,ga,gc,e,hI,hr⟩:=trod_imgF hf;refine⟨m,ra,rc,ca,cc,ga,gc,?_,hI,hr⟩;obtain⟨l⟩:=cs;have e':l=_:=e;rw[e']
end Go.Proofs.YthlpjlnehonpdaaGreatDoor
