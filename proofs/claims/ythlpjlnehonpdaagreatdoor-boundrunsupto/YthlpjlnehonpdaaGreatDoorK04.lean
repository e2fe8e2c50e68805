import Derived.Test.YthlpjlnehonpdaaGreatDoorK03
import Derived.Test.YthlpjlnehonpdaaGreatDoorK01
import Derived.Deep.MidRow
import Derived.Laws.MakeOwn
import Derived.Laws.IdiomCopy
import Derived.BigFrame
namespace Go.Proofs.YthlpjlnehonpdaaGreatDoor
open Go.RowKit
def maxG:Nat:=140737488355328
def PReg.Rng (r:PReg):Prop:=W64 r.b∧W64 r.n∧r.data.length≤maxG∧r.slots.length≤maxG∧∀k∈r.slots,k.Rng
def PComp.Rng (c:PComp):Prop:=c.roots.length≤maxG∧c.code.length≤maxI∧OpsIn c.code∧∀k∈c.roots,k.Rng
def PGate.Rng (g:PGate):Prop:=J64 g.c∧J64 g.e∧g.args.length≤maxG∧g.res.length≤maxG∧(∀k∈g.args,k.Rng)∧(∀k∈g.res,k.Rng)
structure PImg.Rng (m:PImg):Prop where
 regs:m.regs.length≤maxG∧∀r∈m.regs,r.Rng
 comps:m.comps.length≤maxG∧∀c∈m.comps,c.Rng
 gates:m.gates.length≤maxG∧∀g∈m.gates,g.Rng
 depth:J64 m.depth
def RegIn (B:Nat)(w:World)(a:Option Addr)(L:List PReg):Prop:=∀i (h:i<L.length),∃(b off:Nat) (sa:Option Addr) (sc:Nat),a=some ⟨b,off,none⟩∧b<B∧b<w.heap.size∧
 w.cell? ⟨b,off+i*4,none⟩=some (.int .u64 L[i].b)∧w.cell? ⟨b,off+i*4+1,none⟩=some (.int .u64 L[i].n)∧w.cell? ⟨b,off+i*4+1+1,none⟩=some (.string (str L[i].data))∧w.cell? ⟨b,off+i*4+1+1+1,none⟩=some (.slice sa L[i].slots.length sc)∧FIn 8 PSlot.vals B w sa L[i].slots
def CompIn (B:Nat)(w:World)(a:Option Addr)(L:List PComp):Prop:=∀i (h:i<L.length),∃(b off:Nat) (ra:Option Addr) (rc:Nat) (ka:Option Addr) (kc:Nat),a=some ⟨b,off,none⟩∧b<B∧b<w.heap.size∧
 w.cell? ⟨b,off+i*2,none⟩=some (.slice ra L[i].roots.length rc)∧w.cell? ⟨b,off+i*2+1,none⟩=some (.slice ka L[i].code.length kc)∧FIn 6 PRoot.vals B w ra L[i].roots∧LIn B w ka L[i].code
def GateIn (B:Nat)(w:World)(a:Option Addr)(L:List PGate):Prop:=∀i (h:i<L.length),∃(b off:Nat) (xa:Option Addr) (xc:Nat) (ya:Option Addr) (yc:Nat),a=some ⟨b,off,none⟩∧b<B∧b<w.heap.size∧
 w.cell? ⟨b,off+i*4,none⟩=some (.int .i64 L[i].c)∧w.cell? ⟨b,off+i*4+1,none⟩=some (.int .i64 L[i].e)∧w.cell? ⟨b,off+i*4+1+1,none⟩=some (.slice xa L[i].args.length xc)∧w.cell? ⟨b,off+i*4+1+1+1,none⟩=some (.slice ya L[i].res.length yc)∧FIn 7 PTyp.vals B w xa L[i].args∧FIn 7 PTyp.vals B w ya L[i].res
theorem RegIn.below {B:Nat}{w w1:World}{a:Option Addr}{L:List PReg}(h:RegIn B w a L)(hb:Below B w w1):RegIn B w1 a L:=fun i hi=>by
 obtain⟨b,off,sa,sc,ha,h1,h2,c0,c1,c2,c3,hs⟩:=h i hi;exact⟨b,off,sa,sc,ha,h1,Nat.lt_of_lt_of_le h2 hb.size,(hb.cell (p:=⟨b,_,none⟩) h1).trans c0,(hb.cell (p:=⟨b,_,none⟩) h1).trans c1,(hb.cell (p:=⟨b,_,none⟩) h1).trans c2,(hb.cell (p:=⟨b,_,none⟩) h1).trans c3,hs.below hb⟩
theorem CompIn.below {B:Nat}{w w1:World}{a:Option Addr}{L:List PComp}(h:CompIn B w a L)(hb:Below B w w1):CompIn B w1 a L:=fun i hi=>by
 obtain⟨b,off,ra,rc,ka,kc,ha,h1,h2,c0,c1,hr,hk⟩:=h i hi;exact⟨b,off,ra,rc,ka,kc,ha,h1,Nat.lt_of_lt_of_le h2 hb.size,(hb.cell (p:=⟨b,_,none⟩) h1).trans c0,(hb.cell (p:=⟨b,_,none⟩) h1).trans c1,hr.below hb,hk.below hb⟩
theorem GateIn.below {B:Nat}{w w1:World}{a:Option Addr}{L:List PGate}(h:GateIn B w a L)(hb:Below B w w1):GateIn B w1 a L:=fun i hi=>by
 obtain⟨b,off,xa,xc,ya,yc,ha,h1,h2,c0,c1,c2,c3,hx,hy⟩:=h i hi;exact⟨b,off,xa,xc,ya,yc,ha,h1,Nat.lt_of_lt_of_le h2 hb.size,(hb.cell (p:=⟨b,_,none⟩) h1).trans c0,(hb.cell (p:=⟨b,_,none⟩) h1).trans c1,(hb.cell (p:=⟨b,_,none⟩) h1).trans c2,(hb.cell (p:=⟨b,_,none⟩) h1).trans c3,hx.below hb,hy.below hb⟩
theorem RegIn.mono {B B':Nat}{w:World}{a:Option Addr}{L:List PReg}(h:RegIn B w a L)(hb:B≤B'):RegIn B' w a L:=fun i hi=>by
 obtain⟨b,off,sa,sc,ha,h1,h2,c0,c1,c2,c3,hs⟩:=h i hi;exact⟨b,off,sa,sc,ha,Nat.lt_of_lt_of_le h1 hb,h2,c0,c1,c2,c3,hs.mono hb⟩
theorem CompIn.mono {B B':Nat}{w:World}{a:Option Addr}{L:List PComp}(h:CompIn B w a L)(hb:B≤B'):CompIn B' w a L:=fun i hi=>by
 obtain⟨b,off,ra,rc,ka,kc,ha,h1,h2,c0,c1,hr,hk⟩:=h i hi;exact⟨b,off,ra,rc,ka,kc,ha,Nat.lt_of_lt_of_le h1 hb,h2,c0,c1,hr.mono hb,hk.mono hb⟩
theorem GateIn.mono {B B':Nat}{w:World}{a:Option Addr}{L:List PGate}(h:GateIn B w a L)(hb:B≤B'):GateIn B' w a L:=fun i hi=>by
 obtain⟨b,off,xa,xc,ya,yc,ha,h1,h2,c0,c1,c2,c3,hx,hy⟩:=h i hi;exact⟨b,off,xa,xc,ya,yc,ha,Nat.lt_of_lt_of_le h1 hb,h2,c0,c1,c2,c3,hx.mono hb,hy.mono hb⟩
structure ImgIn (B:Nat)(w:World)(ra ca ga:Option Addr)(m:PImg):Prop where
 regs:RegIn B w ra m.regs
 comps:CompIn B w ca m.comps
 gates:GateIn B w ga m.gates
theorem ImgIn.below {B:Nat}{w w1:World}{ra ca ga:Option Addr}{m:PImg}(h:ImgIn B w ra ca ga m)(hb:Below B w w1):ImgIn B w1 ra ca ga m:=⟨h.regs.below hb,h.comps.below hb,h.gates.below hb⟩
theorem ImgIn.mono {B B':Nat}{w:World}{ra ca ga:Option Addr}{m:PImg}(h:ImgIn B w ra ca ga m)(hb:B≤B'):ImgIn B' w ra ca ga m:=⟨h.regs.mono hb,h.comps.mono hb,h.gates.mono hb⟩
set_option maxRecDepth 100000
set_option maxHeartbeats 40000000
open Go.ChangeShapes Go.WideShapes Go.ChangeAt Go.RowKit Go.Deep
def Light {H:Type}(t:TypeId)(d:DataW H):Prop:=∀n∈d.weights Tryz.prog t,n≤reachBytes
theorem Light.part {H:Type}{t:TypeId}{fs:Array Field}{parts:List (DataW H)}(hu:Tryz.prog.underlying t=some (.struct fs))(h:Light t (.agg parts)){j:Nat}{tj:TypeId}{dj:DataW H}
 (ht:(fs.toList.map (·.type))[j]?=some tj)(hd:parts[j]?=some dj):Light tj dj:=fun n hn=>h n (by simp only[DataW.weights,hu];exact DataW.weights_mem_each ht hd n hn)
theorem weightsAll_mem {H:Type}{e:TypeId}:∀{l:List (DataW H)} {d:DataW H},d∈l→∀n∈d.weights Tryz.prog e,n∈DataW.weightsAll Tryz.prog e l
 |x::r,d,hd,n,hn=>by
  simp only[DataW.weightsAll,List.mem_append];rcases List.mem_cons.1 hd with rfl|hd
  ·exact .inl hn
  ·exact .inr (weightsAll_mem hd n hn)
 |[],d,hd,_,_=>by simp at hd
theorem Light.row {H:Type}{t e:TypeId}{elems spare:List (DataW H)}(hu:Tryz.prog.underlying t=some (.slice e))(h:Light t (.slice elems spare)):elems.length*Tryz.prog.bytesOf e≤reachBytes∧∀d∈elems,Light e d:=by
 constructor
 ·have:=h ((elems.length+spare.length)*Tryz.prog.bytesOf e) (by simp[DataW.weights,hu]);exact Nat.le_trans (Nat.mul_le_mul_right _ (Nat.le_add_right _ _)) this
 ·intro d hd n hn;exact h n (by simp only[DataW.weights,hu];simp[weightsAll_mem hd n hn])
theorem light_of {H:Type}{ts:List TypeId}{ds:List (DataW H)}(h:(DataW.weightsEach Tryz.prog ts ds).all (·≤reachBytes)=true){j:Nat}{t:TypeId}{d:DataW H}(ht:ts[j]?=some t)(hd:ds[j]?=some d):Light t d:=fun n hn=>by
 have:=List.all_eq_true.1 h _ (DataW.weights_mem_each ht hd n hn);simpa using this
theorem reach_le:reachBytes≤maxG:=by unfold maxG;decide
theorem long_le {n k:Nat}(hk:1≤k)(h:n*k≤reachBytes):n≤maxG:=by
 have h1:n*1≤n*k:=Nat.mul_le_mul_left n hk;have h2:=reach_le;omega
theorem no_spot_k {W:World}{a:Addr}{cs:List Value}{k:Nat}(hk:0<k)(h:W.cells? 0 (a.add (0*k)) k=some cs):a.spot=none:=by
 obtain⟨_,hl,hc⟩:=World.cells?_some h;have c0:=hc 0 hk;simp only[Nat.zero_mul,Addr.add,if_true]at c0;have:cs[0]?=some (cs[0]'(by omega)):=by simp
 exact World.cell?_spot (c0.trans this)
theorem open_rows {H:Type}{enc:TypeId×Value→H}{W:World}{spare:Nat→Bool}{held:Bool}{α:Type}{Q:List Value→α→Prop}{Rg:α→Prop}{k:Nat}{t e:TypeId}(ht:Tryz.prog.underlying t=some (.slice e))(hce:Tryz.prog.cellsOf e=k)(hk:0<k)
 (hel:∀(n:Nat) (cs:List Value) (x:DataW H×List MemPlace),DataW.trod enc Tryz.prog W 0 spare held n e cs=some x→∃a,Q cs a∧(Light e x.1→Rg a))
 {fuel:Nat}{cs:List Value}{x:DataW H×List MemPlace}(h:DataW.trod enc Tryz.prog W 0 spare held fuel t cs=some x):
 ∃(a:Option Addr) (cap:Nat) (L:List α),cs=[.slice a L.length cap]∧(∀i (h:i<L.length),∃b off,a=some ⟨b,off,none⟩∧b<W.heap.size∧∃cs',Q cs' L[i]∧∀j,j<k→W.cell? ⟨b,off+i*k+j,none⟩=cs'[j]?)∧
  (Light t x.1→L.length*Tryz.prog.bytesOf e≤reachBytes∧∀r∈L,Rg r):=by
 rcases open_slice ht h with⟨rfl,rfl⟩|⟨a,len,cap,m,n,D,Pl,rfl,_,hl,hm,hmm,rfl,hx⟩
 ·exact⟨none,0,[],rfl,fun i hi=>by simp at hi,fun _=>⟨by simp,by simp⟩⟩
 ·have hlm:len≤m:=by rw[hmm];split<;>omega
  rw[hce]at hx;have hk':∀i,i<len→∃y,(∃cs',W.cells? 0 (a.add (i*k)) k=some cs'∧Q cs' y)∧(Light e (D i)→Rg y):=fun i hi=>by
   obtain⟨cs',e1,e2⟩:=hx i (by omega);obtain⟨y,q,r⟩:=hel _ _ _ e2;exact⟨y,⟨cs',e1,q⟩,r⟩
  obtain⟨L,hL,hp⟩:=choose_list _ _ hk';subst hL;refine⟨some a,cap,L,rfl,fun i hi=>?_,fun hli=>?_⟩
  ·have h0:0<L.length:=by omega
   obtain⟨⟨c0,hc0,_⟩,_⟩:=hp 0 h0;have hs:a.spot=none:=no_spot_k hk hc0;obtain⟨⟨cs',hc,q⟩,_⟩:=hp i hi;obtain⟨_,hlen,hcc⟩:=World.cells?_some hc;obtain⟨b,off,spot⟩:=a;obtain rfl:spot=none:=hs;have hcell:∀j,j<k→W.cell? ⟨b,off+i*k+j,none⟩=cs'[j]?:=fun j hj=>by
    have:=hcc j hj
    rwa [addr_add,addr_add]at this
   have c1:=hcell 0 hk;have:cs'[0]?=some (cs'[0]'(by omega)):=by simp
   exact⟨b,off,rfl,World.block_lt_of_cell? W _ (c1.trans this),cs',q,hcell⟩
  ·obtain⟨h1,h2⟩:=Light.row ht hli;refine⟨by simpa using h1,fun r hr=>?_⟩;obtain⟨i,hi,rfl⟩:=List.getElem_of_mem hr;exact(hp i hi).2 (h2 _ (by simp;exact⟨i,hi,rfl⟩))
theorem cellsSlot:Tryz.prog.cellsOf 135=8:=by kernel_rfl
theorem cellsRoot:Tryz.prog.cellsOf 98=6:=by kernel_rfl
theorem cellsRegion:Tryz.prog.cellsOf 95=4:=by kernel_rfl
theorem cellsComp:Tryz.prog.cellsOf 32=2:=by kernel_rfl
theorem cellsGate:Tryz.prog.cellsOf 36=4:=by kernel_rfl
theorem cellsImage:Tryz.prog.cellsOf 40=4:=by kernel_rfl
theorem bytesInst:Tryz.prog.bytesOf 29=40:=by kernel_rfl
theorem list_2 {cs:List Value}(h:cs.length=2):∃c0 c1,cs=[c0,c1]:=by
 match cs,h with
 |[c0,c1],_=>exact⟨c0,c1,rfl⟩
theorem list_4 {cs:List Value}(h:cs.length=4):∃c0 c1 c2 c3,cs=[c0,c1,c2,c3]:=by
 match cs,h with
 |[c0,c1,c2,c3],_=>exact⟨c0,c1,c2,c3,rfl⟩
theorem list_5 {cs:List Value}(h:cs.length=5):∃c0 c1 c2 c3 c4,cs=[c0,c1,c2,c3,c4]:=by
 match cs,h with
 |[c0,c1,c2,c3,c4],_=>exact⟨c0,c1,c2,c3,c4,rfl⟩
theorem list_6 {cs:List Value}(h:cs.length=6):∃c0 c1 c2 c3 c4 c5,cs=[c0,c1,c2,c3,c4,c5]:=by
 match cs,h with
 |[c0,c1,c2,c3,c4,c5],_=>exact⟨c0,c1,c2,c3,c4,c5,rfl⟩
theorem list_7 {cs:List Value}(h:cs.length=7):∃c0 c1 c2 c3 c4 c5 c6,cs=[c0,c1,c2,c3,c4,c5,c6]:=by
 match cs,h with
 |[c0,c1,c2,c3,c4,c5,c6],_=>exact⟨c0,c1,c2,c3,c4,c5,c6,rfl⟩
theorem list_8 {cs:List Value}(h:cs.length=8):∃c0 c1 c2 c3 c4 c5 c6 c7,cs=[c0,c1,c2,c3,c4,c5,c6,c7]:=by
 match cs,h with
 |[c0,c1,c2,c3,c4,c5,c6,c7],_=>exact⟨c0,c1,c2,c3,c4,c5,c6,c7,rfl⟩
theorem trod_typ {H:Type}{enc:TypeId×Value→H}{W:World}{spare:Nat→Bool}{held:Bool}{n:Nat}{cs:List Value}{x:DataW H×List MemPlace}
 (hf:DataW.trod enc Tryz.prog W 0 spare held n 132 cs=some x):∃t:PTyp,cs=t.vals∧t.Rng:=by
 have hs:=Tryz.underlying132;obtain⟨xs,m,_,_,hcl,hl,hx⟩:=DataW.trod_struct hs hf;obtain⟨c0,c1,c2,c3,c4,c5,c6,rfl⟩:=list_7 (hcl.trans cellsType);have at_:∀i,i<7→∃y,xs[i]?=some y:=by
  intro i hi;have:i<xs.length:=by rw[hl];simpa using hi
  exact⟨xs[i],by simp[this]⟩
 obtain⟨y0,t0⟩:=at_ 0 (by omega);rw[←hx 0 _ rfl]at t0;obtain⟨y1,t1⟩:=at_ 1 (by omega);rw[←hx 1 _ rfl]at t1;obtain⟨y2,t2⟩:=at_ 2 (by omega);rw[←hx 2 _ rfl]at t2;obtain⟨y3,t3⟩:=at_ 3 (by omega);rw[←hx 3 _ rfl]at t3;obtain⟨y4,t4⟩:=at_ 4 (by omega);rw[←hx 4 _ rfl]at t4;obtain⟨y5,t5⟩:=at_ 5 (by omega);rw[←hx 5 _ rfl]at t5;obtain⟨y6,t6⟩:=at_ 6 (by omega);rw[←hx 6 _ rfl]at t6;have kbool:Tryz.prog.cellsOf 4=1:=by kernel_rfl
 have ku64:Tryz.prog.cellsOf 25=1:=by kernel_rfl
 have kperms:Tryz.prog.cellsOf 75=1:=by kernel_rfl
 have kint:Tryz.prog.cellsOf 3=1:=by kernel_rfl
 obtain⟨tc,e0,_⟩:=DataW.trod_bool Tryz.underlying4 t0;obtain⟨tb,e1,_,w1⟩:=DataW.trod_int Tryz.underlying25 t1;obtain⟨te,e2,_,w2⟩:=DataW.trod_int Tryz.underlying25 t2;obtain⟨lo,e3,_,w3⟩:=DataW.trod_int Tryz.underlying25 t3;obtain⟨hi,e4,_,w4⟩:=DataW.trod_int Tryz.underlying25 t4;obtain⟨tp,e5,_,w5⟩:=DataW.trod_int Tryz.underlying75 t5;obtain⟨ts,e6,_,w6⟩:=DataW.trod_int Tryz.underlying3 t6;simp[kbool,ku64,kperms,kint]at e0 e1 e2 e3 e4 e5 e6;subst e0 e1 e2 e3 e4 e5 e6;exact⟨⟨tc,tb,te,lo,hi,tp,ts⟩,rfl,bd_u64 w1,bd_u64 w2,bd_u64 w3,bd_u64 w4,bd_u8 w5,bd_i64 w6⟩
theorem trod_slot {H:Type}{enc:TypeId×Value→H}{W:World}{spare:Nat→Bool}{held:Bool}{n:Nat}{cs:List Value}{x:DataW H×List MemPlace}
 (hf:DataW.trod enc Tryz.prog W 0 spare held n 135 cs=some x):∃k:PSlot,cs=k.vals∧k.Rng:=by
 have hs:=Tryz.underlying135;obtain⟨xs,m,_,_,hcl,hl,hx⟩:=DataW.trod_struct hs hf;obtain⟨c0,c1,c2,c3,c4,c5,c6,c7,rfl⟩:=list_8 (hcl.trans cellsSlot);have at_:∀i,i<2→∃y,xs[i]?=some y:=by
  intro i hi;have:i<xs.length:=by rw[hl];simpa using hi
  exact⟨xs[i],by simp[this]⟩
 obtain⟨y0,t0⟩:=at_ 0 (by omega);rw[←hx 0 _ rfl]at t0;obtain⟨y1,t1⟩:=at_ 1 (by omega);rw[←hx 1 _ rfl]at t1;have ku64:Tryz.prog.cellsOf 25=1:=by kernel_rfl
 obtain⟨t,e0,r0⟩:=trod_typ t0;obtain⟨c,e1,_,w1⟩:=DataW.trod_int Tryz.underlying25 t1;simp[ku64,cellsType]at e0 e1;subst e1;exact⟨⟨t,c⟩,by simp[PSlot.vals,←e0],r0,bd_u64 w1⟩
theorem trod_cap {H:Type}{enc:TypeId×Value→H}{W:World}{spare:Nat→Bool}{held:Bool}{n:Nat}{cs:List Value}{x:DataW H×List MemPlace}
 (hf:DataW.trod enc Tryz.prog W 0 spare held n 77 cs=some x):∃b e c p s:Int,cs=[.int .u64 b,.int .u64 e,.int .u64 c,.int .u8 p,.int .i64 s]∧W64 b∧W64 e∧W64 c∧B8 p∧J64 s:=by
 have hs:=Tryz.underlying77;obtain⟨xs,m,_,_,hcl,hl,hx⟩:=DataW.trod_struct hs hf;obtain⟨c0,c1,c2,c3,c4,rfl⟩:=list_5 (hcl.trans cellsCap);have at_:∀i,i<5→∃y,xs[i]?=some y:=by
  intro i hi;have:i<xs.length:=by rw[hl];simpa using hi
  exact⟨xs[i],by simp[this]⟩
 obtain⟨y0,t0⟩:=at_ 0 (by omega);rw[←hx 0 _ rfl]at t0;obtain⟨y1,t1⟩:=at_ 1 (by omega);rw[←hx 1 _ rfl]at t1;obtain⟨y2,t2⟩:=at_ 2 (by omega);rw[←hx 2 _ rfl]at t2;obtain⟨y3,t3⟩:=at_ 3 (by omega);rw[←hx 3 _ rfl]at t3;obtain⟨y4,t4⟩:=at_ 4 (by omega);rw[←hx 4 _ rfl]at t4;have ku64:Tryz.prog.cellsOf 25=1:=by kernel_rfl
 have kperms:Tryz.prog.cellsOf 75=1:=by kernel_rfl
 have kint:Tryz.prog.cellsOf 3=1:=by kernel_rfl
 obtain⟨b,e0,_,w0⟩:=DataW.trod_int Tryz.underlying25 t0;obtain⟨e,e1,_,w1⟩:=DataW.trod_int Tryz.underlying25 t1;obtain⟨c,e2,_,w2⟩:=DataW.trod_int Tryz.underlying25 t2;obtain⟨p,e3,_,w3⟩:=DataW.trod_int Tryz.underlying75 t3;obtain⟨s,e4,_,w4⟩:=DataW.trod_int Tryz.underlying3 t4;simp[ku64,kperms,kint]at e0 e1 e2 e3 e4;subst e0 e1 e2 e3 e4;exact⟨b,e,c,p,s,rfl,bd_u64 w0,bd_u64 w1,bd_u64 w2,bd_u8 w3,bd_i64 w4⟩
theorem trod_root {H:Type}{enc:TypeId×Value→H}{W:World}{spare:Nat→Bool}{held:Bool}{n:Nat}{cs:List Value}{x:DataW H×List MemPlace}
 (hf:DataW.trod enc Tryz.prog W 0 spare held n 98 cs=some x):∃k:PRoot,cs=k.vals∧k.Rng:=by
 have hs:=Tryz.underlying98;obtain⟨xs,m,_,_,hcl,hl,hx⟩:=DataW.trod_struct hs hf;obtain⟨c0,c1,c2,c3,c4,c5,rfl⟩:=list_6 (hcl.trans cellsRoot);have at_:∀i,i<2→∃y,xs[i]?=some y:=by
  intro i hi;have:i<xs.length:=by rw[hl];simpa using hi
  exact⟨xs[i],by simp[this]⟩
 obtain⟨y0,t0⟩:=at_ 0 (by omega);rw[←hx 0 _ rfl]at t0;obtain⟨y1,t1⟩:=at_ 1 (by omega);rw[←hx 1 _ rfl]at t1;have kint:Tryz.prog.cellsOf 3=1:=by kernel_rfl
 obtain⟨r,e0,_,w0⟩:=DataW.trod_int Tryz.underlying3 t0;obtain⟨b,e,c,p,s,e1,r1⟩:=trod_cap t1;simp[kint,cellsCap]at e0 e1;obtain⟨rfl,rfl,rfl,rfl,rfl⟩:=e1;subst e0;exact⟨⟨r,b,e,c,p,s⟩,rfl,bd_i64 w0,r1⟩
def rowV {α:Type}(pre:List Value)(f:α→List Value)(L:List α):List Value:=pre++L.flatMap f
theorem flat_len {α:Type}{f:α→List Value}{k:Nat}(hf:∀x,(f x).length=k):∀L:List α,(L.flatMap f).length=L.length*k
 |[]=>by simp
 |x::L=>by rw[List.flatMap_cons,List.length_append,hf,flat_len hf L,List.length_cons,Nat.add_mul];omega
theorem flat_at' {α:Type}{f:α→List Value}{k:Nat}(hf:∀x,(f x).length=k):∀(L:List α) (i:Nat) (h:i<L.length) (j:Nat),j<k→(L.flatMap f)[i*k+j]?=(f L[i])[j]?
 |x::L,0,_,j,hj=>by
  rw[List.flatMap_cons,Nat.zero_mul,Nat.zero_add,List.getElem?_append_left (by rw[hf];exact hj)]
  rfl
 |x::L,i+1,h,j,hj=>by
  rw[List.flatMap_cons,List.getElem?_append_right (by rw[hf,Nat.add_mul];omega),hf,show(i+1)*k+j - k=i*k+j by rw[Nat.add_mul];omega];exact flat_at' hf L i (by simpa using h) j hj
theorem rowv_at {α:Type}{pre:List Value}{f:α→List Value}{k:Nat}(hf:∀x,(f x).length=k)(L:List α)(i:Nat)(h:i<L.length)(j:Nat)(hj:j<k):(rowV pre f L)[pre.length+i*k+j]?=(f L[i])[j]?:=by
 unfold rowV;rw[List.getElem?_append_right (by omega),show pre.length+i*k+j - pre.length=i*k+j by omega];exact flat_at' hf L i h j hj
theorem row_len {α:Type}{pre:List Value}{f:α→List Value}{k:Nat}(hf:∀x,(f x).length=k)(L:List α):(rowV pre f L).length=pre.length+L.length*k:=by
 unfold rowV;rw[List.length_append,flat_len hf]
theorem At.range {w:World}{b:Nat}{cs:List Value}(h:At w b cs.toArray):w.rangeAt b 0 cs:=fun j v q=>by
 rw[Nat.zero_add,h.2.1];simpa using q
theorem At.elem {α:Type}{pre:List Value}{f:α→List Value}{k:Nat}(hf:∀x,(f x).length=k){w:World}{b:Nat}{L:List α}(h:At w b (rowV pre f L).toArray)(i:Nat)(hi:i<L.length)(o:Nat)(ho:o=pre.length+i*k):w.rangeAt b o (f L[i]):=fun j v q=>by
 have hj:j<k:=by have:=(List.getElem?_eq_some_iff.1 q).1;rwa [hf]at this
 rw[h.2.1,List.getElem?_toArray,ho,rowv_at hf L i hi j hj];exact q
theorem At.there {w:World}{b:Nat}{cs:List Value}(h:At w b cs.toArray)(o n:Nat)(hn:o+n≤cs.length):w.there b o n:=fun j hj=>by
 refine⟨?_,h.2.2 _⟩;rw[h.2.1,List.getElem?_toArray,List.getElem?_eq_getElem (by omega)]
 rfl
theorem setCells_size (b:Nat):∀(vs:List Value) (o:Nat) (w:World),(w.setCells b o vs).heap.size=w.heap.size
 |[],_,_=>rfl
 |v::r,o,w=>by rw[World.setCells,setCells_size b r];simp
theorem At.setRange {w:World}{b:Nat}{cs ds:List Value}(h:At w b cs.toArray)(o:Nat)(vs:List Value)(_hl:ds.length=cs.length)(ho:o+vs.length≤cs.length)
 (hin:∀j,j<vs.length→ds[o+j]?=vs[j]?)(hout:∀i,i<o∨o+vs.length≤i→ds[i]?=cs[i]?):At (w.setCells b o vs) b ds.toArray:=by
 refine⟨by rw[setCells_size];exact h.1,fun i=>?_,fun i=>by rw[World.frozen?_setCells];exact h.2.2 i⟩;rw[List.getElem?_toArray];by_cases q:o≤i∧i<o+vs.length
 ·have e:i=o+(i - o):=by omega
  rw[e,World.cell?_setCells_in b vs o w (fun j hj=>(h.there o vs.length ho j hj).1) (i - o) (by omega),hin _ (by omega),List.getElem?_eq_getElem (by omega)]
 ·rw[World.cell?_setCells_out b vs o w ⟨b,i,none⟩ (fun _ _=>by show i<o∨o+vs.length≤i;omega),h.2.1,List.getElem?_toArray,hout i (by omega)]
theorem At.setAll {w:World}{b:Nat}{cs:List Value}(h:At w b cs.toArray)(vs:List Value)(hl:vs.length=cs.length):At (w.setCells b 0 vs) b vs.toArray:=
 h.setRange 0 vs hl (by omega) (fun j _=>by rw[Nat.zero_add]) (fun i q=>by rw[List.getElem?_eq_none (by omega),List.getElem?_eq_none (by omega)])
theorem At.other {w:World}{b b':Nat}{cs:Array Value}(h:At w b cs)(hne:b≠b')(o:Nat)(vs:List Value):At (w.setCells b' o vs) b cs:=
 ⟨by rw[setCells_size];exact h.1,fun i=>by rw[World.cell?_setCells_out b' vs o w ⟨b,i,none⟩ (fun e _=>absurd e hne)];exact h.2.1 i,fun i=>by rw[World.frozen?_setCells];exact h.2.2 i⟩
theorem Gr.setCells {w W:World}(h:Gr w W)(b:Nat)(hb:w.heap.size≤b):∀(vs:List Value) (o:Nat),Gr w (W.setCells b o vs):=fun vs=>by
 induction vs generalizing W with
 |nil=>exact fun _=>h
 |cons v r ih=>exact fun o=>ih (h.setCell b o v hb) (o+1)
theorem At.setElem {α:Type}{pre:List Value}{f:α→List Value}{k:Nat}(hf:∀x,(f x).length=k){w:World}{b:Nat}{L:List α}(h:At w b (rowV pre f L).toArray)(i:Nat)(hi:i<L.length)(x:α)(o:Nat)(ho:o=pre.length+i*k):At (w.setCells b o (f x)) b (rowV pre f (L.set i x)).toArray:=by
 have e1:=row_len (pre:=pre) hf L;have e2:=row_len (pre:=pre) hf (L.set i x);rw[List.length_set]at e2;have hk:i*k+k≤L.length*k:=by
  have:(i+1)*k≤L.length*k:=Nat.mul_le_mul_right k hi;rw[Nat.add_mul]at this;omega
 refine h.setRange o (f x) (by omega) (by rw[hf];omega) (fun j hj=>?_) (fun n hn=>?_)
 ·rw[hf]at hj;rw[ho,rowv_at hf (L.set i x) i (by simpa using hi) j hj];simp
 ·rw[hf]at hn;by_cases q:n<pre.length
  ·unfold rowV;rw[List.getElem?_append_left q,List.getElem?_append_left q]
  ·by_cases q2:n<pre.length+L.length*k
   ·have hk0:0<k:=by
     rcases Nat.eq_zero_or_pos k with h0|h0
     ·subst h0;simp at q2;omega
     ·exact h0
    have en:n=pre.length+(n - pre.length)/k*k+(n - pre.length)%k:=by
     have:=Nat.div_add_mod (n - pre.length) k;rw[Nat.mul_comm]at this;omega
    have hd:(n - pre.length)/k<L.length:=by
     rw[Nat.div_lt_iff_lt_mul hk0];omega
    have hm:=Nat.mod_lt (n - pre.length) hk0;have hne:i≠(n - pre.length)/k:=by
     intro e;rw[←e]at en;omega
    rw[en,rowv_at hf (L.set i x) _ (by simpa using hd) _ hm,rowv_at hf L _ hd _ hm,List.getElem_set_ne hne]
   ·rw[List.getElem?_eq_none (by omega),List.getElem?_eq_none (by omega)]
theorem At.new' (w:World)(cs:List Value)(t:TypeId){k:Nat}(h:w.heap.size=k):At (w.alloc (.cells cs.toArray t)) k cs.toArray:=At.at_ w _ t h
namespace Q
theorem made_k {α:Type}{vals:α→List Value}{k:Nat}(hk:0<k)(hv:∀x,(vals x).length=k)(Z:α)(n:Nat):madeCells (vals Z).toArray (n*k)=(rowV [] vals (List.replicate n Z)).toArray:=by
 apply Array.ext_getElem?;intro i;have e:(rowV [] vals (List.replicate n Z)).toArray[i]?=(rowV [] vals (List.replicate n Z))[i]?:=by simp
 rw[e];have hl:=row_len (pre:=[]) hv (List.replicate n Z);rw[List.length_replicate]at hl;by_cases h:i<n*k
 ·have hd:i/k<n:=by rw[Nat.div_lt_iff_lt_mul hk];exact h
  have hm:=Nat.mod_lt i hk;have ei:i=([]:List Value).length+i/k*k+i%k:=by
   have:=Nat.div_add_mod i k;rw[Nat.mul_comm]at this;simp;omega
  have r:=rowv_at (pre:=[]) hv (List.replicate n Z) (i/k) (by simpa using hd) (i%k) hm;rw[←ei]at r;rw[r];have hz:i%k<(vals Z).length:=by rw[hv];exact hm
  simp[madeCells,h,hv];rw[List.getElem?_eq_getElem hz]
  rfl
 ·rw[Array.getElem?_eq_none (by rw[size_madeCells];omega),List.getElem?_eq_none (by rw[hl];simp;omega)]
theorem info_partsQ {t:TypeId}{z:Value}{s b:Nat}(h:(Tryz.prog.info? t).map (fun i=>(i.zero,i.size,i.bytes))=some (some z,s,b)):
 ∃i,Tryz.prog.info? t=some i∧i.zero=some z∧i.size=s∧i.bytes=b:=by
 obtain⟨i,hi,he⟩:=Option.map_eq_some_iff.1 h;simp only[Prod.mk.injEq]at he;exact⟨i,hi,he.1,he.2.1,he.2.2⟩
theorem make_k {α:Type}{vals:α→List Value}{t e:TypeId}{k b:Nat}{Z:α}(hk:0<k)(hv:∀x,(vals x).length=k)(ht:Tryz.prog.underlying t=some (.slice e))
 (hi:(Tryz.prog.info? e).map (fun i=>(i.zero,i.size,i.bytes))=some (some (.agg (vals Z).toArray),k,b))(n:Nat)(hn:n≤4611686018427387904)(hb:b*n≤281474976710656)(w:World):
 (Instr.makeSlice t (.int .i64 n) (.int .i64 n)).run Tryz.prog w=.ok (.slice (some ⟨w.heap.size,0,none⟩) n n) (w.alloc (.cells (rowV [] vals (List.replicate n Z)).toArray e)):=by
 obtain⟨i0,hi0,hz0,hz1,hz2⟩:=info_partsQ hi;have hbb:(i0.bytes:Int)*(n:Int)≤281474976710656:=by
  rw[hz2];have h:((b*n:Nat):Int)≤281474976710656:=by omega
  rwa [Int.natCast_mul]at h
 have h:=run_make (P:=Tryz.prog) w t e i0 _ ht hi0 hz0 .i64 .i64 n n (by omega) (by omega) hbb (by omega);rw[hz1,Int.toNat_natCast,show(Value.agg (vals Z).toArray).cells=(vals Z).toArray from rfl,made_k hk hv]at h;exact h
theorem run_copy_none {P:Program}(w:World)(dT sT ty elem:TypeId)(k:Nat)(d:Addr)(dLen dCap sCap:Nat)(hu:P.underlying dT=some (.slice elem))(hs:(P.info? elem).map (·.size)=some k):
 (Builtin.copy_ #[dT,sT] ty #[.slice (some d) dLen dCap,.slice none 0 sCap]).run P w=.ok (goInt 0) w:=by
 cases hq:P.info? elem with
 |none=>simp[hq]at hs
 |some i=>simp[Builtin.copy_,run_underlying hu,Builtin.lenOf,Builtin.firstCells,sizeOf,typeInfo,hq,storeCells]
theorem run_copy_q {P:Program}(w:World)(dT sT ty elem:TypeId)(k b o dLen dCap:Nat)(a:Addr)(sLen sCap:Nat)(cs:List Value)
 (hu:P.underlying dT=some (.slice elem))(hs:(P.info? elem).map (·.size)=some k)(hn:cs.length=Nat.min sLen dLen*k)
 (hsrc:∀j v,cs[j]?=some v→w.cell? (a.add j)=some v)(hc:∀j,j<cs.length→(w.cell? ⟨b,o+j,none⟩).isSome=true)(hf:∀j,j<cs.length→w.frozen? ⟨b,o+j,none⟩=false)(h1:∀v∈cs,v.oneCell'=true):
 (Builtin.copy_ #[dT,sT] ty #[.slice (some ⟨b,o,none⟩) dLen dCap,.slice (some a) sLen sCap]).run P w=.ok (goInt (Nat.min sLen dLen)) (w.setCells b o cs):=by
 have hl:=run_loadCells_list (P:=P) w a cs hsrc;have hst:=run_storeCells_cells (P:=P) b o cs 0 w (by simpa using hc) (by simpa using hf) h1
 cases hq:P.info? elem with
 |none=>simp[hq]at hs
 |some i=>
  have hi:i.size=k:=by simpa [hq]using hs
  simp[Builtin.copy_,run_underlying hu,Builtin.lenOf,Builtin.firstCells,sizeOf,typeInfo,hq,hi,←hn,hl,hst]
theorem addr_addQ (b o j:Nat):(⟨b,o,none⟩:Addr).add j=⟨b,o+j,none⟩:=by unfold Addr.add;split<;>simp_all
theorem copy_rows {α:Type}{vals:α→List Value}{k:Nat}(hk:0<k)(hv:∀x,(vals x).length=k)(h1:∀x,∀v∈vals x,v.oneCell'=true){w:World}{B g:Nat}{l L:List α}{a:Option Addr}{c:Nat}{t e:TypeId}(ty:TypeId)(ht:Tryz.prog.underlying t=some (.slice e))(hi:(Tryz.prog.info? e).map (·.size)=some k)
 (h:At w g (rowV [] vals l).toArray)(hL:FIn k vals B w a L)(hl:L.length≤l.length):
 (Builtin.copy_ #[t,t] ty #[.slice (some ⟨g,0,none⟩) l.length l.length,.slice a L.length c]).run Tryz.prog w=.ok (goInt L.length) (w.setCells g 0 (L.flatMap vals))∧At (w.setCells g 0 (L.flatMap vals)) g (rowV [] vals (L++l.drop L.length)).toArray:=by
 have e1:=flat_len hv L;have e2:=row_len (pre:=[]) hv l;have e3:=row_len (pre:=[]) hv (L++l.drop L.length);have hle:L.length*k≤l.length*k:=Nat.mul_le_mul_right k hl
 constructor
 ·cases a with
  |none=>
   have e0:L=[]:=by
    cases L with
    |nil=>rfl
    |cons x L=>obtain⟨b,off,q,_⟩:=hL 0 (by simp);cases q
   subst e0;exact run_copy_none w t t ty e k _ _ _ _ ht hi
  |some ad=>
   have hmin:Nat.min L.length l.length=L.length:=Nat.min_eq_left hl;have:=run_copy_q (P:=Tryz.prog) w t t ty e k g 0 l.length l.length ad L.length c (L.flatMap vals) ht hi (by rw[hmin];exact e1) (fun j v hj=>?_) (fun j hj=>?_) (fun j hj=>h.2.2 _) (fun v hv'=>?_)
   ·rw[hmin]at this;exact this
   ·have hjl:j<L.length*k:=by rw[←e1];exact(List.getElem?_eq_some_iff.1 hj).1
    have hd:j/k<L.length:=by rw[Nat.div_lt_iff_lt_mul hk];exact hjl
    have hm:=Nat.mod_lt j hk;obtain⟨b,off,q,_,_,hc⟩:=hL (j/k) hd
    cases q
    have ej:j=j/k*k+j%k:=by
     have:=Nat.div_add_mod j k;rw[Nat.mul_comm]at this;omega
    have r:=flat_at' hv L (j/k) hd (j%k) hm;rw[←ej,hj]at r;rw[addr_addQ,show off+j=off+j/k*k+j%k by omega,hc _ hm,←r]
   ·rw[h.2.1,List.getElem?_toArray,List.getElem?_eq_getElem (by omega)]
    rfl
   ·obtain⟨x,_,hx⟩:=List.mem_flatMap.1 hv';exact h1 x v hx
 ·refine h.setRange 0 (L.flatMap vals) ?_ (by omega) (fun j hj=>?_) (fun i hi=>?_)
  ·rw[e3,e2,List.length_append,List.length_drop,show L.length+(l.length - L.length)=l.length by omega]
  ·unfold rowV;rw[Nat.zero_add,List.nil_append,List.flatMap_append,List.getElem?_append_left hj]
  ·have hi':L.length*k≤i:=by omega
   unfold rowV;rw[List.nil_append,List.nil_append,List.flatMap_append,List.getElem?_append_right (by omega)];have es:l.flatMap vals=(l.take L.length).flatMap vals++(l.drop L.length).flatMap vals:=by rw[←List.flatMap_append,List.take_append_drop]
   have et:=flat_len hv (l.take L.length);rw[List.length_take,Nat.min_eq_left hl]at et;rw[es,List.getElem?_append_right (by omega),et,e1]
structure Mk {α:Type}(vals:α→List Value)(M:α)(w:World)(g n j:Nat)(l:List α)(wr:World):Prop where
 len:l.length=n
 at_:At wr g (rowV [] vals l).toArray
 set:∀i,i<j→l[i]?=some M
 gr:Gr w wr
theorem Mk.grow {α:Type}{vals:α→List Value}{M:α}{w:World}{g n j:Nat}{l:List α}{wr wq:World}(h:Mk vals M w g n j l wr)(q:Gr wr wq):Mk vals M w g n j l wq:=⟨h.len,h.at_.gr q,h.set,h.gr.trans q⟩
theorem Mk.there {α:Type}{vals:α→List Value}{M:α}{w:World}{g n j k:Nat}{l:List α}{wr:World}(hv:∀x,(vals x).length=k)(h:Mk vals M w g n j l wr)(hj:j<n):wr.there g (j*k) k:=by
 refine h.at_.there _ _ ?_;rw[row_len hv,h.len];have:(j+1)*k≤n*k:=Nat.mul_le_mul_right k hj;rw[Nat.add_mul]at this;simp;omega
theorem Mk.next {α:Type}{vals:α→List Value}{M:α}{w:World}{g n j k:Nat}{l:List α}{wr:World}(hv:∀x,(vals x).length=k)(h:Mk vals M w g n j l wr)(hj:j<n)(hg:w.heap.size≤g):Mk vals M w g n (j+1) (l.set j M) (wr.setCells g (j*k) (vals M)):=by
 refine⟨by rw[List.length_set];exact h.len,h.at_.setElem hv j (by rw[h.len];exact hj) M (j*k) (by simp),fun i hi=>?_,h.gr.setCells g hg _ _⟩;by_cases e:i=j
 ·subst e;simp[h.len,hj]
 ·rw[List.getElem?_set_ne (fun r=>e r.symm)];exact h.set i (by omega)
theorem Mk.all {α:Type}{vals:α→List Value}{M:α}{w:World}{g n:Nat}{l:List α}{wr:World}(h:Mk vals M w g n n l wr):l=List.replicate n M:=by
 apply List.ext_getElem?;intro i;by_cases hi:i<n
 ·rw[h.set i hi];simp[hi]
 ·rw[List.getElem?_eq_none (by rw[h.len];omega),List.getElem?_eq_none (by simp;omega)]
def marked {α:Type}(M:α)(L:List α):List α:=L++List.replicate 8 M
theorem marked_drop {α:Type}(M:α)(L:List α):L++(List.replicate (L.length+8) M).drop L.length=marked M L:=by
 unfold marked;rw[List.drop_replicate,show L.length+8 - L.length=8 by omega]
theorem lin_fin {B:Nat}{w:World}{a:Option Addr}{L:List Ins}(h:LIn B w a L):FIn 5 Ins.vals B w a L:=fun i hi=>by
 obtain⟨b,off,e,h1,h2,h3⟩:=h i hi;refine⟨b,off,e,h1,h2,fun j hj=>?_⟩;obtain⟨c0,c1,c2,c3,c4⟩:=h3
 match j,hj with
 |0,_=>exact c0
 |1,_=>exact c1
 |2,_=>exact c2
 |3,_=>exact c3
 |4,_=>exact c4
 |n+5,h=>omega
def instM:Ins:={op:=222,a:= -7,b:=0,c:=0,m:=0}
def typeM:PTyp:={cap:=true,b:=77,e:=0,lo:=0,hi:=0,p:=0,s:=222}
def rootM:PRoot:={r:= -7,b:=0,e:=0,c:=0,p:=0,s:=0}
def slotM:PSlot:={t:=typeM,c:=0}
def instZ:Ins:={op:=0,a:=0,b:=0,c:=0,m:=0}
def typeZ:PTyp:={cap:=false,b:=0,e:=0,lo:=0,hi:=0,p:=0,s:=0}
def rootZ:PRoot:={r:=0,b:=0,e:=0,c:=0,p:=0,s:=0}
def slotZ:PSlot:={t:=typeZ,c:=0}
theorem ins_len (x:Ins):x.vals.length=5:=rfl
theorem typ_len (x:PTyp):x.vals.length=7:=rfl
theorem rot_len (x:PRoot):x.vals.length=6:=rfl
theorem slt_len (x:PSlot):x.vals.length=8:=rfl
theorem ins_one (x:Ins):∀v∈x.vals,v.oneCell'=true:=by
 intro v h;simp only[Ins.vals,List.mem_cons,List.not_mem_nil,or_false]at h;rcases h with rfl|rfl|rfl|rfl|rfl<;>rfl
theorem typ_one (x:PTyp):∀v∈x.vals,v.oneCell'=true:=by
 intro v h;simp only[PTyp.vals,List.mem_cons,List.not_mem_nil,or_false]at h;rcases h with rfl|rfl|rfl|rfl|rfl|rfl|rfl<;>rfl
theorem rot_one (x:PRoot):∀v∈x.vals,v.oneCell'=true:=by
 intro v h;simp only[PRoot.vals,List.mem_cons,List.not_mem_nil,or_false]at h;rcases h with rfl|rfl|rfl|rfl|rfl|rfl<;>rfl
theorem slt_one (x:PSlot):∀v∈x.vals,v.oneCell'=true:=by
 intro v h;simp only[PSlot.vals,PTyp.vals,List.cons_append,List.nil_append,List.mem_cons,List.not_mem_nil,or_false]at h;rcases h with rfl|rfl|rfl|rfl|rfl|rfl|rfl|rfl<;>rfl
theorem instMark_any (w:World):Calls Tryz.prog 53 #[] w fun x w'=>x=.returned (.agg #[.int .u8 222,.int .i64 (-7),.int .i64 0,.int .i64 0,.int .i64 0])∧Gr w w':=by
 have hg:Hid (∀(o:Nat→Value) (n:Nat),True):=Hid.mk (fun _ _=>True.intro);go_enter Tryz.func53,Tryz.ntmps53;go_wp2_with fail;simp[bodyPost,results,Tryz.results53,go_sem];exact((Gr.refl w).alloc _)
theorem typeMark_any (w:World):Calls Tryz.prog 52 #[] w fun x w'=>x=.returned (.agg #[.bool true,.int .u64 77,.int .u64 0,.int .u64 0,.int .u64 0,.int .u8 0,.int .i64 222])∧Gr w w':=by
 have hg:Hid (∀(o:Nat→Value) (n:Nat),True):=Hid.mk (fun _ _=>True.intro);go_enter Tryz.func52,Tryz.ntmps52;go_wp2_with fail;simp[bodyPost,results,Tryz.results52,go_sem];exact((Gr.refl w).alloc _)
theorem insts_any (L:List Ins)(a:Option Addr)(c B:Nat)(w:World)(hL:LIn B w a L)(hb:40*(L.length+8)≤281474976710656)(hB:B≤w.heap.size):Calls Tryz.prog 28 #[.slice a L.length c] w fun x w'=>x=.returned (.slice (some ⟨w.heap.size,0,none⟩) L.length (L.length+8))∧At w' w.heap.size (rowV [] Ins.vals (marked instM L)).toArray∧Gr w w':=by
 have hm:=make_k (vals:=Ins.vals) (Z:=instZ) (t:=24) (e:=29) (k:=5) (b:=40) (by omega) ins_len Tryz.underlying24 (by kernel_rfl) (L.length+8) (by omega) hb w;rw[show ((L.length+8:Nat):Int)=(L.length:Int)+8 by omega]at hm;have hI0:=Hid.mk (show Mk Ins.vals instM w w.heap.size (L.length+8) 0 (List.replicate (L.length+8) instZ) (w.alloc (.cells (rowV [] Ins.vals (List.replicate (L.length+8) instZ)).toArray 29))from⟨by simp,At.new _ _ _,fun i hi=>by omega,(Gr.refl w).alloc _⟩);have hC:=Hid.mk (fun(l:List Ins) (wr:World) (h:Mk Ins.vals instM w w.heap.size (L.length+8) (L.length+8) l wr)=>show((Builtin.copy_ #[24,24] 3 #[.slice (some ⟨w.heap.size,0,none⟩) (L.length+8) (L.length+8),.slice a L.length c]).run Tryz.prog wr=.ok (goInt L.length) (wr.setCells w.heap.size 0 (L.flatMap Ins.vals)))∧At (wr.setCells w.heap.size 0 (L.flatMap Ins.vals)) w.heap.size (rowV [] Ins.vals (marked instM L)).toArray∧Gr w (wr.setCells w.heap.size 0 (L.flatMap Ins.vals))by
  have q:=copy_rows (B:=B) (c:=c) (k:=5) (by omega) ins_len ins_one 3 Tryz.underlying24 (by kernel_rfl) h.at_ (lin_fin (hL.below ⟨h.gr.below.os,h.gr.below.tape,h.gr.below.output,h.gr.below.size,fun k hk=>h.gr.below.block k (by omega)⟩)) (by rw[h.len];omega);rw[h.len]at q;refine⟨q.1,?_,h.gr.setCells _ (Nat.le_refl _) _ _⟩;have q2:=q.2;rw[h.all,marked_drop]at q2;exact q2)
 have hM:=Hid.mk (fun W=>instMark_any W)
 skip
 have hle:L.length≤281474976710648:=by omega
 have hw8:wrap64 ((L.length:Int)+8)=(L.length:Int)+8:=by unfold wrap64;omega
 clear hL hb hB ;generalize List.replicate (L.length+8) instZ=l0 at*;generalize hA0:Obj.cells (rowV [] Ins.vals l0).toArray 29=ob at*;clear hA0;go_enter Tryz.func28,Tryz.ntmps28;go_upto_region 3 with fail
 clear hm;generalize w.alloc ob=W0 at*;go_loopw [4] (fun x wr=>∃(j:Nat) (l:List Ins),x=.int .i64 j∧j≤L.length+8∧Hid (Mk Ins.vals instM w w.heap.size (L.length+8) j l wr)) (fun x _=>L.length+8 - (intOf x).toNat)
 case atStart=>exact⟨0,l0,rfl,by omega,hI0⟩
 case round=>
  clear hI0;obtain⟨j,l,rfl,hj,hI⟩:=hrel;by_cases hlt:j<L.length+8
  ·have hi1:(j:Int)<(L.length:Int)+8:=by omega
   go_upto_region 5 with fail;refine wp_region_lit ?_;iterate 2 (refine xp fun K hK=>?_;go_simp;with_reducible refine hK _ _ ?_;clear hK K;(try simp only[xap]))
   refine xp fun K hK=>?_
   go_simp
   (go_at_call 53;refine(hM.out _).mono ?_;rintro x wq ⟨rfl,q9⟩;replace q9:=Hid.mk q9)
   with_reducible refine hK _ _ ?_
   clear hK K;try simp only[xap]
   refine xp fun K hK=>?_
   go_simp;with_reducible refine hK _ _ ?_
   clear hK K;try simp only[xap]
   have hS:=Hid.mk (hI.out.grow q9.out);have hN:=Hid.mk (hS.out.next ins_len hlt (Nat.le_refl _));have hT:=Hid.mk (hS.out.there ins_len hlt);refine xp fun K hK=>?_
   refine wp_store_mid _ _ _ rfl _ _ (List.toArray (Ins.vals instM)) rfl rfl hT.out (by kernel_rfl) (all_oneCell_toArray (ins_one _)) (hK _ _ ?_);clear hK K hS hT hI;try simp only[Act.put]
   generalize World.setCells _ _ _ _=W5 at*;go_wp2_with fail;exact⟨⟨j+1,_,by go_num,by omega,hN⟩,by simp[intOf];omega⟩
  ·have hi1:¬(j:Int)<(L.length:Int)+8:=by omega
   have ej:j=L.length+8:=by omega
   subst ej;obtain⟨d1,d2,d3⟩:=hC.out l wr hI.out;have hi2:(L.length:Int)≤(L.length:Int)+8:=by omega
   replace d2:=Hid.mk d2;replace d3:=Hid.mk d3;generalize World.setCells _ _ _ _=W5 at*;go_wp2_with fail;go_ret;exact⟨rfl,d2.out,d3.out⟩
theorem typed_any (L:List PTyp)(a:Option Addr)(c B:Nat)(w:World)(hL:FIn 7 PTyp.vals B w a L)(hb:56*(L.length+8)≤281474976710656)(hB:B≤w.heap.size):Calls Tryz.prog 29 #[.slice a L.length c] w fun x w'=>x=.returned (.slice (some ⟨w.heap.size,0,none⟩) L.length (L.length+8))∧At w' w.heap.size (rowV [] PTyp.vals (marked typeM L)).toArray∧Gr w w':=by
 have hm:=make_k (vals:=PTyp.vals) (Z:=typeZ) (t:=34) (e:=132) (k:=7) (b:=56) (by omega) typ_len Tryz.underlying34 (by kernel_rfl) (L.length+8) (by omega) hb w;rw[show ((L.length+8:Nat):Int)=(L.length:Int)+8 by omega]at hm;have hI0:=Hid.mk (show Mk PTyp.vals typeM w w.heap.size (L.length+8) 0 (List.replicate (L.length+8) typeZ) (w.alloc (.cells (rowV [] PTyp.vals (List.replicate (L.length+8) typeZ)).toArray 132))from⟨by simp,At.new _ _ _,fun i hi=>by omega,(Gr.refl w).alloc _⟩);have hC:=Hid.mk (fun(l:List PTyp) (wr:World) (h:Mk PTyp.vals typeM w w.heap.size (L.length+8) (L.length+8) l wr)=>show((Builtin.copy_ #[34,34] 3 #[.slice (some ⟨w.heap.size,0,none⟩) (L.length+8) (L.length+8),.slice a L.length c]).run Tryz.prog wr=.ok (goInt L.length) (wr.setCells w.heap.size 0 (L.flatMap PTyp.vals)))∧At (wr.setCells w.heap.size 0 (L.flatMap PTyp.vals)) w.heap.size (rowV [] PTyp.vals (marked typeM L)).toArray∧Gr w (wr.setCells w.heap.size 0 (L.flatMap PTyp.vals))by
  have q:=copy_rows (B:=B) (c:=c) (k:=7) (by omega) typ_len typ_one 3 Tryz.underlying34 (by kernel_rfl) h.at_ (id (hL.below ⟨h.gr.below.os,h.gr.below.tape,h.gr.below.output,h.gr.below.size,fun k hk=>h.gr.below.block k (by omega)⟩)) (by rw[h.len];omega);rw[h.len]at q;refine⟨q.1,?_,h.gr.setCells _ (Nat.le_refl _) _ _⟩;have q2:=q.2;rw[h.all,marked_drop]at q2;exact q2)
 have hM:=Hid.mk (fun W=>typeMark_any W)
 skip
 have hle:L.length≤281474976710648:=by omega
 have hw8:wrap64 ((L.length:Int)+8)=(L.length:Int)+8:=by unfold wrap64;omega
 clear hL hb hB ;generalize List.replicate (L.length+8) typeZ=l0 at*;generalize hA0:Obj.cells (rowV [] PTyp.vals l0).toArray 132=ob at*;clear hA0;go_enter Tryz.func29,Tryz.ntmps29;go_upto_region 3 with fail
 clear hm;generalize w.alloc ob=W0 at*;go_loopw [4] (fun x wr=>∃(j:Nat) (l:List PTyp),x=.int .i64 j∧j≤L.length+8∧Hid (Mk PTyp.vals typeM w w.heap.size (L.length+8) j l wr)) (fun x _=>L.length+8 - (intOf x).toNat)
 case atStart=>exact⟨0,l0,rfl,by omega,hI0⟩
 case round=>
  clear hI0;obtain⟨j,l,rfl,hj,hI⟩:=hrel;by_cases hlt:j<L.length+8
  ·have hi1:(j:Int)<(L.length:Int)+8:=by omega
   go_upto_region 5 with fail;refine wp_region_lit ?_;iterate 2 (refine xp fun K hK=>?_;go_simp;with_reducible refine hK _ _ ?_;clear hK K;(try simp only[xap]))
   refine xp fun K hK=>?_
   go_simp
   (go_at_call 52;refine(hM.out _).mono ?_;rintro x wq ⟨rfl,q9⟩;replace q9:=Hid.mk q9)
   with_reducible refine hK _ _ ?_
   clear hK K;try simp only[xap]
   refine xp fun K hK=>?_
   go_simp;with_reducible refine hK _ _ ?_
   clear hK K;try simp only[xap]
   have hS:=Hid.mk (hI.out.grow q9.out);have hN:=Hid.mk (hS.out.next typ_len hlt (Nat.le_refl _));have hT:=Hid.mk (hS.out.there typ_len hlt);refine xp fun K hK=>?_
   refine wp_store_mid _ _ _ rfl _ _ (List.toArray (PTyp.vals typeM)) rfl rfl hT.out (by kernel_rfl) (all_oneCell_toArray (typ_one _)) (hK _ _ ?_);clear hK K hS hT hI;try simp only[Act.put]
   generalize World.setCells _ _ _ _=W5 at*;go_wp2_with fail;exact⟨⟨j+1,_,by go_num,by omega,hN⟩,by simp[intOf];omega⟩
  ·have hi1:¬(j:Int)<(L.length:Int)+8:=by omega
   have ej:j=L.length+8:=by omega
   subst ej;obtain⟨d1,d2,d3⟩:=hC.out l wr hI.out;have hi2:(L.length:Int)≤(L.length:Int)+8:=by omega
   replace d2:=Hid.mk d2;replace d3:=Hid.mk d3;generalize World.setCells _ _ _ _=W5 at*;go_wp2_with fail;go_ret;exact⟨rfl,d2.out,d3.out⟩
theorem roots_any (L:List PRoot)(a:Option Addr)(c B:Nat)(w:World)(hL:FIn 6 PRoot.vals B w a L)(hb:48*(L.length+8)≤281474976710656)(hB:B≤w.heap.size):Calls Tryz.prog 27 #[.slice a L.length c] w fun x w'=>x=.returned (.slice (some ⟨w.heap.size,0,none⟩) L.length (L.length+8))∧At w' w.heap.size (rowV [] PRoot.vals (marked rootM L)).toArray∧Gr w w':=by
 have hm:=make_k (vals:=PRoot.vals) (Z:=rootZ) (t:=30) (e:=98) (k:=6) (b:=48) (by omega) rot_len Tryz.underlying30 (by kernel_rfl) (L.length+8) (by omega) hb w;rw[show ((L.length+8:Nat):Int)=(L.length:Int)+8 by omega]at hm;have hI0:=Hid.mk (show Mk PRoot.vals rootM w w.heap.size (L.length+8) 0 (List.replicate (L.length+8) rootZ) (w.alloc (.cells (rowV [] PRoot.vals (List.replicate (L.length+8) rootZ)).toArray 98))from⟨by simp,At.new _ _ _,fun i hi=>by omega,(Gr.refl w).alloc _⟩);have hC:=Hid.mk (fun(l:List PRoot) (wr:World) (h:Mk PRoot.vals rootM w w.heap.size (L.length+8) (L.length+8) l wr)=>show((Builtin.copy_ #[30,30] 3 #[.slice (some ⟨w.heap.size,0,none⟩) (L.length+8) (L.length+8),.slice a L.length c]).run Tryz.prog wr=.ok (goInt L.length) (wr.setCells w.heap.size 0 (L.flatMap PRoot.vals)))∧At (wr.setCells w.heap.size 0 (L.flatMap PRoot.vals)) w.heap.size (rowV [] PRoot.vals (marked rootM L)).toArray∧Gr w (wr.setCells w.heap.size 0 (L.flatMap PRoot.vals))by
  have q:=copy_rows (B:=B) (c:=c) (k:=6) (by omega) rot_len rot_one 3 Tryz.underlying30 (by kernel_rfl) h.at_ (id (hL.below ⟨h.gr.below.os,h.gr.below.tape,h.gr.below.output,h.gr.below.size,fun k hk=>h.gr.below.block k (by omega)⟩)) (by rw[h.len];omega);rw[h.len]at q;refine⟨q.1,?_,h.gr.setCells _ (Nat.le_refl _) _ _⟩;have q2:=q.2;rw[h.all,marked_drop]at q2;exact q2)
 have hM:=Hid.mk (fun W=>Gr.refl W)
 skip
 have hle:L.length≤281474976710648:=by omega
 have hw8:wrap64 ((L.length:Int)+8)=(L.length:Int)+8:=by unfold wrap64;omega
 clear hL hb hB ;generalize List.replicate (L.length+8) rootZ=l0 at*;generalize hA0:Obj.cells (rowV [] PRoot.vals l0).toArray 98=ob at*;clear hA0;go_enter Tryz.func27,Tryz.ntmps27;go_upto_region 3 with fail
 clear hm;generalize w.alloc ob=W0 at*;go_loopw [4] (fun x wr=>∃(j:Nat) (l:List PRoot),x=.int .i64 j∧j≤L.length+8∧Hid (Mk PRoot.vals rootM w w.heap.size (L.length+8) j l wr)) (fun x _=>L.length+8 - (intOf x).toNat)
 case atStart=>exact⟨0,l0,rfl,by omega,hI0⟩
 case round=>
  clear hI0;obtain⟨j,l,rfl,hj,hI⟩:=hrel;by_cases hlt:j<L.length+8
  ·have hi1:(j:Int)<(L.length:Int)+8:=by omega
   go_upto_region 5 with fail;refine wp_region_lit ?_;iterate 4 (refine xp fun K hK=>?_;go_simp;with_reducible refine hK _ _ ?_;clear hK K;(try simp only[xap]))
   have hS:=Hid.mk (hI.out);have hN:=Hid.mk (hS.out.next rot_len hlt (Nat.le_refl _));have hT:=Hid.mk (hS.out.there rot_len hlt);refine xp fun K hK=>?_
   refine wp_store_mid _ _ _ rfl _ _ (List.toArray (PRoot.vals rootM)) rfl rfl hT.out (by kernel_rfl) (all_oneCell_toArray (rot_one _)) (hK _ _ ?_);clear hK K hS hT hI;try simp only[Act.put]
   generalize World.setCells _ _ _ _=W5 at*;go_wp2_with fail;exact⟨⟨j+1,_,by go_num,by omega,hN⟩,by simp[intOf];omega⟩
  ·have hi1:¬(j:Int)<(L.length:Int)+8:=by omega
   have ej:j=L.length+8:=by omega
   subst ej;obtain⟨d1,d2,d3⟩:=hC.out l wr hI.out;have hi2:(L.length:Int)≤(L.length:Int)+8:=by omega
   replace d2:=Hid.mk d2;replace d3:=Hid.mk d3;generalize World.setCells _ _ _ _=W5 at*;go_wp2_with fail;go_ret;exact⟨rfl,d2.out,d3.out⟩
theorem slots_any (L:List PSlot)(a:Option Addr)(c B:Nat)(w:World)(hL:FIn 8 PSlot.vals B w a L)(hb:64*(L.length+8)≤281474976710656)(hB:B≤w.heap.size)(hl0:L≠[]):Calls Tryz.prog 26 #[.slice a L.length c] w fun x w'=>x=.returned (.slice (some ⟨w.heap.size,0,none⟩) L.length (L.length+8))∧At w' w.heap.size (rowV [] PSlot.vals (marked slotM L)).toArray∧Gr w w':=by
 have hm:=make_k (vals:=PSlot.vals) (Z:=slotZ) (t:=93) (e:=135) (k:=8) (b:=64) (by omega) slt_len Tryz.underlying93 (by kernel_rfl) (L.length+8) (by omega) hb w;rw[show ((L.length+8:Nat):Int)=(L.length:Int)+8 by omega]at hm;have hI0:=Hid.mk (show Mk PSlot.vals slotM w w.heap.size (L.length+8) 0 (List.replicate (L.length+8) slotZ) (w.alloc (.cells (rowV [] PSlot.vals (List.replicate (L.length+8) slotZ)).toArray 135))from⟨by simp,At.new _ _ _,fun i hi=>by omega,(Gr.refl w).alloc _⟩);have hC:=Hid.mk (fun(l:List PSlot) (wr:World) (h:Mk PSlot.vals slotM w w.heap.size (L.length+8) (L.length+8) l wr)=>show((Builtin.copy_ #[93,93] 3 #[.slice (some ⟨w.heap.size,0,none⟩) (L.length+8) (L.length+8),.slice a L.length c]).run Tryz.prog wr=.ok (goInt L.length) (wr.setCells w.heap.size 0 (L.flatMap PSlot.vals)))∧At (wr.setCells w.heap.size 0 (L.flatMap PSlot.vals)) w.heap.size (rowV [] PSlot.vals (marked slotM L)).toArray∧Gr w (wr.setCells w.heap.size 0 (L.flatMap PSlot.vals))by
  have q:=copy_rows (B:=B) (c:=c) (k:=8) (by omega) slt_len slt_one 3 Tryz.underlying93 (by kernel_rfl) h.at_ (id (hL.below ⟨h.gr.below.os,h.gr.below.tape,h.gr.below.output,h.gr.below.size,fun k hk=>h.gr.below.block k (by omega)⟩)) (by rw[h.len];omega);rw[h.len]at q;refine⟨q.1,?_,h.gr.setCells _ (Nat.le_refl _) _ _⟩;have q2:=q.2;rw[h.all,marked_drop]at q2;exact q2)
 have hM:=Hid.mk (fun W=>typeMark_any W);have hl9:L.length≠0:=fun h=>hl0 (List.length_eq_zero_iff.1 h)
 have hl8:((L.length:Int)==0)=false:=by rw[beq_eq_false_iff_ne];omega
 have hl7:¬(L.length:Int)=0:=by omega
 have hl6:L≠[]:=hl0;have hle:L.length≤281474976710648:=by omega
 have hw8:wrap64 ((L.length:Int)+8)=(L.length:Int)+8:=by unfold wrap64;omega
 clear hL hb hB hl0;generalize List.replicate (L.length+8) slotZ=l0 at*;generalize hA0:Obj.cells (rowV [] PSlot.vals l0).toArray 135=ob at*;clear hA0;go_enter Tryz.func26,Tryz.ntmps26;go_upto_region 5 with fail
 clear hm;generalize w.alloc ob=W0 at*;go_loopw [4] (fun x wr=>∃(j:Nat) (l:List PSlot),x=.int .i64 j∧j≤L.length+8∧Hid (Mk PSlot.vals slotM w w.heap.size (L.length+8) j l wr)) (fun x _=>L.length+8 - (intOf x).toNat)
 case atStart=>exact⟨0,l0,rfl,by omega,hI0⟩
 case round=>
  clear hI0;obtain⟨j,l,rfl,hj,hI⟩:=hrel;by_cases hlt:j<L.length+8
  ·have hi1:(j:Int)<(L.length:Int)+8:=by omega
   go_upto_region 7 with fail;refine wp_region_lit ?_;iterate 2 (refine xp fun K hK=>?_;go_simp;with_reducible refine hK _ _ ?_;clear hK K;(try simp only[xap]))
   refine xp fun K hK=>?_
   go_simp
   (go_at_call 52;refine(hM.out _).mono ?_;rintro x wq ⟨rfl,q9⟩;replace q9:=Hid.mk q9)
   with_reducible refine hK _ _ ?_
   clear hK K;try simp only[xap]
   iterate 2 (refine xp fun K hK=>?_;go_simp;with_reducible refine hK _ _ ?_;clear hK K;(try simp only[xap]))
   have hS:=Hid.mk (hI.out.grow q9.out);have hN:=Hid.mk (hS.out.next slt_len hlt (Nat.le_refl _));have hT:=Hid.mk (hS.out.there slt_len hlt);refine xp fun K hK=>?_
   refine wp_store_mid _ _ _ rfl _ _ (List.toArray (PSlot.vals slotM)) rfl rfl hT.out (by kernel_rfl) (all_oneCell_toArray (slt_one _)) (hK _ _ ?_);clear hK K hS hT hI;try simp only[Act.put]
   generalize World.setCells _ _ _ _=W5 at*;go_wp2_with fail;exact⟨⟨j+1,_,by go_num,by omega,hN⟩,by simp[intOf];omega⟩
  ·have hi1:¬(j:Int)<(L.length:Int)+8:=by omega
   have ej:j=L.length+8:=by omega
   subst ej;obtain⟨d1,d2,d3⟩:=hC.out l wr hI.out;have hi2:(L.length:Int)≤(L.length:Int)+8:=by omega
   replace d2:=Hid.mk d2;replace d3:=Hid.mk d3;generalize World.setCells _ _ _ _=W5 at*;go_wp2_with fail;go_ret;exact⟨rfl,d2.out,d3.out⟩
end Q
end Go.Proofs.YthlpjlnehonpdaaGreatDoor
