import Derived.Test.YtkhbiaaangnkdaaGreatDoorJMRdD
import Derived.Test.YtkhbiaaangnkdaaGreatDoorJMClone
import Derived.Test.YtkhbiaaangnkdaaGreatDoorJ26
namespace Go.Proofs.YtkhbiaaangnkdaaGreatDoor
open Go.RowKit
def All2 {α β:Type}(E:α→β→Prop):List α→List β→Prop
 |[],[]=>True
 |a::l,b::m=>E a b∧All2 E l m
 |[],_::_=>False
 |_::_,[]=>False
theorem All2.imp {α β:Type}{E F:α→β→Prop}(h:∀a b,E a b→F a b):∀{l:List α} {m:List β},All2 E l m→All2 F l m
 |[],[],_=>trivial
 |_::_,_::_,⟨h1,h2⟩=>⟨h _ _ h1,All2.imp h h2⟩
theorem All2.snoc {α β:Type}{E:α→β→Prop}{a:α}{b:β}(h:E a b):∀{l:List α} {m:List β},All2 E l m→All2 E (l++[a]) (m++[b])
 |[],[],_=>⟨h,trivial⟩
 |_::_,_::_,⟨h1,h2⟩=>⟨h1,All2.snoc h h2⟩
theorem All2.len {α β:Type}{E:α→β→Prop}:∀{l:List α} {m:List β},All2 E l m→l.length=m.length
 |[],[],_=>rfl
 |_::_,_::_,⟨_,h2⟩=>by simp[All2.len h2]
theorem All2.get {α β:Type}{E:α→β→Prop}:∀{l:List α} {m:List β},All2 E l m→∀i (h:i<m.length),∃a,l[i]?=some a∧E a m[i]
 |[],[],_,i,h=>by simp at h
 |a::_,_::_,⟨h1,_⟩,0,_=>⟨a,rfl,h1⟩
 |_::_,_::_,⟨_,h2⟩,i+1,h=>by
  obtain⟨a,e,q⟩:=All2.get h2 i (by simpa using h);exact⟨a,by simpa using e,by simpa using q⟩
def TyNe (w:World)(row:Option Nat)(e:TypeId):Prop:=∀g,row=some g→∃cs t fr,w.heap[g]?=some (.cells cs t fr)∧t≠e
theorem own_ty {w w':World}{base e size n:Nat}{v:Value}{xs:List Value}{row:Option Nat}(h:w.ownsRow base e size v n xs)(hg:w.grownBy w' row)(ht:TyNe w row e):w'.ownsRow base e size v n xs:=by
 refine own_grown h hg ?_;intro g hv hr;obtain⟨cs,t,fr,hb,hne⟩:=ht g hr;rcases h.2 with⟨rfl,_⟩|⟨g',cap,cur,rfl,hbg,hh,_⟩
 ·cases hv
 ·obtain rfl:g'=g:=by simpa [Value.ownBlock]using hv
  rw[hb]at hh;simp at hh;exact hne hh.2.1
theorem tyNe_box {w:World}{k:Nat}{cs:Array Value}{t e:TypeId}(h:Box w k cs t)(hne:t≠e):TyNe w (some k) e:=fun g hg=>by
 cases hg;exact⟨cs,t,_,h,hne⟩
theorem tyNe_own {w:World}{base e size n:Nat}{v:Value}{xs:List Value}{t:TypeId}(h:w.ownsRow base e size v n xs)(hne:e≠t):TyNe w v.ownBlock t:=fun g hg=>by
 rcases h.2 with⟨rfl,_⟩|⟨g',cap,cur,rfl,hbg,hh,_⟩
 ·cases hg
 ·obtain rfl:g'=g:=by simpa [Value.ownBlock]using hg
  exact⟨_,_,_,hh,hne⟩
theorem tyNe_none (w:World)(e:TypeId):TyNe w none e:=fun g hg=>by cases hg
def RegC (lo:Nat)(w:World)(cs:List Value)(r:PReg):Prop:=∃sa sc,cs=[.int .u64 r.b,.int .u64 r.n,.string (str r.data),.slice sa r.slots.length sc]∧w.ownsRow lo 132 8 (.slice sa r.slots.length sc) r.slots.length (r.slots.flatMap PSlot.vals)
def CompC (lo:Nat)(w:World)(cs:List Value)(c:PComp):Prop:=∃ra rc ka kc,cs=[.slice ra c.roots.length rc,.slice ka c.code.length kc]∧w.ownsRow lo 157 6 (.slice ra c.roots.length rc) c.roots.length (c.roots.flatMap PRoot.vals)∧LOwn w lo (.slice ka c.code.length kc) c.code
def GateC (lo:Nat)(w:World)(cs:List Value)(g:PGate):Prop:=∃xa xc ya yc,cs=[.int .i64 g.c,.int .i64 g.e,.slice xa g.args.length xc,.slice ya g.res.length yc]∧w.ownsRow lo 130 7 (.slice xa g.args.length xc) g.args.length (g.args.flatMap PTyp.vals)∧w.ownsRow lo 130 7 (.slice ya g.res.length yc) g.res.length (g.res.flatMap PTyp.vals)
def TyNes (w:World)(row:Option Nat):Prop:=TyNe w row 132∧TyNe w row 157∧TyNe w row 29∧TyNe w row 130
theorem RegC.step {lo:Nat}{w w':World}{row:Option Nat}{cs:List Value}{r:PReg}(hg:w.grownBy w' row)(ht:TyNes w row)(h:RegC lo w cs r):RegC lo w' cs r:=by
 obtain⟨sa,sc,e,h1⟩:=h;exact⟨sa,sc,e,own_ty h1 hg ht.1⟩
theorem CompC.step {lo:Nat}{w w':World}{row:Option Nat}{cs:List Value}{r:PComp}(hg:w.grownBy w' row)(ht:TyNes w row)(h:CompC lo w cs r):CompC lo w' cs r:=by
 obtain⟨ra,rc,ka,kc,e,h1,h2⟩:=h;exact⟨ra,rc,ka,kc,e,own_ty h1 hg ht.2.1,own_ty h2 hg ht.2.2.1⟩
theorem GateC.step {lo:Nat}{w w':World}{row:Option Nat}{cs:List Value}{r:PGate}(hg:w.grownBy w' row)(ht:TyNes w row)(h:GateC lo w cs r):GateC lo w' cs r:=by
 obtain⟨xa,xc,ya,yc,e,h1,h2⟩:=h;exact⟨xa,xc,ya,yc,e,own_ty h1 hg ht.2.2.2,own_ty h2 hg ht.2.2.2⟩
theorem nes_box {w:World}{k:Nat}{cs:Array Value}{t:TypeId}(h:Box w k cs t)(h1:t≠132)(h2:t≠157)(h3:t≠29)(h4:t≠130):TyNes w (some k):=⟨tyNe_box h h1,tyNe_box h h2,tyNe_box h h3,tyNe_box h h4⟩
theorem nes_own {w:World}{base e size n:Nat}{v:Value}{xs:List Value}(h:w.ownsRow base e size v n xs)(h1:e≠132)(h2:e≠157)(h3:e≠29)(h4:e≠130):TyNes w v.ownBlock:=⟨tyNe_own h h1,tyNe_own h h2,tyNe_own h h3,tyNe_own h h4⟩
theorem nes_none (w:World):TyNes w none:=⟨tyNe_none w _,tyNe_none w _,tyNe_none w _,tyNe_none w _⟩
theorem infoRegion:(Tryz.prog.info? 126).map (fun i=>(i.zero,i.size,i.bytes))=some (some (.agg #[.int .u64 0,.int .u64 0,.string ⟨#[]⟩,.slice none 0 0]),4,56):=by kernel_rfl
theorem flat_snoc2 (css:List (List Value))(cs:List Value):(css++[cs]).flatten=css.flatten++cs:=by simp
structure ImgOwn (lo:Nat)(w:World)(rv cv gv:Value)(m:PImg):Prop where
 regs:∃css,w.ownsRow lo 126 4 rv m.regs.length css.flatten∧All2 (RegC lo w) css m.regs
 comps:∃css,w.ownsRow lo 32 2 cv m.comps.length css.flatten∧All2 (CompC lo w) css m.comps
 gates:∃css,w.ownsRow lo 36 4 gv m.gates.length css.flatten∧All2 (GateC lo w) css m.gates
structure Ne7 (w:World)(row:Option Nat):Prop where
 inner:TyNes w row
 regs:TyNe w row 126
 comps:TyNe w row 32
 gates:TyNe w row 36
def Odd7 (t:TypeId):Prop:=t≠132∧t≠157∧t≠29∧t≠130∧t≠126∧t≠32∧t≠36
instance (t:TypeId):Decidable (Odd7 t):=by unfold Odd7;infer_instance
theorem ne7_box {w:World}{k:Nat}{cs:Array Value}{t:TypeId}(h:Box w k cs t)(ht:Odd7 t):Ne7 w (some k):=
 ⟨nes_box h ht.1 ht.2.1 ht.2.2.1 ht.2.2.2.1,tyNe_box h ht.2.2.2.2.1,tyNe_box h ht.2.2.2.2.2.1,tyNe_box h ht.2.2.2.2.2.2⟩
theorem ImgOwn.step {lo:Nat}{w w':World}{rv cv gv:Value}{m:PImg}{row:Option Nat}(h:ImgOwn lo w rv cv gv m)(hg:w.grownBy w' row)(ht:Ne7 w row):ImgOwn lo w' rv cv gv m:=by
 obtain⟨⟨a,a1,a2⟩,⟨b,b1,b2⟩,⟨c,c1,c2⟩⟩:=h;exact⟨⟨a,own_ty a1 hg ht.regs,a2.imp fun _ _ q=>q.step hg ht.inner⟩,⟨b,own_ty b1 hg ht.comps,b2.imp fun _ _ q=>q.step hg ht.inner⟩,⟨c,own_ty c1 hg ht.gates,c2.imp fun _ _ q=>q.step hg ht.inner⟩⟩
theorem ImgOwn.row {lo:Nat}{rv cv gv:Value}{m:PImg}{k:Nat}{t:TypeId}(ht:Odd7 t):∀(vs:List Value) {w:World} {j:Nat} {cs:Array Value},ImgOwn lo w rv cv gv m→Box w k cs t→ImgOwn lo (setRow w k j vs) rv cv gv m
 |[],_,_,_,h,_=>h
 |u::vs,w,j,_,h,hb=>ImgOwn.row ht vs (h.step (grown_set w k j u) (ne7_box hb ht)) (hb.set j u)
theorem RegC.base {lo lo':Nat}{w:World}{cs:List Value}{r:PReg}(h:RegC lo w cs r)(hl:lo'≤lo):RegC lo' w cs r:=by
 obtain⟨sa,sc,e,h1⟩:=h;exact⟨sa,sc,e,own_base h1 hl⟩
theorem CompC.base {lo lo':Nat}{w:World}{cs:List Value}{r:PComp}(h:CompC lo w cs r)(hl:lo'≤lo):CompC lo' w cs r:=by
 obtain⟨ra,rc,ka,kc,e,h1,h2⟩:=h;exact⟨ra,rc,ka,kc,e,own_base h1 hl,own_base h2 hl⟩
theorem GateC.base {lo lo':Nat}{w:World}{cs:List Value}{r:PGate}(h:GateC lo w cs r)(hl:lo'≤lo):GateC lo' w cs r:=by
 obtain⟨xa,xc,ya,yc,e,h1,h2⟩:=h;exact⟨xa,xc,ya,yc,e,own_base h1 hl,own_base h2 hl⟩
end Go.Proofs.YtkhbiaaangnkdaaGreatDoor
