import Derived.WalkKit
import Derived.KernelRfl
import Derived.Below
import Derived.OrdersHeld
import Derived.Deep.RegionHeld3
namespace Go.Proofs.YtkhbiaaangnkdaaGreatDoor
open Go.RowKit
def nameL:List (List UInt8):=[[],[108,105],[109,111,118],[97,100,100],[115,117,98],[109,117,108],[97,110,100],[111,114],[120,111,114],[115,104,108],[115,104,114],[97,100,100,105],[115,108,116],[115,101,113],[],[],[],[],[],[],[106,109,112],[98,101,113],[98,110,101],[98,108,116],[98,103,101],[99,112,99],[106,99],[104,97,108,116],[116,114,97,112],[105,110],[111,117,116],[99,97,108,108],[114,101,116],[],[],[],[],[],[],[],[99,105,110,99],[99,105,110,99,105],[99,115,101,116,98],[99,115,101,116,98,105],[99,97,110,100,112],[99,115,101,97,108],[99,117,110,115,101,97,108],[],[],[],[99,97,100,100,114],[99,98,97,115,101],[99,101,110,100],[99,112,101,114,109],[99,115,101,97,108,101,100],[99,116,97,103],[99,115,97,109,101],[],[],[],[108,98],[108,119],[115,98],[115,119],[108,99],[115,99],[],[],[],[],[103,108,116],[103,103,101],[103,116,97,103],[103,105,110],[103,112,101,114,109],[103,115,101,97,108]]
def shapeL:List (List UInt8):=[[],[114,105],[114,114],[114,114,114],[114,114,114],[114,114,114],[114,114,114],[114,114,114],[114,114,114],[114,114,114],[114,114,114],[114,114,105],[114,114,114],[114,114,114],[],[],[],[],[],[],[116],[114,114,116],[114,114,116],[114,114,116],[114,114,116],[114,116],[114],[114],[99],[114],[114],[103],[],[],[],[],[],[],[],[],[114,114,114],[114,114,105],[114,114,114],[114,114,110],[114,114,112],[114,114,114],[114,114,114],[],[],[],[114,114],[114,114],[114,114],[114,114],[114,114],[114,114],[114,114,114],[],[],[],[114,114,105],[114,114,105],[114,114,105],[114,114,105],[114,114,105],[114,114,105],[],[],[],[],[114,105,99],[114,105,99],[114,99],[114,110,99],[114,112,99],[114,115,99]]
def str (l:List UInt8):ByteArray:=ByteArray.mk l.toArray
def nameOf (op:Int):List UInt8:=nameL.getD op.toNat []
def shapeOf (op:Int):List UInt8:=shapeL.getD op.toNat []
theorem nameL_len:nameL.length=76:=by kernel_rfl
theorem shapeL_len:shapeL.length=76:=by kernel_rfl
theorem all_bytes (f:Nat→Bool)(h:(List.range 256).all f=true)(n:Int)(h1:n<256):f n.toNat=true:=by
 rw[List.all_eq_true]at h;exact h n.toNat (by simp;omega)
def loE (op l:Int):Int:=if l=105∧op≠70∧op≠71 then -2147483648 else 0
def hiE (l:Int):Int:=if l=114 then 15 else if l=110 then 65536 else if l=112 then 127 else if l=115 then 15 else if l=99 then 255 else 2147483647
def inE (op l n:Int):Bool:=decide (loE op l≤n)&&decide (n≤hiE l)
def fR (op:Int):List UInt8→Int→Int→Int→Int→Int→Bool
 |[],_,a,b,c,m=>decide (a=0)&&decide (b=0)&&decide (c=0)&&decide (m=0)
 |l::r,n,a,b,c,m=>
  if(l.toNat:Int)=114 then
   (if n=0 then inE op l.toNat a&&fR op r (n+1) 0 b c m
   else if n=1 then inE op l.toNat b&&fR op r (n+1) a 0 c m
   else inE op l.toNat c&&fR op r (n+1) a b 0 m)
  else if(l.toNat:Int)=99∧op≠28 then inE op l.toNat c&&fR op r n a b 0 m
  else inE op l.toNat m&&fR op r n a b c 0
def errOf (b:Bool):Int:=if b=true then 0 else 32
def rightF (op a b c m:Int):Int:=if nameOf op=[]then 31 else errOf (fR op (shapeOf op) 0 a b c m)
def shapes:List (List UInt8):=[[],[114,105],[114,114],[114,114,114],[114,114,105],[116],[114,114,116],[114,116],[114],[99],[103],[114,114,110],[114,114,112],[114,105,99],[114,99],[114,110,99],[114,112,99],[114,115,99]]
theorem shape_in (op:Int)(h1:op<256):shapeOf op∈shapes:=by
 have:=all_bytes (fun n=>decide (shapeOf n∈shapes)) (by kernel_rfl) op h1;rcases Int.lt_or_le op 0 with h|h
 ·have e:op.toNat=0:=by omega
  have:shapeOf op=[]:=by unfold shapeOf;rw[e];rfl
  rw[this];decide
 ·simpa [Int.toNat_of_nonneg h]using this
theorem xap:(∀(a:Act) (d:Tmp) (v:Value),a.put (some d) v={a with tmps:=a.tmps.setIfInBounds d v})∧(∀(a:Act) (v:Value),a.put none v=a)∧(∀(l:List Value) (i:Nat) (x:Value),l.toArray.setIfInBounds i x=(l.set i x).toArray)∧(∀(x y:Value) (l:List Value),(x::l).set 0 y=y::l)∧∀(x y:Value) (l:List Value) (n:Nat),(x::l).set (n+1) y=x::l.set n y:=⟨fun _ _ _=>rfl,fun _ _=>rfl,fun _ _ _=>by simp,fun _ _ _=>rfl,fun _ _ _ _=>rfl⟩
theorem xtk {P:Program}{md:Region.Mode}{ops:Array Oper}{Q:Exit→Act→World→Prop}{S:World→Prop}(i:Nat){d:Option Tmp}{o:Op}{t:TypeId}{p:String}{af:Array Edge}{g:Option (Nat×Bool)}{v:Value}{fuel:Nat}{listed:Array Bool}{a:Act}{w:World}(hi:ops[i]?=some ⟨d,o,t,p,af,g⟩)(hy:YieldsIf P ops S ⟨d,o,t,p,af,g⟩ v a)(h:wpAnyH P md ops Q S fuel (listed.setIfInBounds i true) (a.put d v) w)(hs:Region.noSelect ops=true:=by kernel_rfl)(hf:Region.free md ops listed i=true:=by kernel_rfl)(hr:(Region.ready md ops listed).contains i=true:=by kernel_rfl)(hQ:∀c a w,Q (.panic c) (a.put d v) w→Q (.panic c) a w:=by exact fun _ _ _ h=>h)(hS:S w:=by assumption):wpAnyH P md ops Q S (fuel+1) listed a w:=wpAnyH_take hi hs hf hr hQ hy hS h
theorem xso {P:Program}{md:Region.Mode}{ops:Array Oper}{Q:Exit→Act→World→Prop}{S:World→Prop}(i:Nat)(v:Value){d:Option Tmp}{o:Op}{t:TypeId}{p:String}{af:Array Edge}{g:Option (Nat×Bool)}{fuel:Nat}{listed:Array Bool}{a:Act}{w:World}(hi:ops[i]?=some ⟨d,o,t,p,af,g⟩)(hv:∀w,S w→(execOp a.eval ⟨d,o,t,p,af,g⟩).run P w=.ok (.value v) w)(h:wpAnyH P md ops Q S fuel (listed.setIfInBounds i true) (a.put d v) w)(hw:Region.wanted ⟨d,o,t,p,af,g⟩ (yielded ops a.tmps)=true:=by rfl)(hs:Region.noSelect ops=true:=by kernel_rfl)(hf:Region.free md ops listed i=true:=by kernel_rfl)(hr:(Region.ready md ops listed).contains i=true:=by kernel_rfl)(hQ:∀c a w,Q (.panic c) (a.put d v) w→Q (.panic c) a w:=by exact fun _ _ _ h=>h)(hS:S w:=by assumption):wpAnyH P md ops Q S (fuel+1) listed a w:=wpAnyH_take hi hs hf hr hQ (Or.inl ⟨hw,hv⟩) hS h
theorem xcn {P:Program}{md:Region.Mode}{ops:Array Oper}{Q:Exit→Act→World→Prop}{S:World→Prop}{fuel:Nat}{listed:Array Bool}{a:Act}{w:World}{i:Nat}{d:Option Tmp}{o:Op}{t:TypeId}{p:String}{af:Array Edge}{g:Option (Nat×Bool)}{rs:List Nat}(ho:ops[i]?=some ⟨d,o,t,p,af,g⟩)
 (h:∀K':Act→World→Prop,Shut (∀a w,S w→(S w→wpAnyH P md ops Q S fuel (listed.setIfInBounds i true) a w)→K' a w)→if Region.wanted ⟨d,o,t,p,af,g⟩ (yielded ops a.tmps)=true then Oper.wp P ⟨d,o,t,p,af,g⟩ a w K' Q else K' (a.put d undef) w)
 (hs:AllReadyH P md ops Q S fuel listed a w rs):AllReadyH P md ops Q S fuel listed a w (i::rs):=AllReadyH.cons ho h hs
theorem xrd {P:Program}{md:Region.Mode}{ops:Array Oper}{Q:Exit→Act→World→Prop}{S:World→Prop}(i:Nat){fuel:Nat}{listed:Array Bool}{a:Act}{w:World}{d:Option Tmp}{o:Op}{t:TypeId}{p:String}{af:Array Edge}{g:Option (Nat×Bool)}(ho:ops[i]?=some ⟨d,o,t,p,af,g⟩)
 (h:∀K':Act→World→Prop,Shut (∀a w,S w→(S w→wpAnyH P md ops Q S fuel (listed.setIfInBounds i true) a w)→K' a w)→if Region.wanted ⟨d,o,t,p,af,g⟩ (yielded ops a.tmps)=true then Oper.wp P ⟨d,o,t,p,af,g⟩ a w K' Q else K' (a.put d undef) w)(hr:Region.ready md ops listed=[i]:=by kernel_rfl):wpAnyH P md ops Q S (fuel+1) listed a w:=wpAnyH_ready hr (by simp) (AllReadyH.cons ho h AllReadyH.nil)
theorem xdn {P:Program}{md:Region.Mode}{ops:Array Oper}{Q:Exit→Act→World→Prop}{S:World→Prop}{listed:Array Bool}{a:Act}{w:World}(h:Q .normal a w)(fuel:Nat)(hr:Region.ready md ops listed=[]:=by kernel_rfl):wpAnyH P md ops Q S fuel listed a w:=wpAnyH_done hr h fuel
theorem xz {P:Program}{md:Region.Mode}{ops:Array Oper}{Q:Exit→Act→World→Prop}{S:World→Prop}(i:Nat){v:Value}{d:Option Tmp}{o:Op}{t:TypeId}{p:String}{af:Array Edge}{g:Option (Nat×Bool)}{fuel:Nat}{listed:Array Bool}{a:Act}{w:World}(hi:ops[i]?=some ⟨d,o,t,p,af,g⟩)(hv:∀w,S w→(execOp a.eval ⟨d,o,t,p,af,g⟩).run P w=.ok (.value v) w:=by(try simp only[xap]);intro w hSw;(try dsimp only at hSw);go_simp;first|done|with_reducible rfl)(h:wpAnyH P md ops Q S fuel (listed.setIfInBounds i true) (a.put d v) w)(hw:Region.wanted ⟨d,o,t,p,af,g⟩ (yielded ops a.tmps)=true:=by rfl)(hs:Region.noSelect ops=true:=by kernel_rfl)(hf:Region.free md ops listed i=true:=by kernel_rfl)(hr:(Region.ready md ops listed).contains i=true:=by kernel_rfl)(hQ:∀c a w,Q (.panic c) (a.put d v) w→Q (.panic c) a w:=by exact fun _ _ _ h=>h)(hS:S w:=by assumption):wpAnyH P md ops Q S (fuel+1) listed a w:=wpAnyH_take hi hs hf hr hQ (Or.inl ⟨hw,hv⟩) hS h
theorem xre {P:Program}{fn:Func}{R:Ending→World→Prop}{a:Act}{w:World}(hR:R (.returned (.tuple #[])) w)(hr:fn.results=#[]:=by rfl)(hd:a.defers=[]:=by rfl):bodyPost P fn R .ret a w:=bodyPost_ret (results_none hr _ _ _) hd hR
theorem xp {P:Program}{ops:Array Oper}{Q:Exit→Act→World→Prop}{o:Oper}{rest:List Oper}{a:Act}{w:World}(h:∀K:Act→World→Prop,(∀a w,wpList P ops Q rest a w→K a w)→o.wp P a w K Q)(hg:o.guard=none:=by rfl):wpList P ops Q (o::rest) a w:=wpList_plain hg h
def grow (w:World):List (Option Obj)→World
 |[]=>w
 |some o::l=>grow (w.alloc o) l
 |none::l=>grow w.drew l
theorem grow_below:∀(l:List (Option Obj)) (w:World),Below w.heap.size w (grow w l)
 |[],w=>Below.refl _ w
 |some o::l,w=>((Below.refl _ w).alloc (Nat.le_refl _) o).trans ((grow_below l (w.alloc o)).mono (by simp))
 |none::l,w=>(Below.drew (Below.refl _ w)).trans ((grow_below l w.drew).mono (by simp))
theorem grow_size (w:World)(l:List (Option Obj)):w.heap.size≤(grow w l).heap.size:=(grow_below l w).size
theorem grow_cell (w:World)(l:List (Option Obj))(k o:Nat)(h:k<w.heap.size):(grow w l).cell? ⟨k,o,none⟩=w.cell? ⟨k,o,none⟩:=(grow_below l w).cell (p:=⟨k,o,none⟩) h
theorem grow_frozen (w:World)(l:List (Option Obj))(k o:Nat)(h:k<w.heap.size):(grow w l).frozen? ⟨k,o,none⟩=w.frozen? ⟨k,o,none⟩:=(grow_below l w).frozen (p:=⟨k,o,none⟩) h
theorem grow_set (w:World)(l:List (Option Obj))(k o:Nat)(v:Value)(h:k<w.heap.size):(grow w l).setCell ⟨k,o,none⟩ v=grow (w.setCell ⟨k,o,none⟩ v) l:=by
 induction l generalizing w with
 |nil=>rfl
 |cons ob l ih=>
  cases ob with
  |none=>rw[grow,grow,ih _ (by simpa using h)];rfl
  |some ob=>rw[grow,grow,ih _ (by simp;omega),World.setCell_alloc_past _ _ _ _ h]
theorem grow_lt (w:World)(l:List (Option Obj))(k:Nat)(h:k<w.heap.size):k<(grow w l).heap.size:=Nat.lt_of_lt_of_le h (grow_size w l)
def Gr (w w':World):Prop:=∃l,grow w l=w'
theorem Gr.refl (w:World):Gr w w:=⟨[],rfl⟩
theorem grow_app:∀(l m:List (Option Obj)) (w:World),grow w (l++m)=grow (grow w l) m
 |[],_,_=>rfl
 |some _::l,m,_=>grow_app l m _
 |none::l,m,_=>grow_app l m _
theorem Gr.grow {w W:World}(h:Gr w W)(m:List (Option Obj)):Gr w (grow W m):=by
 obtain⟨l,rfl⟩:=h;exact⟨l++m,grow_app l m w⟩
theorem Gr.alloc {w W:World}(h:Gr w W)(o:Obj):Gr w (W.alloc o):=h.grow [some o]
theorem Gr.drew {w W:World}(h:Gr w W):Gr w W.drew:=h.grow [none]
theorem Gr.below {w W:World}(h:Gr w W):Below w.heap.size w W:=by
 obtain⟨l,rfl⟩:=h;exact grow_below l w
theorem Gr.trans {a b c:World}(h:Gr a b)(k:Gr b c):Gr a c:=by
 obtain⟨m,rfl⟩:=k;exact h.grow m
theorem Gr.of_alloc {W w':World}{o:Obj}(h:Gr (W.alloc o) w'):Gr W w':=((Gr.refl W).alloc o).trans h
theorem Gr.of_grow {W w':World}{l:List (Option Obj)}(h:Gr (Go.Proofs.YtkhbiaaangnkdaaGreatDoor.grow W l) w'):Gr W w':=((Gr.refl W).grow l).trans h
theorem lt1 (n:Nat):n<n+1:=by omega
theorem lt2 (n:Nat):n<n+1+1:=by omega
theorem lt3 (n:Nat):n<n+1+1+1:=by omega
theorem lt4 (n:Nat):n<n+1+1+1+1:=by omega
theorem lt5 (n:Nat):n<n+1+1+1+1+1:=by omega
theorem lt6 (n:Nat):n<n+1+1+1+1+1+1:=by omega
theorem lt7 (n:Nat):n<n+1+1+1+1+1+1+1:=by omega
theorem lt8 (n:Nat):n<n+1+1+1+1+1+1+1+1:=by omega
theorem glt1 (w:World)(l:List (Option Obj))(k:Nat)(h:k<w.heap.size):k<(grow w l).heap.size+1:=by have:=grow_lt w l k h;omega
theorem glt2 (w:World)(l:List (Option Obj))(k:Nat)(h:k<w.heap.size):k<(grow w l).heap.size+1+1:=by have:=grow_lt w l k h;omega
theorem glt3 (w:World)(l:List (Option Obj))(k:Nat)(h:k<w.heap.size):k<(grow w l).heap.size+1+1+1:=by have:=grow_lt w l k h;omega
theorem glt4 (w:World)(l:List (Option Obj))(k:Nat)(h:k<w.heap.size):k<(grow w l).heap.size+1+1+1+1:=by have:=grow_lt w l k h;omega
theorem glt5 (w:World)(l:List (Option Obj))(k:Nat)(h:k<w.heap.size):k<(grow w l).heap.size+1+1+1+1+1:=by have:=grow_lt w l k h;omega
theorem glt6 (w:World)(l:List (Option Obj))(k:Nat)(h:k<w.heap.size):k<(grow w l).heap.size+1+1+1+1+1+1:=by have:=grow_lt w l k h;omega
def At (w:World)(k:Nat)(cs:Array Value):Prop:=
 k<w.heap.size∧(∀o,w.cell? ⟨k,o,none⟩=cs[o]?)∧(∀o,w.frozen? ⟨k,o,none⟩=false)
theorem At.new (w:World)(cs:Array Value)(t:TypeId):At (w.alloc (.cells cs t)) w.heap.size cs:=
 ⟨by simp,fun o=>World.cell?_alloc_new w cs t o,fun o=>by
  have e:(w.alloc (.cells cs t)).heap[w.heap.size]?=some (.cells cs t):=(MapKept.heap_alloc w _).1;simp only[World.frozen?];rw[e];simp⟩
theorem At.gr {w w1:World}{k:Nat}{cs:Array Value}(h:At w k cs)(hb:Gr w w1):At w1 k cs:=by
 obtain⟨l,rfl⟩:=hb;exact⟨grow_lt w l k h.1,fun o=>(grow_cell w l k o h.1).trans (h.2.1 o),fun o=>(grow_frozen w l k o h.1).trans (h.2.2 o)⟩
theorem At.alloc {w:World}{k:Nat}{cs:Array Value}(h:At w k cs)(ob:Obj):At (w.alloc ob) k cs:=h.gr ((Gr.refl w).alloc ob)
theorem At.drew {w:World}{k:Nat}{cs:Array Value}(h:At w k cs):At w.drew k cs:=⟨h.1,h.2.1,h.2.2⟩
theorem At.next (w:World)(ob:Obj)(cs:Array Value)(t:TypeId):At ((w.alloc ob).alloc (.cells cs t)) (w.heap.size+1) cs:=by
 have:=At.new (w.alloc ob) cs t
 rwa [World.size_alloc]at this
theorem At.set {w:World}{k:Nat}{cs:Array Value}(h:At w k cs)(j:Nat)(v:Value)(hj:j<cs.size):At (w.setCell ⟨k,j,none⟩ v) k (cs.setIfInBounds j v):=by
 refine⟨by simpa using h.1,fun o=>?_,fun o=>by simpa using h.2.2 o⟩;by_cases ho:j=o
 ·subst ho;rw[World.cell?_setCell_same w _ v (u:=cs[j]) (by rw[h.2.1];simp[hj])];simp[hj]
 ·rw[World.cell?_setCell_other (w:=w) (a:=⟨k,j,none⟩) (v:=v) (b:=⟨k,o,none⟩) (by simp),h.2.1,Array.getElem?_setIfInBounds_ne ho]
theorem At.set_other {w:World}{k k' j:Nat}{cs:Array Value}(h:At w k cs)(v:Value)(hk:k'≠k):At (w.setCell ⟨k',j,none⟩ v) k cs:=by
 refine⟨by simpa using h.1,fun o=>?_,fun o=>by simpa using h.2.2 o⟩;rw[World.cell?_setCell_other (w:=w) (a:=⟨k',j,none⟩) (v:=v) (b:=⟨k,o,none⟩) (by simp),h.2.1]
theorem wp_world {P:Program}{code:Code}{Q:Exit→Act→World→Prop}{a:Act}{W:World}(R:World→Prop)(hR:R W)(h:∀w',R w'→Code.wp P code Q a w'):Code.wp P code Q a W:=h W hR
theorem modify_past {α:Type}(h:Array α)(k:Nat)(f:α→α)(hk:h.size≤k):h.modify k f=h:=by
 apply Array.ext_getElem?;intro i;rw[Array.getElem?_modify];by_cases e:k=i
 ·subst e;rw[if_pos rfl,Array.getElem?_eq_none hk];rfl
 ·rw[if_neg e]
theorem modify_last {α:Type}(h:Array α)(x:α)(f:α→α):(h.push x).modify h.size f=h.push (f x):=by
 apply Array.ext_getElem?;intro i;rw[Array.getElem?_modify];by_cases e:h.size=i
 ·subst e;simp
 ·have e':¬i=h.size:=fun q=>e q.symm
  simp[e,e',Array.getElem?_push]
theorem set_past (w:World)(k o:Nat)(v:Value)(h:w.heap.size≤k):w.setCell ⟨k,o,none⟩ v=w:=by
 unfold World.setCell;rw[modify_past w.heap k _ h]
theorem alloc_set (w:World)(ob:Obj)(o:Nat)(v:Value):∃ob',(w.alloc ob).setCell ⟨w.heap.size,o,none⟩ v=w.alloc ob':=by
 unfold World.setCell World.alloc;exact⟨_,by rw[modify_last]⟩
theorem Gr.setCell {w W:World}(h:Gr w W)(k o:Nat)(v:Value)(hk:w.heap.size≤k):Gr w (W.setCell ⟨k,o,none⟩ v):=by
 obtain⟨l,rfl⟩:=h
 induction l generalizing w with
 |nil=>exact⟨[],(set_past w k o v hk).symm⟩
 |cons ob l ih=>
  cases ob with
  |none=>
   obtain⟨m,hm⟩:=ih (w:=w.drew) (by simpa using hk);exact⟨none::m,hm⟩
  |some ob=>
   rcases Nat.eq_or_lt_of_le hk with e|e
   ·subst e;obtain⟨ob',hob⟩:=alloc_set w ob o v;refine⟨some ob'::l,?_⟩;show Go.Proofs.YtkhbiaaangnkdaaGreatDoor.grow (w.alloc ob') l=(Go.Proofs.YtkhbiaaangnkdaaGreatDoor.grow (w.alloc ob) l).setCell _ v;rw[grow_set _ _ _ _ _ (by simp),hob]
   ·obtain⟨m,hm⟩:=ih (w:=w.alloc ob) (by simp;omega);exact⟨some ob::m,hm⟩
theorem At.at_ (w:World)(cs:Array Value)(t:TypeId){k:Nat}(h:w.heap.size=k):At (w.alloc (.cells cs t)) k cs:=h▸At.new w cs t
end Go.Proofs.YtkhbiaaangnkdaaGreatDoor
