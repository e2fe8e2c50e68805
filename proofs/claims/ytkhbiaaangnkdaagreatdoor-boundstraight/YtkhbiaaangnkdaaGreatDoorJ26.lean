import Derived.Test.YtkhbiaaangnkdaaGreatDoorJ25
import Derived.Test.YtkhbiaaangnkdaaGreatDoorJ11
import Derived.Test.YtkhbiaaangnkdaaGreatDoorJ24
import Derived.Maps.RangeWalk
import Derived.Test.YtkhbiaaangnkdaaGreatDoorJ09
import Derived.Test.YtkhbiaaangnkdaaGreatDoorJ02
import Derived.Deep.AppendSrc
namespace Go.Proofs.YtkhbiaaangnkdaaGreatDoor
open Go.RowKit
theorem infoComp:(Tryz.prog.info? 32).map (fun i=>(i.zero,i.size,i.bytes))=some (some (.agg #[.slice none 0 0,.slice none 0 0]),2,48):=by kernel_rfl
theorem infoGate:(Tryz.prog.info? 36).map (fun i=>(i.zero,i.size,i.bytes))=some (some (.agg #[.int .i64 0,.int .i64 0,.slice none 0 0,.slice none 0 0]),4,64):=by kernel_rfl
theorem own_base {w:World}{base base' e size n:Nat}{v:Value}{xs:List Value}(h:w.ownsRow base e size v n xs)(hb:base'≤base):w.ownsRow base' e size v n xs:=by
 refine⟨h.1,?_⟩;rcases h.2 with h2|⟨g,c,cur,e1,e2,e3⟩
 ·exact .inl h2
 ·exact .inr ⟨g,c,cur,e1,Nat.le_trans hb e2,e3⟩
theorem own_setBox {w:World}{base e size n k o:Nat}{v u:Value}{xs:List Value}{cs:Array Value}{t:TypeId}(h:w.ownsRow base e size v n xs)(hb:Box w k cs t)(ht:t≠e):(w.setCell ⟨k,o,none⟩ u).ownsRow base e size v n xs:=
 ownsRow_setCell_other h (a:=⟨k,o,none⟩) (own_ne h hb ht) u
theorem grown_below {w w':World}(h:w.grownBy w' none):Below w.heap.size w w':=⟨h.os,h.tape,h.output,h.size,fun k hk=>h.block k hk (by simp)⟩
def setRow (w:World)(k:Nat):Nat→List Value→World
 |_,[]=>w
 |j,v::vs=>setRow (w.setCell ⟨k,j,none⟩ v) k (j+1) vs
theorem setRow_box {k:Nat}{t:TypeId}:∀(vs:List Value) (w:World) (j:Nat) (pre post:List Value),Box w k (pre++post).toArray t→pre.length=j→vs.length≤post.length→Box (setRow w k j vs) k (pre++vs++post.drop vs.length).toArray t
 |[],w,j,pre,post,h,_,_=>by simpa [setRow]using h
 |v::vs,w,j,pre,[],h,_,hl=>by simp at hl
 |v::vs,w,j,pre,u::post,h,hj,hl=>by
  rw[setRow];have h1:=h.set j v;have e:(pre++u::post).toArray.setIfInBounds j v=((pre++[v])++post).toArray:=by
   subst hj;simp
  rw[e]at h1;have:=setRow_box vs _ (j+1) (pre++[v]) post h1 (by simp;omega) (by simpa using hl);simpa using this
theorem Box.setRow {w:World}{k:Nat}{cs:Array Value}{t:TypeId}(h:Box w k cs t)(vs:List Value)(hl:cs.size=vs.length):Box (Go.Proofs.YtkhbiaaangnkdaaGreatDoor.setRow w k 0 vs) k vs.toArray t:=by
 have h1:Box w k ([]++cs.toList).toArray t:=by simpa using h
 have:=setRow_box vs w 0 [] cs.toList h1 rfl (by simp[hl]);have hd:cs.toList.drop vs.length=[]:=by rw[List.drop_eq_nil_iff];simp[hl]
 rw[hd]at this;simpa using this
theorem own_row {base e size n k:Nat}{v:Value}{xs:List Value}{t:TypeId}:∀(vs:List Value) {w:World} {j:Nat} {cs:Array Value},w.ownsRow base e size v n xs→Box w k cs t→t≠e→(setRow w k j vs).ownsRow base e size v n xs
 |[],_,_,_,h,_,_=>h
 |u::vs,_,j,_,h,hb,ht=>own_row vs (own_setBox (o:=j) (u:=u) h hb ht) (hb.set j u) ht
theorem flatten_get {k:Nat}:∀{css:List (List Value)},(∀cs∈css,cs.length=k)→∀(i j:Nat) (cs:List Value),css[i]?=some cs→j<k→css.flatten[i*k+j]?=cs[j]?
 |[],_,i,_,cs,h,_=>by simp at h
 |c::css,hl,0,j,cs,h,hj=>by
  obtain rfl:c=cs:=by simpa using h
  have:=hl c (by simp);rw[List.flatten_cons,Nat.zero_mul,Nat.zero_add,List.getElem?_append_left (by omega)]
 |c::css,hl,i+1,j,cs,h,hj=>by
  have hc:=hl c (by simp);rw[List.flatten_cons,List.getElem?_append_right (by rw[hc,Nat.succ_mul];omega)];have e:(i+1)*k+j - c.length=i*k+j:=by rw[hc,Nat.succ_mul];omega
  rw[e];exact flatten_get (fun x hx=>hl x (by simp[hx])) i j cs (by simpa using h) hj
theorem flatMap_get {α:Type}{k:Nat}{vals:α→List Value}(hv:∀x,(vals x).length=k)(L:List α)(i j:Nat)(hi:i<L.length)(hj:j<k):(L.flatMap vals)[i*k+j]?=(vals L[i])[j]?:=by
 rw[List.flatMap_def];refine flatten_get (k:=k) ?_ i j (vals L[i]) (by simp[hi]) hj;intro cs h;obtain⟨x,_,rfl⟩:=List.mem_map.1 h;exact hv x
theorem row_cell {w:World}{base e size g c n:Nat}{xs:List Value}(h:w.ownsRow base e size (.slice (some ⟨g,0,none⟩) n c) n xs)(j:Nat)(v:Value)(hj:xs[j]?=some v):w.cell? ⟨g,j,none⟩=some v:=by
 have hc:=World.ownsRow.cells h (g:=g) rfl j v hj;have ea:(⟨g,0,none⟩:Addr).add j=⟨g,j,none⟩:=by by_cases h0:j=0<;>simp[Addr.add,h0]
 rwa [ea]at hc
theorem own_at {w:World}{base e size n c:Nat}{a:Option Addr}{xs:List Value}(h:w.ownsRow base e size (.slice a n c) n xs)(hn:0<n):∃g,a=some ⟨g,0,none⟩∧base≤g∧g<w.heap.size:=by
 have hb:=own_block h;rcases h.2 with⟨e1,h0⟩|⟨g,cap,cur,e1,hbg,_⟩
 ·omega
 ·have e2:a=some ⟨g,0,none⟩:=by cases e1;rfl
  subst e2;exact⟨g,rfl,hb g rfl⟩
theorem own_cell {w:World}{base e size n c:Nat}{a:Option Addr}{xs:List Value}(h:w.ownsRow base e size (.slice a n c) n xs){g:Nat}(ha:a=some ⟨g,0,none⟩)(j:Nat)(v:Value)(hj:xs[j]?=some v):w.cell? ⟨g,j,none⟩=some v:=by
 subst ha;exact row_cell h j v hj
theorem own_fin {α:Type}{k:Nat}{vals:α→List Value}(hv:∀x,(vals x).length=k){w:World}{base e c:Nat}{a:Option Addr}{L:List α}(h:w.ownsRow base e k (.slice a L.length c) L.length (L.flatMap vals)):FIn k vals w.heap.size w a L:=fun i hi=>by
 obtain⟨g,rfl,_,hg⟩:=own_at h (by omega);refine⟨g,0,rfl,hg,hg,fun j hj=>?_⟩;have e:=flatMap_get hv L i j hi hj;have hs:j<(vals L[i]).length:=by rw[hv];exact hj
 rw[List.getElem?_eq_getElem hs]at e ⊢;rw[Nat.zero_add];exact own_cell h rfl _ _ e
theorem slot_len (x:PSlot):x.vals.length=8:=rfl
theorem root_len (x:PRoot):x.vals.length=6:=rfl
theorem typ_len (x:PTyp):x.vals.length=7:=rfl
theorem infoType:(Tryz.prog.info? 130).map (fun i=>(i.zero,i.size,i.bytes))=some (some (.agg #[.bool false,.int .u64 0,.int .u64 0,.int .u64 0,.int .u64 0,.int .u8 0,.int .i64 0]),7,56):=by kernel_rfl
theorem infoSlot:(Tryz.prog.info? 132).map (fun i=>(i.zero,i.size,i.bytes))=some (some (.agg #[.bool false,.int .u64 0,.int .u64 0,.int .u64 0,.int .u64 0,.int .u8 0,.int .i64 0,.int .u64 0]),8,64):=by kernel_rfl
theorem infoRoot:(Tryz.prog.info? 157).map (fun i=>(i.zero,i.size,i.bytes))=some (some (.agg #[.int .i64 0,.int .u64 0,.int .u64 0,.int .u64 0,.int .u8 0,.int .i64 0]),6,48):=by kernel_rfl
def FitB (k n:Nat):Prop:=n*k≤140737488355328
theorem news_fin {α:Type}{k:Nat}{vals:α→List Value}(hv:∀x,(vals x).length=k)(hk:0<k){w:World}{B:Nat}{a:Addr}{M:List α}(h:FIn k vals B w (some a) M):∀j u,(M.flatMap vals)[j]?=some u→w.cell? (a.add j)=some u:=by
 intro j u hj;have hlen:(M.flatMap vals).length=M.length*k:=by
  clear hj h
  induction M with
  |nil=>simp
  |cons x M ih=>rw[List.flatMap_cons,List.length_append,ih,hv,List.length_cons,Nat.succ_mul];omega
 have hjl:j<M.length*k:=by
  have:=(List.getElem?_eq_some_iff.1 hj).1
  rwa [hlen]at this
 have hq:j/k<M.length:=Nat.div_lt_of_lt_mul (by rw[Nat.mul_comm];exact hjl);have hm:j%k<k:=Nat.mod_lt _ hk;obtain⟨b,off,ha,_,_,hc⟩:=h (j/k) hq
 cases ha
 have ea:(⟨b,off,none⟩:Addr).add j=⟨b,off+j,none⟩:=by by_cases h0:j=0<;>simp[Addr.add,h0]
 have hg:=flatMap_get hv M (j/k) (j%k) hq hm;have ej:j/k*k+j%k=j:=by rw[Nat.mul_comm];exact Nat.div_add_mod j k
 rw[ej,hj]at hg;have:=hc (j%k) hm;rw[Nat.add_assoc,ej]at this;rw[ea,this,←hg]
theorem flatMap_len {α:Type}{k:Nat}{vals:α→List Value}(hv:∀x,(vals x).length=k)(M:List α):(M.flatMap vals).length=M.length*k:=by
 induction M with
 |nil=>simp
 |cons x M ih=>rw[List.flatMap_cons,List.length_append,ih,hv,List.length_cons,Nat.succ_mul];omega
theorem slot_one (x:PSlot):∀u∈x.vals,u.oneCell'=true:=by
 intro u hu;simp[PSlot.vals,PTyp.vals]at hu;rcases hu with h|h|h|h|h|h|h|h<;>rw[h]<;>rfl
theorem root_one (x:PRoot):∀u∈x.vals,u.oneCell'=true:=by
 intro u hu;simp[PRoot.vals]at hu;rcases hu with h|h|h|h|h|h<;>rw[h]<;>rfl
theorem typ_one (x:PTyp):∀u∈x.vals,u.oneCell'=true:=by
 intro u hu;simp[PTyp.vals]at hu;rcases hu with h|h|h|h|h|h|h<;>rw[h]<;>rfl
theorem wpList_append_all {α:Type}{k:Nat}{vals:α→List Value}(hv:∀x,(vals x).length=k)(hk:0<k)(h1c:∀x,∀u∈vals x,u.oneCell'=true)
 {ops:Array Oper}{rest:List Oper}{o:Oper}{a:Act}{Q:Exit→Act→World→Prop}{w:World}(hgd:o.guard=none)(s x:Operand)(t e:TypeId)(z:Value)(bytes:Nat)
 (ho:o.op=.call {callee:=.builtin .append,args:=#[s,x],argTypes:=#[t,t]})(ht:Tryz.prog.underlying t=some (.slice e))
 (hi:(Tryz.prog.info? e).map (fun i=>(i.zero,i.size,i.bytes))=some (some z,k,bytes))(hz:z.cells.size=k)(hby:0<bytes)
 (M:List α)(hs:a.eval s=.slice none 0 0)(ax:Option Addr)(c:Nat)(hx:a.eval x=.slice ax M.length c)(B:Nat)(hM:FIn k vals B w ax M)(hlen:FitB bytes M.length)
 (h:∀v' w',w'.ownsRow w.heap.size e k v' M.length (M.flatMap vals)→w.grownBy w' none→wpList Tryz.prog ops Q rest (a.put o.dst v') w'):
 wpList Tryz.prog ops Q (o::rest) a w:=by
 obtain⟨i0,hi0,hz0,hz1,hz2⟩:=info_parts hi
 cases ax with
 |none=>
  have hM0:M=[]:=by
   cases M with
   |nil=>rfl
   |cons y M=>
    obtain⟨b,off,e,_⟩:=hM 0 (by simp)
    cases e
  subst hM0;refine wpList_plain hgd fun K hK=>?_
  have hr:(Builtin.append_ #[t,t] o.type #[.slice none 0 0,.slice none 0 c]).run Tryz.prog w=.ok (.slice none 0 0) w:=by
   simp[Builtin.append_,run_underlying ht,sizeOf,typeInfo,hi0,Builtin.lenOf,Builtin.firstCells]
  unfold Oper.wp execOp;simp only[ho,resolve,invoke,builtin,Sem.run_bind,Sem.run_pure,Result.andThen_ok,List.map_toArray,List.map_cons,List.map_nil,hs,hx,List.length_nil,hr];exact hK _ _ (h (.slice none 0 0) w ⟨by simp,.inl ⟨rfl,rfl⟩⟩ ⟨rfl,rfl,rfl,Nat.le_refl _,fun _ _ _=>rfl⟩)
 |some ad=>
  unfold FitB at hlen;have hb1:=Nat.le_mul_of_pos_right M.length hby;have hb:(0+M.length)*bytes≤140737488355328:=by
   rw[Nat.zero_add];exact hlen
  refine wpList_append_own_at _ hgd s x t ho w.heap.size e i0 z k bytes ht hi0 hz0 hz1 hz2 hz hk
   (.slice none 0 0) 0 [] hs ⟨by simp,.inl ⟨rfl,rfl⟩⟩ ad M.length c (M.flatMap vals) hx (flatMap_len hv M) (news_fin hv hk hM) (fun u hu=>by
    obtain⟨y,_,hy⟩:=List.mem_flatMap.1 hu;exact h1c y u hy) (by unfold maxLen;omega) hb (Nat.le_refl _) ?_
  intro v' w' k1 k2 _ _;refine h v' w' ?_ k2;simpa using k1
end Go.Proofs.YtkhbiaaangnkdaaGreatDoor
