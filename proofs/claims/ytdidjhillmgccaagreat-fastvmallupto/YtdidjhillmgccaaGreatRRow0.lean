import Derived.Test.YtdidjhillmgccaaGreatP01
import Derived.Deep.MidRow
namespace Go.Proofs.YtdidjhillmgccaaGreat
open Go.RowKit
def rowV {α:Type}(pre:List Value)(f:α→List Value)(L:List α):List Value:=pre++L.flatMap f
theorem flat_len {α:Type}{f:α→List Value}{k:Nat}(hf:∀x,(f x).length=k):∀L:List α,(L.flatMap f).length=L.length*k
 |[]=>by simp
 |x::L=>by rw[List.flatMap_cons,List.length_append,hf,flat_len hf L,List.length_cons,Nat.add_mul];omega
theorem flat_at' {α:Type}{f:α→List Value}{k:Nat}(hf:∀x,(f x).length=k):∀(L:List α) (i:Nat) (h:i<L.length) (j:Nat),j<k→(L.flatMap f)[i*k+j]?=(f L[i])[j]?
 |x::L,0,_,j,hj=>by
  rw[List.flatMap_cons,Nat.zero_mul,Nat.zero_add,List.getElem?_append_left (by rw[hf];exact hj)]
  rfl
 |x::L,i+1,h,j,hj=>by
  rw[List.flatMap_cons,List.getElem?_append_right (by rw[hf,Nat.add_mul];omega),hf,show(i+1)*k+j - k=i*k+j by rw[Nat.add_mul];omega];exact flat_at' hf L i (by simpa using h) j hj
theorem row_at {α:Type}{pre:List Value}{f:α→List Value}{k:Nat}(hf:∀x,(f x).length=k)(L:List α)(i:Nat)(h:i<L.length)(j:Nat)(hj:j<k):(rowV pre f L)[pre.length+i*k+j]?=(f L[i])[j]?:=by
 unfold rowV;rw[List.getElem?_append_right (by omega),show pre.length+i*k+j - pre.length=i*k+j by omega];exact flat_at' hf L i h j hj
theorem row_len {α:Type}{pre:List Value}{f:α→List Value}{k:Nat}(hf:∀x,(f x).length=k)(L:List α):(rowV pre f L).length=pre.length+L.length*k:=by
 unfold rowV;rw[List.length_append,flat_len hf]
theorem At.range {w:World}{b:Nat}{cs:List Value}(h:At w b cs.toArray):w.rangeAt b 0 cs:=fun j v q=>by
 rw[Nat.zero_add,h.2.1];simpa using q
theorem At.there {w:World}{b:Nat}{cs:List Value}(h:At w b cs.toArray)(o n:Nat)(hn:o+n≤cs.length):w.there b o n:=fun j hj=>by
 refine⟨?_,h.2.2 _⟩;rw[h.2.1,List.getElem?_toArray,List.getElem?_eq_getElem (by omega)]
 rfl
theorem setCells_size (b:Nat):∀(vs:List Value) (o:Nat) (w:World),(w.setCells b o vs).heap.size=w.heap.size
 |[],_,_=>rfl
 |v::r,o,w=>by rw[World.setCells,setCells_size b r];simp
theorem At.setRange {w:World}{b:Nat}{cs ds:List Value}(h:At w b cs.toArray)(o:Nat)(vs:List Value)(_hl:ds.length=cs.length)(ho:o+vs.length≤cs.length)
 (hin:∀j,j<vs.length→ds[o+j]?=vs[j]?)(hout:∀i,i<o∨o+vs.length≤i→ds[i]?=cs[i]?):At (w.setCells b o vs) b ds.toArray:=by
 refine⟨by rw[setCells_size];exact h.1,fun i=>?_,fun i=>by rw[World.frozen?_setCells];exact h.2.2 i⟩;rw[List.getElem?_toArray];by_cases q:o≤i∧i<o+vs.length
 ·have e:i=o+(i - o):=by omega
  rw[e,World.cell?_setCells_in b vs o w (fun j hj=>(h.there o vs.length ho j hj).1) (i - o) (by omega),hin _ (by omega),List.getElem?_eq_getElem (by omega)]
 ·rw[World.cell?_setCells_out b vs o w ⟨b,i,none⟩ (fun _ _=>by show i<o∨o+vs.length≤i;omega),h.2.1,List.getElem?_toArray,hout i (by omega)]
theorem At.setAll {w:World}{b:Nat}{cs:List Value}(h:At w b cs.toArray)(vs:List Value)(hl:vs.length=cs.length):At (w.setCells b 0 vs) b vs.toArray:=
 h.setRange 0 vs hl (by omega) (fun j _=>by rw[Nat.zero_add]) (fun i q=>by rw[List.getElem?_eq_none (by omega),List.getElem?_eq_none (by omega)])
theorem At.other {w:World}{b b':Nat}{cs:Array Value}(h:At w b cs)(hne:b≠b')(o:Nat)(vs:List Value):At (w.setCells b' o vs) b cs:=
 ⟨by rw[setCells_size];exact h.1,fun i=>by rw[World.cell?_setCells_out b' vs o w ⟨b,i,none⟩ (fun e _=>absurd e hne)];exact h.2.1 i,fun i=>by rw[World.frozen?_setCells];exact h.2.2 i⟩
theorem Gr.setCells {w W:World}(h:Gr w W)(b:Nat)(hb:w.heap.size≤b):∀(vs:List Value) (o:Nat),Gr w (W.setCells b o vs):=fun vs=>by
 induction vs generalizing W with
 |nil=>exact fun _=>h
 |cons v r ih=>exact fun o=>ih (h.setCell b o v hb) (o+1)
end Go.Proofs.YtdidjhillmgccaaGreat
