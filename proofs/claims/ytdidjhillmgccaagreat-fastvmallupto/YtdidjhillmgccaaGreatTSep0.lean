import Derived.Test.YtdidjhillmgccaaGreatP05
namespace Go.Proofs.YtdidjhillmgccaaGreat
namespace T
open Go.RowKit
structure Ob where
 S:Nat→Prop
 In:World→Prop
 lt:∀w,In w→∀k,S k→k<w.heap.size
 keep:∀(w w':World) (S1:Nat→Prop),In w→Kp S1 w w'→(∀k,S k→¬S1 k)→In w'
def boxOb (k:Nat)(cs:Array Value):Ob:=⟨fun x=>x=k,fun w=>At w k cs,fun _ h _ q=>q▸h.1,fun _ _ _ h hk hd=>at_kp h hk (hd _ rfl)⟩
structure Sep (B:Nat)(W:World)(l:List Ob):Prop where
 ins:∀o∈l,o.In W
 dis:l.Pairwise fun o p=>∀k,o.S k→¬p.S k
 ge:∀o∈l,∀k,o.S k→B≤k
theorem Sep.nil (B:Nat)(W:World):Sep B W []:=⟨fun o h=>by simp at h,List.Pairwise.nil,fun o h=>by simp at h⟩
theorem Sep.gr {B:Nat}{W W':World}{l:List Ob}(h:Sep B W l)(hb:Below W.heap.size W W'):Sep B W' l:=
 ⟨fun o ho=>o.keep W W' (fun _=>False) (h.ins o ho) (Kp.of_below hb) (fun _ _ q=>q),h.dis,h.ge⟩
theorem Sep.add {B:Nat}{W W':World}{l:List Ob}(h:Sep B W l)(o:Ob)(hi:o.In W')(hn:∀k,o.S k→W.heap.size≤k)(hb:Below W.heap.size W W')(hB:B≤W.heap.size):Sep B W' (o::l):=by
 have h':=h.gr hb;refine⟨fun p hp=>?_,List.pairwise_cons.2 ⟨fun p hp k q r=>?_,h.dis⟩,fun p hp k q=>?_⟩
 ·rcases List.mem_cons.1 hp with rfl|r
  ·exact hi
  ·exact h'.ins p r
 ·have:=hn k q;have:=p.lt W (h.ins p hp) k r;omega
 ·rcases List.mem_cons.1 hp with rfl|r
  ·have:=hn k q;omega
  ·exact h.ge p r k q
end T
end Go.Proofs.YtdidjhillmgccaaGreat
