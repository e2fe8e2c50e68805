import Derived.Test.YtkhbiaaangnkdaaGreatDoorJ45
namespace Go.Proofs.YtkhbiaaangnkdaaGreatDoor
namespace Q
open Go.RowKit
end Q
namespace C
open Go.RowKit
open T (Sep Ob Kp Mf TgIn boxOb Fm Tc Ed Vl Cp Bx tgOb mRow updV flt)
def entN (A:List Nat)(n:Nat):List Nat:=(List.range n).map fun i=>A.getD i i
theorem entN_len (A:List Nat)(n:Nat):(entN A n).length=n:=by simp[entN]
theorem entN_succ (A:List Nat)(n:Nat):entN A (n+1)=entN A n++[A.getD n n]:=by simp[entN,List.range_succ]
def uN (x:Nat):Value:=.int .u64 (x:Int)
theorem own_numin {w:World}{lo:Nat}{v:Value}{L:List Nat}(h:w.ownsRow lo 25 1 v L.length (L.map uN)):∃va c,v=.slice va L.length c∧NumIn w va L:=by
 have hlt:=h.lt;rcases h.2 with⟨rfl,h9⟩|⟨g,cap,cur,rfl,hb,hg,hc1,hc2,hc3,hc4⟩
 ·exact⟨none,0,by rw[h9],fun i hi=>by omega⟩
 ·refine⟨_,cap,rfl,fun i hi=>⟨g,0,rfl,(hlt g rfl).2,?_⟩⟩;have:w.cell? ⟨g,0+i,none⟩=cur[i]?:=by simp[World.cell?,hg]
  rw[this];have h2:(L.map uN)[i]?=some (.int .u64 L[i]):=by simp[hi,uN]
  rw[←hc4,List.getElem?_take_of_lt (by omega)]at h2;rw[←h2];simp
theorem TabIn.bl {w W:World}(h:TabIn w)(g:Bl w W):TabIn W:=h.below g h.size
theorem own_numn {w:World}{lo n:Nat}{v:Value}{L:List Nat}(hl:L.length=n)(h:w.ownsRow lo 25 1 v n (L.map uN)):∃va c,v=.slice va n c∧NumIn w va L:=by
 subst hl;exact own_numin h
theorem eq_len {m:PImg}{g:Nat}(hg:g<m.gates.length)(A:List Nat):(entN A m.gates[g].args.length).length=(argsOf m g).length:=by rw[entN_len,argsOf_at m g hg]
open T (Sep Ob Kp Mf TgIn boxOb Fm Tc Ed Vl Cp Bx tgOb mRow updV flt ofI)
section
variable {P:PImg} {s s':Ms} {e:Ed}
end
end C
end Go.Proofs.YtkhbiaaangnkdaaGreatDoor
