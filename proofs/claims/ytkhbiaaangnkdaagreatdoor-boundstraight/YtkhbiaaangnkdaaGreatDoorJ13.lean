import Derived.Test.YtkhbiaaangnkdaaGreatDoorJ12
import Derived.Test.YtkhbiaaangnkdaaGreatDoorJ08
import Derived.Test.YtkhbiaaangnkdaaGreatDoorJ11
namespace Go.Proofs.YtkhbiaaangnkdaaGreatDoor
namespace Bd
open Go.RowKit
open F (thB nxtI folB Rch rchB rchB_iff folB_lt folB_lt')
theorem evF_put {α:Type}{nx:Nat→List Nat}{f:Nat→List α→Option α}{k n:Nat}{vs:List α}(h:(nx n).map (evF nx f k)=vs.map some):evF nx f (k+1) n=f n vs:=by
 rw[evF,h,allV_of];rfl
section
variable {L:List Ins} {cF:Nat→Int} (hc:∀pc,0≤cF pc∧cF pc≤1099511627777)
include hc
end
theorem row_go {f:Nat→Option Cst}:∀(l:List (Nat×Cst)) (F:Nat→Option Cst),(∀gv∈l,f gv.1=some gv.2)→(∀g x,F g=some x→f g=some x)→∀g x,l.foldl (fun F gv=>fun q=>if q=gv.1 then some gv.2 else F q) F g=some x→f g=some x
 |[],F,_,hF=>hF
 |a::l,F,hl,hF=>row_go l _ (fun gv h=>hl gv (by simp[h])) (fun g x h=>by
  dsimp only at h
  split at h
  ·rename_i e
   injection h with h
   rw[e,←h];exact hl a (by simp)
  ·exact hF g x h)
theorem row_in:∀(l:List (Nat×Cst)) (F:Nat→Option Cst) (g:Nat),(F g).isSome=true∨(∃gv∈l,gv.1=g)→(l.foldl (fun F gv=>fun q=>if q=gv.1 then some gv.2 else F q) F g).isSome=true
 |[],F,g,h=>by
  rcases h with h|⟨gv,h,_⟩
  ·exact h
  ·cases h
 |a::l,F,g,h=>row_in l _ g (by
  rcases h with h|⟨gv,h,e⟩
  ·left
   dsimp only
   split
   ·rfl
   ·exact h
  ·rcases List.mem_cons.1 h with rfl|h
   ·left
    dsimp only;rw[if_pos e.symm]
    rfl
   ·exact .inr ⟨gv,h,e⟩)
theorem zip_is {f:Nat→Option Cst}:∀(N:List Nat) (vs:List Cst),N.map f=vs.map some→(∀gv∈N.zip vs,f gv.1=some gv.2)∧∀g∈N,∃gv∈N.zip vs,gv.1=g
 |[],[],_=>⟨fun gv h=>absurd h (by simp),fun g h=>absurd h (by simp)⟩
 |[],v::vs,h=>by cases h
 |c::l,[],h=>by cases h
 |c::l,v::vs,h=>by
  rw[List.map_cons,List.map_cons]at h;injection h with h1 h2
  obtain⟨q1,q2⟩:=zip_is l vs h2;refine⟨fun gv hg=>?_,fun g hg=>?_⟩
  ·rw[List.zip_cons_cons]at hg;rcases List.mem_cons.1 hg with rfl|hg
   ·exact h1
   ·exact q1 gv hg
  ·rw[List.zip_cons_cons];rcases List.mem_cons.1 hg with rfl|hg
   ·exact⟨(g,v),List.mem_cons_self,rfl⟩
   ·obtain⟨gv,r1,r2⟩:=q2 g hg;exact⟨gv,by simp[r1],r2⟩
theorem rowF_is {f:Nat→Option Cst}{N:List Nat}{vs:List Cst}(h:N.map f=vs.map some){g:Nat}{x:Cst}(hx:rowF N vs g=some x):f g=some x:=
 row_go _ _ (zip_is N vs h).1 (fun _ _ h=>by cases h) g x hx
theorem rowF_at {f:Nat→Option Cst}{N:List Nat}{vs:List Cst}(h:N.map f=vs.map some){g:Nat}(hg:g∈N){x:Cst}(hx:f g=some x):rowF N vs g=some x:=by
 have h1:=row_in (N.zip vs) (fun _=>none) g (.inr ((zip_is N vs h).2 g hg));obtain⟨y,hy⟩:=Option.isSome_iff_exists.1 h1;have h2:rowF N vs g=some y:=hy;rw[h2];have:=rowF_is h h2;rw[hx]at this;exact this.symm
end Bd
namespace F
open Go.RowKit
open T
end F
end Go.Proofs.YtkhbiaaangnkdaaGreatDoor
