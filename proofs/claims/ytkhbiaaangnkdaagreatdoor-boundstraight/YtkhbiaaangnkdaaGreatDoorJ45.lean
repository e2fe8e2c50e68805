import Derived.Test.YtkhbiaaangnkdaaGreatDoorJ44
import Derived.Test.YtkhbiaaangnkdaaGreatDoorJ40
import Derived.BigFrame
namespace Go.Proofs.YtkhbiaaangnkdaaGreatDoor
namespace C
open Go.RowKit
open T (Sep Ob Kp Mf TgIn boxOb Fm Tc Ed Vl Cp Bx tgOb mRow updV flt)
def ThG (n:Nat)(g:PGate):Prop:=0≤g.c∧g.c<n∧g.args.length≤7∧g.res.length≤7
def ThI (i:Ins):Prop:=0≤i.a∧i.a<16∧0≤i.b∧i.b<16∧0≤i.c∧i.c≤255
structure Th (m:PImg):Prop where
 gates:∀g∈m.gates,ThG m.comps.length g
 roots:∀c∈m.comps,∀r∈c.roots,0≤r.r∧r.r<16
 code:∀c∈m.comps,∀i∈c.code,ThI i
 ne:0<m.gates.length
theorem th_of (m:PImg)(h:m.right=0)(hr:m.Rng):Th m:=by
 have hP:POk (bare m):=pok_of m h hr;refine⟨fun g hg=>?_,fun c hc r hx=>?_,fun c hc i hi=>?_,?_⟩
 ·obtain⟨k,hk,rfl⟩:=List.getElem_of_mem hg;obtain⟨h1,h2,_,_,h3,h4⟩:=hP.gates k hk;exact⟨h1,h2,h3,h4⟩
 ·obtain⟨k,hk,rfl⟩:=List.getElem_of_mem hc;have:=(hP.roots k).2 r (by rw[rootsOf_at (bare m) k hk];exact hx);exact⟨by omega,this.2.1⟩
 ·obtain⟨k,hk,rfl⟩:=List.getElem_of_mem hc;have:=(hP.code k).2 i (by rw[codeOf_at (bare m) k hk];exact hi);exact⟨this.ra.1,this.ra.2,this.rb.1,this.rb.2,this.rc.1,by have:=this.rc.2;omega⟩
 ·unfold PImg.right at h
  split at h
  ·rename_i hc
   simp only[countsB,Bool.and_eq_true,decide_eq_true_eq]at hc;omega
  ·omega
end C
namespace Q
open Go.RowKit
theorem ins_len (x:Ins):x.vals.length=5:=rfl
theorem typ_len (x:PTyp):x.vals.length=7:=rfl
theorem typ_one (x:PTyp):∀v∈x.vals,v.oneCell'=true:=by
 intro v h;simp only[PTyp.vals,List.mem_cons,List.not_mem_nil,or_false]at h;rcases h with rfl|rfl|rfl|rfl|rfl|rfl|rfl<;>rfl
end Q
end Go.Proofs.YtkhbiaaangnkdaaGreatDoor
