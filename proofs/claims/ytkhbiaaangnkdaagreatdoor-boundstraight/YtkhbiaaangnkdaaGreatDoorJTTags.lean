import Derived.Test.YtkhbiaaangnkdaaGreatDoorJ20
import Derived.Deep.AppendLies
namespace Go.Proofs.YtkhbiaaangnkdaaGreatDoor
namespace T
open Go.RowKit
theorem info_parts' {t:TypeId}{z:Value}{s b:Nat}(h:(Tryz.prog.info? t).map (fun i=>(i.zero,i.size,i.bytes))=some (some z,s,b)):
 ∃i,Tryz.prog.info? t=some i∧i.zero=some z∧i.size=s∧i.bytes=b:=by
 obtain⟨i,hi,he⟩:=Option.map_eq_some_iff.1 h;simp only[Prod.mk.injEq]at he;exact⟨i,hi,he.1,he.2.1,he.2.2⟩
theorem Below.of_grown {B:Nat}{w w1:World}{row:Option Nat}(h:w.grownBy w1 row)(hB:B≤w.heap.size)(hr:∀g,row=some g→B≤g):Below B w w1:=
 ⟨h.os,h.tape,h.output,h.size,fun k hk=>h.block k (Nat.lt_of_lt_of_le hk hB) (fun e=>by have:=hr k e.symm;omega)⟩
theorem drewN_below (w:World)(n:Nat):Below w.heap.size w (w.drewN n):=by
 induction n with
 |zero=>exact Below.refl _ _
 |succ n ih=>exact Below.drew ih
end T
end Go.Proofs.YtkhbiaaangnkdaaGreatDoor
