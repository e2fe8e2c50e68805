import Derived.Test.YtkhbiaaangnkdaaGreatDoorJ23
import Derived.Test.YtkhbiaaangnkdaaGreatDoorJ10
import Derived.Deep.QuietTactic
import Derived.BigQuiet
import Derived.Laws.BitsAllLaws
import Derived.Maps.AppendAt
namespace Go.Proofs.YtkhbiaaangnkdaaGreatDoor
open Go.RowKit
theorem grown_of {w w':World}(h:Below w.heap.size w w')(row:Option Nat):w.grownBy w' row:=⟨h.os,h.tape,h.output,h.size,fun k hk _=>h.block k hk⟩
theorem grown_set (w:World)(k o:Nat)(v:Value):w.grownBy (w.setCell ⟨k,o,none⟩ v) (some k):=
 ⟨rfl,rfl,rfl,by simp,fun i _ hne=>Below.heap_setCell _ _ _ _ (fun e=>hne (by rw[e]))⟩
theorem Box.kept {w w':World}{k r:Nat}{cs:Array Value}{t:TypeId}(h:Box w k cs t)(hg:w.grownBy w' (some r))(hne:k≠r):Box w' k cs t:=(hg.block k h.lt (fun e=>hne (by simpa using e))).trans h
theorem Box.set {w:World}{k:Nat}{cs:Array Value}{t:TypeId}(h:Box w k cs t)(j:Nat)(v:Value):Box (w.setCell ⟨k,j,none⟩ v) k (cs.setIfInBounds j v) t:=by
 unfold Box at*;exact heap_setCell_same w k j cs t v h
theorem Box.next (w:World)(o:Obj)(cs:Array Value)(t:TypeId):Box ((w.alloc o).alloc (.cells cs t)) (w.heap.size+1) cs t:=by
 have:=Box.new (w.alloc o) cs t
 rwa [World.size_alloc]at this
end Go.Proofs.YtkhbiaaangnkdaaGreatDoor
