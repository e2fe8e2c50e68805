import Derived.Test.YthlpjlnehonpdaaGreatDoorK13
import Derived.Test.YthlpjlnehonpdaaGreatDoorK03
import Derived.Deep.RegionHeld3
import Derived.StillTactics
import Derived.Deep.QuietTactic
import Derived.BigQuiet
import Derived.BigRegion
import Derived.Laws.BitsAllLaws
import Derived.Maps.AppendAt
namespace Go.Proofs.YthlpjlnehonpdaaGreatDoor
open Go.RowKit
def Box (w:World)(k:Nat)(cs:Array Value)(t:TypeId):Prop:=w.heap[k]?=some (.cells cs t (0,0))
theorem Box.new (w:World)(cs:Array Value)(t:TypeId):Box (w.alloc (.cells cs t)) w.heap.size cs t:=(MapKept.heap_alloc w _).1
theorem Box.lt {w:World}{k:Nat}{cs:Array Value}{t:TypeId}(h:Box w k cs t):k<w.heap.size:=(Array.getElem?_eq_some_iff.1 h).1
theorem Box.below {w w1:World}{k B:Nat}{cs:Array Value}{t:TypeId}(h:Box w k cs t)(hb:Below B w w1)(hk:k<B):Box w1 k cs t:=(hb.block k hk).trans h
theorem Box.gr {w w1:World}{k:Nat}{cs:Array Value}{t:TypeId}(h:Box w k cs t)(hb:Gr w w1):Box w1 k cs t:=h.below hb.below h.lt
theorem Box.alloc {w:World}{k:Nat}{cs:Array Value}{t:TypeId}(h:Box w k cs t)(o:Obj):Box (w.alloc o) k cs t:=h.gr ((Gr.refl w).alloc o)
theorem Box.at {w:World}{k:Nat}{cs:Array Value}{t:TypeId}(h:Box w k cs t):At w k cs:=one_at h
set_option maxRecDepth 100000
set_option maxHeartbeats 40000000
theorem extract_any (S:List UInt8)(i j:Nat):(str S).extract i j=str ((S.take j).drop i):=by
 apply ByteArray.ext;simp[str,ByteArray.data_extract];rw[List.drop_take]
theorem ends_last (d:List UInt8)(h:0<d.length):(((str d).extract (d.length - 1) d.length).toList==(str [0]).toList)=endsNought d:=by
 rw[extract_any,str_list,str_list,List.take_length];have e:d.drop (d.length - 1)=[d[d.length - 1]]:=by
  rw[List.drop_eq_getElem_cons (by omega)];have:d.drop (d.length - 1+1)=[]:=by rw[List.drop_eq_nil_iff];omega
  rw[this]
 rw[e];unfold endsNought;rw[List.getLast?_eq_getElem?,List.getElem?_eq_getElem (by omega)];simp
theorem liteSuffix_any (d:List UInt8)(w:World)(hd:d.length≤9223372036854775807):
 Calls Tryz.prog 138 #[.string (str d),.string (str [0])] w fun x w'=>x=.returned (.bool (endsNought d))∧w=w':=by
 have ss:=str_size d;have s1:(str [0]).size=1:=rfl;by_cases h:0<d.length
 ·have e:=ends_last d h;have h1:(1:Int)≤d.length:=by omega
  generalize endsNought d=q at e ⊢;go_enter Tryz.func138,Tryz.ntmps138;go_wp2;go_ret;exact⟨ret_bool rfl,rfl⟩
 ·have e:d=[]:=List.eq_nil_of_length_eq_zero (by omega);subst e;go_enter Tryz.func138,Tryz.ntmps138;go_wp2;go_ret;exact⟨rfl,rfl⟩
theorem HasSuffix_any (d:List UInt8)(w:World)(hd:d.length≤9223372036854775807):
 Calls Tryz.prog 92 #[.string (str d),.string (str [0])] w fun x w'=>x=.returned (.bool (endsNought d))∧w=w':=by
 have hl:=fun w=>liteSuffix_any d w hd
 generalize endsNought d=q at hl ⊢;go_enter Tryz.func92,Tryz.ntmps92;go_wp2_with(go_at_call 138;refine(hl _).mono ?_;rintro x w' ⟨rfl,rfl⟩);go_ret;exact⟨rfl,rfl⟩
theorem contentRight_any (b n:Int)(d:List UInt8)(a:Option Addr)(k c:Nat)(w:World)(hd:d.length≤9223372036854775807)(hk:k≤140737488355328):
 Calls Tryz.prog 60 #[.agg #[.int .u64 b,.int .u64 n,.string (str d),.slice a k c]] w fun x w'=>x=.returned (.bool (contentB n d k))∧Gr w w':=by
 have hl:=fun w=>HasSuffix_any d w hd
 have ss:=str_size d;have sl:=str_list d;have z0:(⟨#[0]⟩:ByteArray)=str [0]:=rfl;by_cases h:0<k
 ·have e1:IntKind.u64.wrap (16*(k:Int))=16*k:=by rw[IntKind.wrap_u64];omega
  have e2:IntKind.u64.wrap (k:Int)=k:=by rw[IntKind.wrap_u64];omega
  rw[show contentB n d k=(d.isEmpty&&(n==16*(k:Int)))by simp[contentB,h]];have h':(0:Int)<k:=by omega
  go_enter Tryz.func60,Tryz.ntmps60;go_wp2
  all_goals
   go_ret;refine⟨ret_bool (by simp_all<;>(intros;omega)),?_⟩
   (with_reducible repeat(first|exact Gr.refl _|refine Gr.alloc ?_ _|refine Gr.grow ?_ _|refine Gr.drew ?_|refine Gr.setCell ?_ _ _ _ (gr_size ?_)))
 ·have e2:IntKind.u64.wrap (d.length:Int)=d.length:=by rw[IntKind.wrap_u64];omega
  rw[show contentB n d k=(decide ((d.length:Int)≤n)&&!endsNought d)by simp[contentB,h]];generalize endsNought d=q at hl ⊢;obtain rfl:k=0:=by omega
  go_enter Tryz.func60,Tryz.ntmps60;go_wp2_with(go_at_call 92;refine(hl _).mono ?_;rintro x w' ⟨rfl,rfl⟩)
  all_goals
   go_ret;refine⟨ret_bool (by simp_all<;>(intros;omega)),?_⟩
   (with_reducible repeat(first|exact Gr.refl _|refine Gr.alloc ?_ _|refine Gr.grow ?_ _|refine Gr.drew ?_|refine Gr.setCell ?_ _ _ _ (gr_size ?_)))
theorem Gr.drewN {w W:World}(h:Gr w W)(n:Nat):Gr w (W.drewN n):=by
 induction n with
 |zero=>exact h
 |succ n ih=>exact ih.drew
theorem grown_of {w w':World}(h:Below w.heap.size w w')(row:Option Nat):w.grownBy w' row:=⟨h.os,h.tape,h.output,h.size,fun k hk _=>h.block k hk⟩
theorem grown_set (w:World)(k o:Nat)(v:Value):w.grownBy (w.setCell ⟨k,o,none⟩ v) (some k):=
 ⟨rfl,rfl,rfl,by simp,fun i _ hne=>Below.heap_setCell _ _ _ _ (fun e=>hne (by rw[e]))⟩
theorem Box.kept {w w':World}{k r:Nat}{cs:Array Value}{t:TypeId}(h:Box w k cs t)(hg:w.grownBy w' (some r))(hne:k≠r):Box w' k cs t:=(hg.block k h.lt (fun e=>hne (by simpa using e))).trans h
theorem Box.set {w:World}{k:Nat}{cs:Array Value}{t:TypeId}(h:Box w k cs t)(j:Nat)(v:Value):Box (w.setCell ⟨k,j,none⟩ v) k (cs.setIfInBounds j v) t:=by
 unfold Box at*;exact heap_setCell_same w k j cs t v h
theorem Box.next (w:World)(o:Obj)(cs:Array Value)(t:TypeId):Box ((w.alloc o).alloc (.cells cs t)) (w.heap.size+1) cs t:=by
 have:=Box.new (w.alloc o) cs t
 rwa [World.size_alloc]at this
end Go.Proofs.YthlpjlnehonpdaaGreatDoor
