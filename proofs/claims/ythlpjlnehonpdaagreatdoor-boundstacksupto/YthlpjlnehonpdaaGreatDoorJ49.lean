import Derived.Test.YthlpjlnehonpdaaGreatDoorJ48
import Derived.BigFrame
import Derived.Test.YthlpjlnehonpdaaGreatDoorJ40
namespace Go.Proofs.YthlpjlnehonpdaaGreatDoor
namespace Q
open Go.RowKit
end Q
namespace Bd
open Go.RowKit
open T (Kp)
open Q (RgV CpV GtV Sl LsOk TwIn marked instM rootM)
section
variable {kk kr kc kg:Nat} {m:PImg} {lr:List RgV} {lc:List CpV} {lg:List GtV} {w wr:World} {i:Nat}
end
end Bd
set_option maxRecDepth 100000
set_option maxHeartbeats 40000000
namespace Bd
open Go.RowKit
open T (Kp)
open F (rchB)
def oneP (L:List Ins):PImg:=⟨[],[⟨[],L⟩],[⟨0,0,[],[]⟩],1⟩
theorem calL_none {L:List Ins}{e:Int}(h:∀k∈L,k.op≠31):calL L e=[]:=by
 unfold calL;rw[List.map_eq_nil_iff,List.filter_eq_nil_iff];intro pc hp;rw[List.mem_range]at hp;unfold calB;rw[List.getElem?_eq_getElem hp];have:=h _ (List.getElem_mem hp);simp[this]
def cst1 (L:List Ins):Option Cst:=
 match sumS L (stF L (fun _=>0)) 0 with
 |none=>none
 |some s=>if 1099511627776<s then none else some ⟨s,0,(sumS L (inF L (fun _=>0)) 0).getD 0⟩
theorem nxG_one {L:List Ins}(h:∀k∈L,k.op≠31):nxG (oneP L) 0=[]:=calL_none h
theorem gate_one {L:List Ins}(h:∀k∈L,k.op≠31):ev (nxG (oneP L)) (ctF (oneP L)) (List.range (oneP L).gates.length) 0=cst1 L:=by
 have e:=nxG_one h;show evF (nxG (oneP L)) (ctF (oneP L)) 1 0=_;rw[evF_put (vs:=[]) (by rw[e];rfl)];unfold ctF;rw[e]
 rfl
theorem deep_one {L:List Ins}(h:∀k∈L,k.op≠31):ev (nxG (oneP L)) dpF (List.range (oneP L).gates.length) 0=some 0:=by
 have e:=nxG_one h;show evF (nxG (oneP L)) dpF 1 0=_;rw[evF_put (vs:=[]) (by rw[e];rfl)]
 rfl
theorem one_rng {L:List Ins}(h:L.length≤400)(ho:OpsIn L):(oneP L).Rng:=
 ⟨⟨by unfold maxG;simp[oneP],fun r q=>by cases q⟩,⟨by unfold maxG;simp[oneP],fun c q=>by
  have:c=⟨[],L⟩:=by simpa [oneP]using q
  subst this;exact⟨by unfold maxG;simp,by unfold maxI;show L.length≤_;omega,ho,fun k q=>(by cases q)⟩⟩,
  ⟨by unfold maxG;simp[oneP],fun g q=>by
   have:g=⟨0,0,[],[]⟩:=by simpa [oneP]using q
   subst this;exact⟨by unfold J64;show -9223372036854775808≤(0:Int)∧(0:Int)<9223372036854775808;omega,by unfold J64;show -9223372036854775808≤(0:Int)∧(0:Int)<9223372036854775808;omega,by unfold maxG;simp,by unfold maxG;simp,⟨fun k q=>(by cases q),fun k q=>(by cases q)⟩⟩⟩,by show J64 1;unfold J64;omega⟩
def sm1:List Ins:=[⟨1,1,0,0,5⟩,⟨27,1,0,0,0⟩]
def sm2:List Ins:=[⟨29,1,0,0,0⟩,⟨21,1,0,0,4⟩,⟨29,2,0,0,0⟩,⟨30,2,0,0,0⟩,⟨32,0,0,0,0⟩]
def sm3:List Ins:=[⟨11,1,1,0, -1⟩,⟨22,1,0,0,0⟩,⟨32,0,0,0,0⟩]
theorem sm1_c:cst1 sm1=some ⟨2,0,0⟩:=by kernel_rfl
theorem sm2_c:cst1 sm2=some ⟨5,0,2⟩:=by kernel_rfl
theorem sm3_c:cst1 sm3=none:=by kernel_rfl
theorem sm1_h:hgB (oneP sm1) 0=true:=by kernel_rfl
theorem sm2_h:hgB (oneP sm2) 0=true:=by kernel_rfl
theorem sm3_h:hgB (oneP sm3) 0=true:=by kernel_rfl
theorem ops_in (L:List Ins)(h:(L.all fun k=>decide (0≤k.op)&&decide (k.op<256))=true):OpsIn L:=fun k hk=>by
 have:=List.all_eq_true.1 h k hk;simpa using this
theorem one_any (L:List Ins)(ka:Option Addr)(kc:Nat)(w:World)(hL:LIn w.heap.size w ka L):
 Calls Tryz.prog 14 #[.slice ka L.length kc] w fun e w'=>∃c g,e=.returned (imA (oneP L) none 0 (some ⟨c,0,none⟩) 1 (some ⟨g,0,none⟩) 1)∧ImgIn w'.heap.size w' none (some ⟨c,0,none⟩) (some ⟨g,0,none⟩) (oneP L)∧Below w.heap.size w w':=by
 replace hL:=ζ hL;go_enter Tryz.func14,Tryz.ntmps14;go_wp2_with fail;refine bodyPost_ret (v:=.agg #[.slice none 0 0,.slice (some ⟨w.heap.size+1,0,none⟩) 1 1,.slice (some ⟨w.heap.size+1+1,0,none⟩) 1 1,.int .i64 1]) (by simp[results,Tryz.results14,go_sem]) rfl ?_;refine⟨w.heap.size+1,w.heap.size+1+1,rfl,?_,?_⟩
 ·generalize hX:Obj.cells #[Value.slice none 0 0,Value.slice (some {block:=w.heap.size+1,off:=0}) 1 1,Value.slice (some {block:=w.heap.size+1+1,off:=0}) 1 1,Value.int IntKind.i64 1] 40=X;have b1:=bl_alloc w X;have e1:(w.alloc X).heap.size=w.heap.size+1:=by simp
  have a1:=At.new (w.alloc X) #[Value.slice none 0 0,Value.slice ka L.length kc] 32;rw[e1]at a1;generalize hW1:(w.alloc X).alloc (.cells #[Value.slice none 0 0,Value.slice ka L.length kc] 32)=W1 at*;have b2:Below w.heap.size w W1:=by rw[←hW1];exact b1.trans ((bl_alloc _ _).mono (by simp))
  have e2:W1.heap.size=w.heap.size+1+1:=by rw[←hW1];simp
  have a2:=At.new W1 #[Value.int IntKind.i64 0,Value.int IntKind.i64 0,Value.slice none 0 0,Value.slice none 0 0] 36;rw[e2]at a2;have a1':=at_past a1 (bl_alloc W1 (.cells #[Value.int IntKind.i64 0,Value.int IntKind.i64 0,Value.slice none 0 0,Value.slice none 0 0] 36));have b3:=b2.trans ((bl_alloc W1 (.cells #[Value.int IntKind.i64 0,Value.int IntKind.i64 0,Value.slice none 0 0,Value.slice none 0 0] 36)).mono b2.size);refine⟨fun i hi=>absurd hi (by simp[oneP]),fun i hi=>?_,fun i hi=>?_⟩
  ·obtain rfl:i=0:=by simp[oneP]at hi;omega
   exact⟨w.heap.size+1,0,none,0,ka,kc,rfl,a1'.1,a1'.1,a1'.2.1 0,a1'.2.1 1,FIn.nil _ _ _ _ _,(hL.out.below b3).mono b3.size⟩
  ·obtain rfl:i=0:=by simp[oneP]at hi;omega
   exact⟨w.heap.size+1+1,0,none,0,none,0,rfl,a2.1,a2.1,a2.2.1 0,a2.2.1 1,a2.2.1 2,a2.2.1 3,FIn.nil _ _ _ _ _,FIn.nil _ _ _ _ _⟩
 ·exact(bl_alloc _ _).trans (((bl_alloc _ _).mono (by simp)).trans ((bl_alloc _ _).mono (by simp<;>omega)))
end Bd
end Go.Proofs.YthlpjlnehonpdaaGreatDoor
