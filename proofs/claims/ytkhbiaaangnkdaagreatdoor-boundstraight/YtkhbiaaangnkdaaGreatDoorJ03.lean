import Derived.Test.YtkhbiaaangnkdaaGreatDoorJ02
import Derived.Deep.Slices
import Derived.SizedLaws
namespace Go.Proofs.YtkhbiaaangnkdaaGreatDoor
set_option maxRecDepth 100000
set_option maxHeartbeats 40000000
open Go.RowKit
theorem str_list (l:List UInt8):(str l).toList=l:=by
 rw[ByteArray.toList_eq];rfl
theorem Right_any (op a b c m:Int)(w:World)(ht:TabIn w)(h0:0≤op)(h1:op<256):
 Calls Tryz.prog 84 #[.agg #[.int .u8 op,.int .i64 a,.int .i64 b,.int .i64 c,.int .i64 m]] w fun x w'=>x=.returned (.int .i64 (rightF op a b c m))∧Gr w w':=by
 have hn:=Name_any op (w.alloc (.cells #[.int .u8 op,.int .i64 a,.int .i64 b,.int .i64 c,.int .i64 m] 29)) (ht.gr ((Gr.refl w).alloc _)) h0 h1;have hf:=fieldsRight_any op a b c m (w.alloc (.cells #[.int .u8 op,.int .i64 a,.int .i64 b,.int .i64 c,.int .i64 m] 29)) (ht.gr ((Gr.refl w).alloc _)) h0 h1;unfold rightF;generalize fR op (shapeOf op) 0 a b c m=ok at*;generalize nameOf op=nm at*;have sl:=str_list;by_cases hm:nm=[]
 ·subst hm;rw[if_pos rfl];go_enter Tryz.func84,Tryz.ntmps84;go_wp2_with(go_at_call 129;refine hn.mono ?_;rintro x w' ⟨rfl,rfl⟩);go_ret;exact⟨rfl,(Gr.refl w).alloc _⟩
 ·rw[if_neg hm];have hq:nm.isEmpty=false:=by simpa using hm
  cases ok with
  |true=>
   go_enter Tryz.func84,Tryz.ntmps84;go_wp2_with(first|(go_at_call 129;refine hn.mono ?_;rintro x w' ⟨rfl,rfl⟩)|(go_at_call 130;refine hf.mono ?_;rintro x w' ⟨rfl,hG⟩));go_ret;exact⟨rfl,hG.of_alloc⟩
  |false=>
   go_enter Tryz.func84,Tryz.ntmps84;go_wp2_with(first|(go_at_call 129;refine hn.mono ?_;rintro x w' ⟨rfl,rfl⟩)|(go_at_call 130;refine hf.mono ?_;rintro x w' ⟨rfl,hG⟩));go_ret;exact⟨rfl,hG.of_alloc⟩
def Ins.right (k:Ins):Int:=rightF k.op k.a k.b k.c k.m
def OpsIn (L:List Ins):Prop:=∀k∈L,0≤k.op∧k.op<256
def maxI:Nat:=3518437208883
open Go.ChangeShapes Go.WideShapes Go.ChangeAt Go.RowKit Go.Deep
theorem addr_add (b off k:Nat):(⟨b,off,none⟩:Addr).add k=⟨b,off+k,none⟩:=by by_cases h:k=0<;>simp[Addr.add,h]
theorem choose_list {α:Type}(p:Nat→α→Prop):∀n,(∀i,i<n→∃k,p i k)→∃L:List α,L.length=n∧∀i (h:i<L.length),p i L[i]
 |0,_=>⟨[],rfl,fun i h=>by simp at h⟩
 |n+1,h=>by
  obtain⟨L,hl,hL⟩:=choose_list p n (fun i hi=>h i (by omega));obtain⟨k,hk⟩:=h n (by omega);refine⟨L++[k],by simp[hl],fun i hi=>?_⟩;by_cases hin:i<L.length
  ·rw[List.getElem_append_left hin];exact hL i hin
  ·have:i=n:=by simp at hi;omega
   subst this;rw[List.getElem_append_right (by omega)];simpa [hl]using hk
end Go.Proofs.YtkhbiaaangnkdaaGreatDoor
