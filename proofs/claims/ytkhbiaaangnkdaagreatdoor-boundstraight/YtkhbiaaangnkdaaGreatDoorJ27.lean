import Derived.Test.YtkhbiaaangnkdaaGreatDoorJ26
import Derived.Test.YtkhbiaaangnkdaaGreatDoorJ25
namespace Go.Proofs.YtkhbiaaangnkdaaGreatDoor
open Go.RowKit
theorem own_slice {w:World}{base e size n:Nat}{v:Value}{xs:List Value}(h:w.ownsRow base e size v n xs):∃a c,v=.slice a n c:=by
 rcases h.2 with⟨rfl,h0⟩|⟨g,cap,cur,rfl,_⟩
 ·exact⟨none,0,by rw[h0]⟩
 ·exact⟨_,cap,rfl⟩
theorem fR_ranges (op a b c m:Int)(s:List UInt8)(hs:s∈shapes)(h:fR op s 0 a b c m=true):
 (0≤a∧a<256)∧(0≤b∧b<256)∧(0≤c∧c<256)∧(-2147483648≤m∧m≤2147483647):=by
 simp only[shapes,List.mem_cons,List.not_mem_nil,or_false]at hs;by_cases h28:op=28
 ·rcases hs with rfl|rfl|rfl|rfl|rfl|rfl|rfl|rfl|rfl|rfl|rfl|rfl|rfl|rfl|rfl|rfl|rfl|rfl<;>
   (simp[fR,inE,hiE,loE,h28]at h;omega)
 ·by_cases h70:op=70∨op=71
  ·have e:¬(op≠70∧op≠71):=by omega
   rcases hs with rfl|rfl|rfl|rfl|rfl|rfl|rfl|rfl|rfl|rfl|rfl|rfl|rfl|rfl|rfl|rfl|rfl|rfl<;>
    (simp[fR,inE,hiE,loE,h28,e]at h;omega)
  ·have e:¬op=70∧¬op=71:=by omega
   rcases hs with rfl|rfl|rfl|rfl|rfl|rfl|rfl|rfl|rfl|rfl|rfl|rfl|rfl|rfl|rfl|rfl|rfl|rfl<;>
    (simp[fR,inE,hiE,loE,h28,e]at h;omega)
theorem right_ranges {k:Ins}(h1:k.op<256)(h:k.right=0):
 (0≤k.a∧k.a<256)∧(0≤k.b∧k.b<256)∧(0≤k.c∧k.c<256)∧(-2147483648≤k.m∧k.m≤2147483647):=by
 unfold Ins.right rightF at h
 split at h
 ·omega
 ·unfold errOf at h
  split at h
  ·rename_i hf
   exact fR_ranges _ _ _ _ _ _ (shape_in _ h1) hf
  ·omega
end Go.Proofs.YtkhbiaaangnkdaaGreatDoor
