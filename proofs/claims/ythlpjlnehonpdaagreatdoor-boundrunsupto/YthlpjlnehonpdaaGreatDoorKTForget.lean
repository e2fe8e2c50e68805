import Derived.Test.YthlpjlnehonpdaaGreatDoorK07
namespace Go.Proofs.YthlpjlnehonpdaaGreatDoor
set_option maxRecDepth 100000
set_option maxHeartbeats 40000000
namespace T
open Go.RowKit
def offT (t:Nat→Option Cp)(addr e:Nat):Nat→Option Cp:=fun g=>if addr<e∧addr/16≤g∧g*16<e then none else t g
theorem offT_done (t:Nat→Option Cp)(addr e:Nat)(h:¬addr<e):offT t addr e=t:=by
 funext g;simp[offT,h]
theorem offT_step (t:Nat→Option Cp)(addr e:Nat)(h:addr<e):offT t addr e=offT (updT t (addr/16) none) (addr+(16 - addr%16)) e:=by
 funext g
 unfold offT updT;by_cases h1:addr/16≤g∧g*16<e
 ·rw[if_pos ⟨h,h1⟩];by_cases h2:g=addr/16
  ·rw[if_pos h2];split<;>rfl
  ·rw[if_pos];omega
 ·rw[if_neg (by omega),if_neg (by omega),if_neg (by omega)]
theorem updT_none (t:Nat→Option Cp)(g:Nat)(h:t g=none):updT t g none=t:=by
 funext x;unfold updT;split
 ·subst_vars;exact h.symm
 ·rfl
theorem forget_any (S:Nat→Prop)(a addr size:Nat)(t:Nat→Option Cp)(w:World)(h:CgIn S w a t)(ha:addr+size≤65536):
 Calls Tryz.prog 106 #[.pointer (some ⟨a,64,none⟩),.int .u64 addr,.int .u64 size] w fun x w'=>x=.returned (.tuple #[])∧CgIn S w' a (offT t addr (addr+size))∧Gf S S w w' a:=by
 have m0:IntKind.u64.wrap ((addr:Int)+size)=(addr:Int)+size:=by rw[IntKind.wrap_u64];omega
 replace h:=Hid.mk h;go_enter Tryz.func106,Tryz.ntmps106;go_wp2_with fail;go_loopw [6] (fun i wr=>∃(j:Nat) (t':Nat→Option Cp),i=.int .u64 j∧j≤65552∧CgIn S wr a t'∧offT t' j (addr+size)=offT t addr (addr+size)∧Gf S S w wr a) (fun i _=>addr+size - (intOf i).toNat)
 case atStart=>exact⟨addr,t,rfl,by omega,h.out,rfl,Gf.refl S w a⟩
 case round=>
  obtain⟨j,t',rfl,hj,h1,ho,hf⟩:=hrel;by_cases hlt:j<addr+size
  ·have jl:(j:Int)<(addr:Int)+size:=by omega
   have m1:IntKind.u64.wrap (16 - (j:Int)%16)=16 - (j:Int)%16:=by rw[IntKind.wrap_u64];omega
   have m2:IntKind.u64.wrap ((j:Int)+(16 - (j:Int)%16))=((j+(16 - j%16):Nat):Int):=by rw[IntKind.wrap_u64];omega
   have hs:=offT_step t' j (addr+size) hlt;obtain⟨cg,h1⟩:=h1
   cases e:cg (j/1024)with
   |none=>
    have hz:=h1.zero (j/1024) (by omega) e (j%1024/16) (by omega);rw[show j/1024*64+j%1024/16=j/16 by omega]at hz;rw[updT_none t' _ hz,ho]at hs;have hA:=at_none S a j cg t' wr h1 (by omega) e;replace hf:=Hid.mk hf;replace h1:=Hid.mk h1;replace hs:=Hid.mk hs;replace ho:=Hid.mk ho;go_wp2_with fail;refine hA.mono ?_;rintro x w1 ⟨rfl,rfl⟩;go_wp2_with fail;exact⟨⟨j+(16 - j%16),t',by rw[Int.natCast_add],by omega,⟨cg,h1.out⟩,hs.out.symm,hf.out⟩,by simp[intOf];omega⟩
   |some k=>
    have hp:=h1.page (j/1024) k (by omega) e;have h6:=hp.2.2.1 (j%1024/16) (by omega);have f6:=hp.2.2.2;rw[ho]at hs;have hA:=at_some S a j k cg t' wr h1 (by omega) e;have q1:=h1.put j k none (by omega) e;have q2:=hf.trans (h1.put_gf j k (j%1024/16*6) none (by omega) e);obtain⟨c0,c1,c2,c3,c4,c5⟩:=h6;replace hf:=Hid.mk hf;replace h1:=Hid.mk h1;replace hs:=Hid.mk hs;replace ho:=Hid.mk ho;replace hp:=Hid.mk hp;replace q1:=Hid.mk q1;replace q2:=Hid.mk q2;go_wp2_with fail;refine hA.mono ?_;rintro x w1 ⟨rfl,rfl⟩;go_wp2_with fail;exact⟨⟨j+(16 - j%16),_,by rw[Int.natCast_add],by omega,⟨cg,q1.out⟩,hs.out.symm,q2.out⟩,by simp[intOf];omega⟩
  ·have jl:¬(j:Int)<(addr:Int)+size:=by omega
   have h2:=h1;rw[←offT_done t' j (addr+size) hlt,ho]at h2;replace hf:=Hid.mk hf;replace h1:=Hid.mk h1;replace h2:=Hid.mk h2;replace ho:=Hid.mk ho;go_wp2_with fail;go_end0;exact⟨rfl,h2.out,hf.out⟩
end T
end Go.Proofs.YthlpjlnehonpdaaGreatDoor
