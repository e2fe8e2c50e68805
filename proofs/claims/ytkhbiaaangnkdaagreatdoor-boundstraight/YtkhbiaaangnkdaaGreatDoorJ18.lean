import Derived.Test.YtkhbiaaangnkdaaGreatDoorJ17
namespace Go.Proofs.YtkhbiaaangnkdaaGreatDoor
set_option maxRecDepth 100000
set_option maxHeartbeats 40000000
namespace T
open Go.RowKit
theorem Gf.below {S:Nat→Prop}{w w':World}{a:Nat}(h:Below w.heap.size w w')(ha:a<w.heap.size):Gf S S w w' a:=
 ⟨fun _ q=>q,fun _ q=>.inl q,Kp.of_below h,fun o _=>⟨h.cell (p:=⟨a,o,none⟩) ha,h.frozen (p:=⟨a,o,none⟩) ha⟩⟩
structure Rdy (S:Nat→Prop)(w W:World)(a i n:Nat)(c:Cp)(t:Nat→Option Cp)(k:Nat):Prop where
 go:∃S' cg,Cg S' W a cg t∧cg i=some k∧Gf S S' w W a
 five:At W n #[.int .u64 c.b,.int .u64 c.e,.int .u64 c.c,.int .u8 c.p,.int .i64 c.s]
theorem Rdy.drew {S:Nat→Prop}{w W:World}{a i n:Nat}{c:Cp}{t:Nat→Option Cp}{k:Nat}(h:Rdy S w W a i n c t k):Rdy S w W.drew a i n c t k:=by
 obtain⟨⟨S',cg,g1,g2,g3⟩,g4⟩:=h;exact⟨⟨S',cg,g1.gr (Below.drew (Below.refl _ _)),g2,g3.trans (Gf.below (Below.drew (Below.refl _ _)) g1.lt)⟩,g4.drew⟩
theorem hold_any (S:Nat→Prop)(a addr:Nat)(t:Nat→Option Cp)(c:Cp)(w:World)(h:CgIn S w a t)(ha:addr<65536):
 Calls Tryz.prog 136 #[.pointer (some ⟨a,64,none⟩),.int .u64 addr,c.agg] w fun x w'=>x=.returned (.tuple #[])∧∃S',CgIn S' w' a (updT t (addr/16) (some c))∧Gf S S' w w' a:=by
 obtain⟨cg,h⟩:=h;have h1:=(h.box (addr/1024) (by omega)).1;have f1:=(h.box (addr/1024) (by omega)).2;have hlt:=h.lt;have fin:∀k W,Rdy S w W a (addr/1024) w.heap.size c t k→∃S',CgIn S' (set6 W k (addr%1024/16*6) (some c)).drew a (updT t (addr/16) (some c))∧Gf S S' w (set6 W k (addr%1024/16*6) (some c)).drew a:=by
  rintro k W ⟨⟨S',cg',g1,g2,g3⟩,g4⟩;have q1:=g1.put addr k (some c) ha g2;exact⟨S',⟨cg',q1.gr (Below.drew (Below.refl _ _))⟩,(g3.trans (g1.put_gf addr k _ (some c) ha g2)).trans (Gf.below (Below.drew (Below.refl _ _)) q1.lt)⟩
 have hA:∀k W,Rdy S w W a (addr/1024) w.heap.size c t k→Calls Tryz.prog 133 #[.pointer (some ⟨a,64,none⟩),.int .u64 addr] W fun x w'=>x=.returned (.pointer (some ⟨k,addr%1024/16*6,none⟩))∧w'=W:=by
  rintro k W ⟨⟨S',cg',g1,g2,g3⟩,g4⟩;exact at_some S' a addr k cg' t W g1 ha g2
 have hC:∀k W,Rdy S w W a (addr/1024) w.heap.size c t k→(W.cell? ⟨w.heap.size,0,none⟩=some (.int .u64 c.b)∧W.cell? ⟨w.heap.size,1,none⟩=some (.int .u64 c.e)∧W.cell? ⟨w.heap.size,2,none⟩=some (.int .u64 c.c)∧W.cell? ⟨w.heap.size,3,none⟩=some (.int .u8 c.p)∧W.cell? ⟨w.heap.size,4,none⟩=some (.int .i64 c.s))∧(∃p,Six W k (addr%1024/16*6) p)∧∀o,W.frozen? ⟨k,o,none⟩=false:=by
  rintro k W ⟨⟨S',cg',g1,g2,g3⟩,g4⟩;have hp:=g1.page _ k (by omega) g2;exact⟨⟨g4.2.1 0,g4.2.1 1,g4.2.1 2,g4.2.1 3,g4.2.1 4⟩,⟨_,hp.2.2.1 (addr%1024/16) (by omega)⟩,hp.2.2.2⟩
 cases e:cg (addr/1024)with
 |none=>
  have r:Rdy S w (((w.setCell ⟨a,64+addr/1024,none⟩ (.pointer (some ⟨w.heap.size+1,0,none⟩))).alloc (.cells #[.int .u64 c.b,.int .u64 c.e,.int .u64 c.c,.int .u8 c.p,.int .i64 c.s] 73)).alloc (.cells capZero 253)) a (addr/1024) w.heap.size c t (w.heap.size+1):=by
   have hB:Below w.heap.size w (w.alloc (.cells #[.int .u64 c.b,.int .u64 c.e,.int .u64 c.c,.int .u8 c.p,.int .i64 c.s] 73)):=(Below.refl _ w).alloc (Nat.le_refl _) _;have g:=h.gr hB;have g1:=g.lay (addr/1024) 253 (by omega) e;have g2:=g.lay_gf (addr/1024) (.cells capZero 253) (.pointer (some ⟨w.heap.size+1,0,none⟩));rw[World.size_alloc,World.setCell_alloc_past _ _ _ _ hlt]at g1;rw[World.size_alloc,World.setCell_alloc_past _ _ _ _ hlt]at g2;refine⟨⟨_,_,g1,by simp,(Gf.below hB hlt).trans g2⟩,?_⟩;exact(At.at_ _ _ _ (by simp)).alloc _
  rw[e]at h1;simp only[ptr,Option.map_none]at h1;have pz:=capPage_zero;replace h:=Hid.mk h;replace fin:=Hid.mk fin;replace r:=Hid.mk r;unfold Cp.agg;go_enter Tryz.func136,Tryz.ntmps136;go_wp2_with fail;refine wp_world (fun W=>Hid (Rdy S w W a (addr/1024) w.heap.size c t (w.heap.size+1))) r ?_;intro W r';obtain⟨⟨d0,d1,d2,d3,d4⟩,⟨p,q0,q1,q2,q3,q4,q5⟩,q6⟩:=hC _ W r'.out;have hA':=hA _ W.drew r'.out.drew;clear hA hC pz h1 f1;go_region_with (refine hA'.mono ?_;rintro x w1 ⟨rfl,rfl⟩)
  all_goals
   go_wp2_with fail;go_end0;exact⟨rfl,fin.out _ _ r'.out⟩
 |some k=>
  have hB:Below w.heap.size w (w.alloc (.cells #[.int .u64 c.b,.int .u64 c.e,.int .u64 c.c,.int .u8 c.p,.int .i64 c.s] 73)):=(Below.refl _ w).alloc (Nat.le_refl _) _;have r:Rdy S w (w.alloc (.cells #[.int .u64 c.b,.int .u64 c.e,.int .u64 c.c,.int .u8 c.p,.int .i64 c.s] 73)) a (addr/1024) w.heap.size c t k:=⟨⟨S,cg,h.gr hB,e,Gf.below hB hlt⟩,At.new w _ _⟩;rw[e]at h1;simp only[ptr,Option.map_some]at h1;replace h:=Hid.mk h;replace fin:=Hid.mk fin;replace r:=Hid.mk r;unfold Cp.agg;go_enter Tryz.func136,Tryz.ntmps136;go_wp2_with fail;refine wp_world (fun W=>Hid (Rdy S w W a (addr/1024) w.heap.size c t k)) r ?_;intro W r';obtain⟨⟨d0,d1,d2,d3,d4⟩,⟨p,q0,q1,q2,q3,q4,q5⟩,q6⟩:=hC _ W r'.out;have hA':=hA _ W.drew r'.out.drew;clear hA hC h1 f1;go_region_with (refine hA'.mono ?_;rintro x w1 ⟨rfl,rfl⟩)
  all_goals
   go_wp2_with fail;go_end0;exact⟨rfl,fin.out _ _ r'.out⟩
def offT (t:Nat→Option Cp)(addr e:Nat):Nat→Option Cp:=fun g=>if addr<e∧addr/16≤g∧g*16<e then none else t g
theorem offT_done (t:Nat→Option Cp)(addr e:Nat)(h:¬addr<e):offT t addr e=t:=by
 funext g;simp[offT,h]
theorem offT_step (t:Nat→Option Cp)(addr e:Nat)(h:addr<e):offT t addr e=offT (updT t (addr/16) none) (addr+(16 - addr%16)) e:=by
 funext g
 unfold offT updT;by_cases h1:addr/16≤g∧g*16<e
 ·rw[if_pos ⟨h,h1⟩];by_cases h2:g=addr/16
  ·rw[if_pos h2];split<;>rfl
  ·rw[if_pos];omega
 ·rw[if_neg (by omega),if_neg (by omega),if_neg (by omega)]
theorem updT_none (t:Nat→Option Cp)(g:Nat)(h:t g=none):updT t g none=t:=by
 funext x;unfold updT;split
 ·subst_vars;exact h.symm
 ·rfl
theorem forget_any (S:Nat→Prop)(a addr size:Nat)(t:Nat→Option Cp)(w:World)(h:CgIn S w a t)(ha:addr+size≤65536):
 Calls Tryz.prog 94 #[.pointer (some ⟨a,64,none⟩),.int .u64 addr,.int .u64 size] w fun x w'=>x=.returned (.tuple #[])∧CgIn S w' a (offT t addr (addr+size))∧Gf S S w w' a:=by
 have m0:IntKind.u64.wrap ((addr:Int)+size)=(addr:Int)+size:=by rw[IntKind.wrap_u64];omega
 replace h:=Hid.mk h;go_enter Tryz.func94,Tryz.ntmps94;go_wp2_with fail;go_loopw [6] (fun i wr=>∃(j:Nat) (t':Nat→Option Cp),i=.int .u64 j∧j≤65552∧CgIn S wr a t'∧offT t' j (addr+size)=offT t addr (addr+size)∧Gf S S w wr a) (fun i _=>addr+size - (intOf i).toNat)
 case atStart=>exact⟨addr,t,rfl,by omega,h.out,rfl,Gf.refl S w a⟩
 case round=>
  obtain⟨j,t',rfl,hj,h1,ho,hf⟩:=hrel;by_cases hlt:j<addr+size
  ·have jl:(j:Int)<(addr:Int)+size:=by omega
   have m1:IntKind.u64.wrap (16 - (j:Int)%16)=16 - (j:Int)%16:=by rw[IntKind.wrap_u64];omega
   have m2:IntKind.u64.wrap ((j:Int)+(16 - (j:Int)%16))=((j+(16 - j%16):Nat):Int):=by rw[IntKind.wrap_u64];omega
   have hs:=offT_step t' j (addr+size) hlt;obtain⟨cg,h1⟩:=h1
   cases e:cg (j/1024)with
   |none=>
    have hz:=h1.zero (j/1024) (by omega) e (j%1024/16) (by omega);rw[show j/1024*64+j%1024/16=j/16 by omega]at hz;rw[updT_none t' _ hz,ho]at hs;have hA:=at_none S a j cg t' wr h1 (by omega) e;replace hf:=Hid.mk hf;replace h1:=Hid.mk h1;replace hs:=Hid.mk hs;replace ho:=Hid.mk ho;go_wp2_with fail;refine hA.mono ?_;rintro x w1 ⟨rfl,rfl⟩;go_wp2_with fail;exact⟨⟨j+(16 - j%16),t',by rw[Int.natCast_add],by omega,⟨cg,h1.out⟩,hs.out.symm,hf.out⟩,by simp[intOf];omega⟩
   |some k=>
    have hp:=h1.page (j/1024) k (by omega) e;have h6:=hp.2.2.1 (j%1024/16) (by omega);have f6:=hp.2.2.2;rw[ho]at hs;have hA:=at_some S a j k cg t' wr h1 (by omega) e;have q1:=h1.put j k none (by omega) e;have q2:=hf.trans (h1.put_gf j k (j%1024/16*6) none (by omega) e);obtain⟨c0,c1,c2,c3,c4,c5⟩:=h6;replace hf:=Hid.mk hf;replace h1:=Hid.mk h1;replace hs:=Hid.mk hs;replace ho:=Hid.mk ho;replace hp:=Hid.mk hp;replace q1:=Hid.mk q1;replace q2:=Hid.mk q2;go_wp2_with fail;refine hA.mono ?_;rintro x w1 ⟨rfl,rfl⟩;go_wp2_with fail;exact⟨⟨j+(16 - j%16),_,by rw[Int.natCast_add],by omega,⟨cg,q1.out⟩,hs.out.symm,q2.out⟩,by simp[intOf];omega⟩
  ·have jl:¬(j:Int)<(addr:Int)+size:=by omega
   have h2:=h1;rw[←offT_done t' j (addr+size) hlt,ho]at h2;replace hf:=Hid.mk hf;replace h1:=Hid.mk h1;replace h2:=Hid.mk h2;replace ho:=Hid.mk ho;go_wp2_with fail;go_end0;exact⟨rfl,h2.out,hf.out⟩
end T
end Go.Proofs.YtkhbiaaangnkdaaGreatDoor
