import Derived.Test.YtdidjhillmgccaaGreatP23
import Derived.Test.YtdidjhillmgccaaGreatP22
import Derived.Test.YtdidjhillmgccaaGreatP32
namespace Go.Proofs.YtdidjhillmgccaaGreat
set_option maxRecDepth 100000
set_option maxHeartbeats 40000000
namespace Z
open Go.RowKit
open T (Sep Ob Kp Mf FlIn boxOb)
theorem dbtw (n lo hi:Int)(w:World):
 Calls Tryz.prog 66 #[.int .i64 n,.int .i64 lo,.int .i64 hi] w fun x w'=>Says (lo≤n∧n≤hi) x∧w'=w:=by
 by_cases h1:lo≤n
 ·by_cases h2:n≤hi
  ·skip
   go_enter Tryz.func66,Tryz.ntmps66;go_wp2_with fail;go_ret;exact⟨⟨true,rfl,iff_of_true rfl ⟨by omega,by omega⟩⟩,rfl⟩
  ·skip
   go_enter Tryz.func66,Tryz.ntmps66;go_wp2_with fail;go_ret;exact⟨⟨false,rfl,iff_of_false (by decide) (fun q=>by omega)⟩,rfl⟩
 ·skip
  go_enter Tryz.func66,Tryz.ntmps66;go_wp2_with fail;go_ret;exact⟨⟨false,rfl,iff_of_false (by decide) (fun q=>by omega)⟩,rfl⟩
theorem bool_f {v:Bool}{p:Prop}(h:v=true↔p)(hp:¬p):v=false:=by
 cases v
 ·rfl
 ·exact absurd (h.1 rfl) hp
theorem dnamed (op:Int)(w:World)(h:0≤op∧op<256):
 Calls Tryz.prog 82 #[.int .u8 op] w fun x w'=>Says (Named op) x∧w'=w:=by
 have hw:IntKind.i64.wrap op=op:=by simp[IntKind.wrap,IntKind.bits,IntKind.signed];omega
 have hw2:wrap64 op=op:=by unfold wrap64;omega
 go_enter Tryz.func82,Tryz.ntmps82;go_wp2_with fail;refine(dbtw _ _ _ _).mono ?_;rintro r w0 ⟨⟨v0,rfl,hv0⟩,e1⟩;subst e1;go_wp2_with fail;refine(dbtw _ _ _ _).mono ?_;rintro r w1 ⟨⟨v1,rfl,hv1⟩,e1⟩;subst e1;go_wp2_with fail;refine(dbtw _ _ _ _).mono ?_;rintro r w2 ⟨⟨v2,rfl,hv2⟩,e1⟩;subst e1;go_wp2_with fail;refine(dbtw _ _ _ _).mono ?_;rintro r w3 ⟨⟨v3,rfl,hv3⟩,e1⟩;subst e1;go_wp2_with fail;refine(dbtw _ _ _ _).mono ?_;rintro r w4 ⟨⟨v4,rfl,hv4⟩,e1⟩;subst e1;obtain⟨b,hb⟩:∃b:Bool,b=(v0 || v1 || v2 || v3 || v4):=⟨_,rfl⟩;have hN:Hz (b=true↔Named op):=ζ (by rw[hb];simp only[Bool.or_eq_true,hv0,hv1,hv2,hv3,hv4];unfold Named;omega);clear hv0 hv1 hv2 hv3 hv4 hw hw2 h
 cases v0
 ·skip
  cases v1
  ·skip
   cases v2
   ·skip
    cases v3
    ·skip
     cases v4
     ·skip
      go_wp2_with fail;go_ret;exact⟨⟨_,rfl,by first|exact hN.out|(have:=hN.out;rw[hb]at this;simpa using this)⟩,rfl⟩
     ·skip
      go_wp2_with fail;go_ret;exact⟨⟨_,rfl,by first|exact hN.out|(have:=hN.out;rw[hb]at this;simpa using this)⟩,rfl⟩
    ·skip
     go_wp2_with fail;go_ret;exact⟨⟨_,rfl,by first|exact hN.out|(have:=hN.out;rw[hb]at this;simpa using this)⟩,rfl⟩
   ·skip
    go_wp2_with fail;go_ret;exact⟨⟨_,rfl,by first|exact hN.out|(have:=hN.out;rw[hb]at this;simpa using this)⟩,rfl⟩
  ·skip
   go_wp2_with fail;go_ret;exact⟨⟨_,rfl,by first|exact hN.out|(have:=hN.out;rw[hb]at this;simpa using this)⟩,rfl⟩
 ·skip
  go_wp2_with fail;go_ret;exact⟨⟨_,rfl,by first|exact hN.out|(have:=hN.out;rw[hb]at this;simpa using this)⟩,rfl⟩
theorem dinst_any (i:Ri)(n k:Nat)(w:World)(hi:i.Is)(hl:n≤1000∧k≤1000):
 Calls Tryz.prog 67 #[.agg #[.int .u8 i.op,.int .i64 i.a,.int .i64 i.b,.int .i64 i.c,.int .u64 i.i],.int .i64 n,.int .i64 k] w fun x w'=>Says (i.Ok n k) x∧Gr w w':=by
 obtain⟨op,ia,ib,ic,im⟩:=i;dsimp only at*;have hop:=ζ hi.op;have hn:IntKind.u64.wrap (n:Int)=(n:Int):=by simp[IntKind.wrap,IntKind.bits,IntKind.signed];omega
 have hk:IntKind.u64.wrap (k:Int)=(k:Int):=by simp[IntKind.wrap,IntKind.bits,IntKind.signed];omega
 have hw:IntKind.i64.wrap op=op:=by have:=hop.out;dsimp only at this;simp[IntKind.wrap,IntKind.bits,IntKind.signed];omega
 have hw2:wrap64 op=op:=by have:=hop.out;dsimp only at this;unfold wrap64;omega
 replace hl:=ζ hl;clear hi;by_cases h70:70≤op
 ·skip
  have h31:(op==31)=false:=beq_false_of_ne (by omega);go_enter Tryz.func67,Tryz.ntmps67;go_wp2_with fail;refine(dnamed _ _ hop.out).mono ?_;rintro r w1 ⟨⟨v0,rfl,hv0⟩,e1⟩;subst e1;replace hv0:=ζ hv0;go_wp2_with fail;refine(dbtw _ _ _ _).mono ?_;rintro r w2 ⟨⟨v1,rfl,hv1⟩,e1⟩;subst e1;replace hv1:=ζ hv1;go_wp2_with fail;refine(dbtw _ _ _ _).mono ?_;rintro r w3 ⟨⟨v2,rfl,hv2⟩,e1⟩;subst e1;replace hv2:=ζ hv2;go_wp2_with fail;refine(dbtw _ _ _ _).mono ?_;rintro r w4 ⟨⟨v3,rfl,hv3⟩,e1⟩;subst e1;replace hv3:=ζ hv3;go_wp2_with fail;refine(dbtw _ _ _ _).mono ?_;rintro r w5 ⟨⟨v5,rfl,hv5⟩,e1⟩;subst e1;obtain rfl:v5=false:=bool_f hv5 (by omega);clear hv5
  cases v0
  ·skip
   go_wp2_with fail;go_ret;exact⟨⟨false,rfl,iff_of_false (by decide) (fun q=>absurd (hv0.out.2 q.op) (by decide))⟩,(by first|exact Gr.refl _|exact(Gr.refl _).alloc _)⟩
  ·skip
   cases v1
   ·skip
    go_wp2_with fail;go_ret;exact⟨⟨false,rfl,iff_of_false (by decide) (fun q=>absurd (hv1.out.2 q.fl.1) (by decide))⟩,(by first|exact Gr.refl _|exact(Gr.refl _).alloc _)⟩
   ·skip
    cases v2
    ·skip
     go_wp2_with fail;go_ret;exact⟨⟨false,rfl,iff_of_false (by decide) (fun q=>absurd (hv2.out.2 q.fl.2.1) (by decide))⟩,(by first|exact Gr.refl _|exact(Gr.refl _).alloc _)⟩
    ·skip
     cases v3
     ·skip
      go_wp2_with fail;go_ret;exact⟨⟨false,rfl,iff_of_false (by decide) (fun q=>absurd (hv3.out.2 ⟨q.fl.2.2.1,by have z:=q.fl.2.2.2;dsimp only at z;rw[if_pos (by omega)]at z;exact z⟩) (by decide))⟩,(by first|exact Gr.refl _|exact(Gr.refl _).alloc _)⟩
     ·skip
      go_wp2_with fail;go_ret;exact⟨⟨true,rfl,iff_of_true rfl ⟨hv0.out.1 (by trivial),⟨hv1.out.1 (by trivial),hv2.out.1 (by trivial),(hv3.out.1 (by trivial)).1,by dsimp only;rw[if_pos (by omega)];exact(hv3.out.1 (by trivial)).2⟩,by unfold Ri.Th;dsimp only;omega⟩⟩,(by first|exact Gr.refl _|exact(Gr.refl _).alloc _)⟩
 ·by_cases h31:op=31
  ·subst h31;by_cases y:(k:Int)≤im
   ·skip
    go_enter Tryz.func67,Tryz.ntmps67;go_wp2_with fail;refine(dnamed _ _ hop.out).mono ?_;rintro r w1 ⟨⟨v0,rfl,hv0⟩,e1⟩;subst e1;replace hv0:=ζ hv0;go_wp2_with fail;refine(dbtw _ _ _ _).mono ?_;rintro r w2 ⟨⟨v1,rfl,hv1⟩,e1⟩;subst e1;replace hv1:=ζ hv1;go_wp2_with fail;refine(dbtw _ _ _ _).mono ?_;rintro r w3 ⟨⟨v2,rfl,hv2⟩,e1⟩;subst e1;replace hv2:=ζ hv2;go_wp2_with fail;refine(dbtw _ _ _ _).mono ?_;rintro r w4 ⟨⟨v3,rfl,hv3⟩,e1⟩;subst e1;replace hv3:=ζ hv3;go_wp2_with fail;refine(dbtw _ _ _ _).mono ?_;rintro r w5 ⟨⟨v5,rfl,hv5⟩,e1⟩;subst e1;obtain rfl:v5=false:=bool_f hv5 (by omega);clear hv5;go_wp2_with fail;go_ret;exact⟨⟨false,rfl,iff_of_false (by decide) (fun q=>absurd (q.th.2 rfl) (by dsimp only;omega))⟩,(by first|exact Gr.refl _|exact(Gr.refl _).alloc _)⟩
   ·skip
    go_enter Tryz.func67,Tryz.ntmps67;go_wp2_with fail;refine(dnamed _ _ hop.out).mono ?_;rintro r w1 ⟨⟨v0,rfl,hv0⟩,e1⟩;subst e1;replace hv0:=ζ hv0;go_wp2_with fail;refine(dbtw _ _ _ _).mono ?_;rintro r w2 ⟨⟨v1,rfl,hv1⟩,e1⟩;subst e1;replace hv1:=ζ hv1;go_wp2_with fail;refine(dbtw _ _ _ _).mono ?_;rintro r w3 ⟨⟨v2,rfl,hv2⟩,e1⟩;subst e1;replace hv2:=ζ hv2;go_wp2_with fail;refine(dbtw _ _ _ _).mono ?_;rintro r w4 ⟨⟨v3,rfl,hv3⟩,e1⟩;subst e1;replace hv3:=ζ hv3;go_wp2_with fail;refine(dbtw _ _ _ _).mono ?_;rintro r w5 ⟨⟨v5,rfl,hv5⟩,e1⟩;subst e1;obtain rfl:v5=false:=bool_f hv5 (by omega);clear hv5
    cases v0
    ·skip
     go_wp2_with fail;go_ret;exact⟨⟨false,rfl,iff_of_false (by decide) (fun q=>absurd (hv0.out.2 q.op) (by decide))⟩,(by first|exact Gr.refl _|exact(Gr.refl _).alloc _)⟩
    ·skip
     cases v1
     ·skip
      go_wp2_with fail;go_ret;exact⟨⟨false,rfl,iff_of_false (by decide) (fun q=>absurd (hv1.out.2 q.fl.1) (by decide))⟩,(by first|exact Gr.refl _|exact(Gr.refl _).alloc _)⟩
     ·skip
      cases v2
      ·skip
       go_wp2_with fail;go_ret;exact⟨⟨false,rfl,iff_of_false (by decide) (fun q=>absurd (hv2.out.2 q.fl.2.1) (by decide))⟩,(by first|exact Gr.refl _|exact(Gr.refl _).alloc _)⟩
      ·skip
       cases v3
       ·skip
        go_wp2_with fail;go_ret;exact⟨⟨false,rfl,iff_of_false (by decide) (fun q=>absurd (hv3.out.2 ⟨q.fl.2.2.1,by have z:=q.fl.2.2.2;dsimp only at z;rw[if_neg (by omega)]at z;exact z⟩) (by decide))⟩,(by first|exact Gr.refl _|exact(Gr.refl _).alloc _)⟩
       ·skip
        go_wp2_with fail;go_ret;exact⟨⟨true,rfl,iff_of_true rfl ⟨hv0.out.1 (by trivial),⟨hv1.out.1 (by trivial),hv2.out.1 (by trivial),(hv3.out.1 (by trivial)).1,by dsimp only;rw[if_neg (by omega)];exact(hv3.out.1 (by trivial)).2⟩,by unfold Ri.Th;dsimp only;omega⟩⟩,(by first|exact Gr.refl _|exact(Gr.refl _).alloc _)⟩
  ·have h31b:(op==31)=false:=beq_false_of_ne h31;by_cases hj:20≤op∧op≤24
   ·by_cases y:(n:Int)≤im
    ·skip
     go_enter Tryz.func67,Tryz.ntmps67;go_wp2_with fail;refine(dnamed _ _ hop.out).mono ?_;rintro r w1 ⟨⟨v0,rfl,hv0⟩,e1⟩;subst e1;replace hv0:=ζ hv0;go_wp2_with fail;refine(dbtw _ _ _ _).mono ?_;rintro r w2 ⟨⟨v1,rfl,hv1⟩,e1⟩;subst e1;replace hv1:=ζ hv1;go_wp2_with fail;refine(dbtw _ _ _ _).mono ?_;rintro r w3 ⟨⟨v2,rfl,hv2⟩,e1⟩;subst e1;replace hv2:=ζ hv2;go_wp2_with fail;refine(dbtw _ _ _ _).mono ?_;rintro r w4 ⟨⟨v3,rfl,hv3⟩,e1⟩;subst e1;replace hv3:=ζ hv3;go_wp2_with fail;refine(dbtw _ _ _ _).mono ?_;rintro r w5 ⟨⟨v5,rfl,hv5⟩,e1⟩;subst e1;obtain rfl:v5=true:=hv5.2 (by omega);clear hv5;go_wp2_with fail;go_ret;exact⟨⟨false,rfl,iff_of_false (by decide) (fun q=>absurd (q.th.1 hj) (by dsimp only;omega))⟩,(by first|exact Gr.refl _|exact(Gr.refl _).alloc _)⟩
    ·skip
     go_enter Tryz.func67,Tryz.ntmps67;go_wp2_with fail;refine(dnamed _ _ hop.out).mono ?_;rintro r w1 ⟨⟨v0,rfl,hv0⟩,e1⟩;subst e1;replace hv0:=ζ hv0;go_wp2_with fail;refine(dbtw _ _ _ _).mono ?_;rintro r w2 ⟨⟨v1,rfl,hv1⟩,e1⟩;subst e1;replace hv1:=ζ hv1;go_wp2_with fail;refine(dbtw _ _ _ _).mono ?_;rintro r w3 ⟨⟨v2,rfl,hv2⟩,e1⟩;subst e1;replace hv2:=ζ hv2;go_wp2_with fail;refine(dbtw _ _ _ _).mono ?_;rintro r w4 ⟨⟨v3,rfl,hv3⟩,e1⟩;subst e1;replace hv3:=ζ hv3;go_wp2_with fail;refine(dbtw _ _ _ _).mono ?_;rintro r w5 ⟨⟨v5,rfl,hv5⟩,e1⟩;subst e1;obtain rfl:v5=true:=hv5.2 (by omega);clear hv5
     cases v0
     ·skip
      go_wp2_with fail;go_ret;exact⟨⟨false,rfl,iff_of_false (by decide) (fun q=>absurd (hv0.out.2 q.op) (by decide))⟩,(by first|exact Gr.refl _|exact(Gr.refl _).alloc _)⟩
     ·skip
      cases v1
      ·skip
       go_wp2_with fail;go_ret;exact⟨⟨false,rfl,iff_of_false (by decide) (fun q=>absurd (hv1.out.2 q.fl.1) (by decide))⟩,(by first|exact Gr.refl _|exact(Gr.refl _).alloc _)⟩
      ·skip
       cases v2
       ·skip
        go_wp2_with fail;go_ret;exact⟨⟨false,rfl,iff_of_false (by decide) (fun q=>absurd (hv2.out.2 q.fl.2.1) (by decide))⟩,(by first|exact Gr.refl _|exact(Gr.refl _).alloc _)⟩
       ·skip
        cases v3
        ·skip
         go_wp2_with fail;go_ret;exact⟨⟨false,rfl,iff_of_false (by decide) (fun q=>absurd (hv3.out.2 ⟨q.fl.2.2.1,by have z:=q.fl.2.2.2;dsimp only at z;rw[if_neg (by omega)]at z;exact z⟩) (by decide))⟩,(by first|exact Gr.refl _|exact(Gr.refl _).alloc _)⟩
        ·skip
         go_wp2_with fail;go_ret;exact⟨⟨true,rfl,iff_of_true rfl ⟨hv0.out.1 (by trivial),⟨hv1.out.1 (by trivial),hv2.out.1 (by trivial),(hv3.out.1 (by trivial)).1,by dsimp only;rw[if_neg (by omega)];exact(hv3.out.1 (by trivial)).2⟩,by unfold Ri.Th;dsimp only;omega⟩⟩,(by first|exact Gr.refl _|exact(Gr.refl _).alloc _)⟩
   ·skip
    go_enter Tryz.func67,Tryz.ntmps67;go_wp2_with fail;refine(dnamed _ _ hop.out).mono ?_;rintro r w1 ⟨⟨v0,rfl,hv0⟩,e1⟩;subst e1;replace hv0:=ζ hv0;go_wp2_with fail;refine(dbtw _ _ _ _).mono ?_;rintro r w2 ⟨⟨v1,rfl,hv1⟩,e1⟩;subst e1;replace hv1:=ζ hv1;go_wp2_with fail;refine(dbtw _ _ _ _).mono ?_;rintro r w3 ⟨⟨v2,rfl,hv2⟩,e1⟩;subst e1;replace hv2:=ζ hv2;go_wp2_with fail;refine(dbtw _ _ _ _).mono ?_;rintro r w4 ⟨⟨v3,rfl,hv3⟩,e1⟩;subst e1;replace hv3:=ζ hv3;go_wp2_with fail;refine(dbtw _ _ _ _).mono ?_;rintro r w5 ⟨⟨v5,rfl,hv5⟩,e1⟩;subst e1;obtain rfl:v5=false:=bool_f hv5 (by omega);clear hv5
    cases v0
    ·skip
     go_wp2_with fail;go_ret;exact⟨⟨false,rfl,iff_of_false (by decide) (fun q=>absurd (hv0.out.2 q.op) (by decide))⟩,(by first|exact Gr.refl _|exact(Gr.refl _).alloc _)⟩
    ·skip
     cases v1
     ·skip
      go_wp2_with fail;go_ret;exact⟨⟨false,rfl,iff_of_false (by decide) (fun q=>absurd (hv1.out.2 q.fl.1) (by decide))⟩,(by first|exact Gr.refl _|exact(Gr.refl _).alloc _)⟩
     ·skip
      cases v2
      ·skip
       go_wp2_with fail;go_ret;exact⟨⟨false,rfl,iff_of_false (by decide) (fun q=>absurd (hv2.out.2 q.fl.2.1) (by decide))⟩,(by first|exact Gr.refl _|exact(Gr.refl _).alloc _)⟩
      ·skip
       cases v3
       ·skip
        go_wp2_with fail;go_ret;exact⟨⟨false,rfl,iff_of_false (by decide) (fun q=>absurd (hv3.out.2 ⟨q.fl.2.2.1,by have z:=q.fl.2.2.2;dsimp only at z;rw[if_neg (by omega)]at z;exact z⟩) (by decide))⟩,(by first|exact Gr.refl _|exact(Gr.refl _).alloc _)⟩
       ·skip
        go_wp2_with fail;go_ret;exact⟨⟨true,rfl,iff_of_true rfl ⟨hv0.out.1 (by trivial),⟨hv1.out.1 (by trivial),hv2.out.1 (by trivial),(hv3.out.1 (by trivial)).1,by dsimp only;rw[if_neg (by omega)];exact(hv3.out.1 (by trivial)).2⟩,by unfold Ri.Th;dsimp only;omega⟩⟩,(by first|exact Gr.refl _|exact(Gr.refl _).alloc _)⟩
theorem dmay_any (R:Rp)(ca ga:Option Addr)(cc gc:Nat)(mem:ByteArray)(w:World)(hP:RpIn w ca ga R)(is:R.Is)(hrl:∀r∈R.code,r.length≤2000000):
 Calls Tryz.prog 47 #[.agg #[.slice ca R.code.length cc,.slice ga R.gates.length gc,.string mem,.int .i64 R.dep]] w fun x w'=>Says (R.Ok mem.size) x∧Gr w w':=by
 replace is:=ζ is;replace hrl:=ζ hrl;go_enter Tryz.func47,Tryz.ntmps47;go_upto_region 1 with fail
 refine wp_world (fun W=>At W w.heap.size #[.slice ca R.code.length cc,.slice ga R.gates.length gc,.string mem,.int .i64 R.dep]∧Gr w W) ⟨At.new w _ _,(Gr.refl _).alloc _⟩ ?_;rintro W ⟨hA,G⟩;replace hP:=ζ (hP.gr G);generalize w.heap.size=kp at*;have c0:W.cell? ⟨kp,0,none⟩=some (.slice ca R.code.length cc):=hA.2.1 0;have c1:W.cell? ⟨kp,1,none⟩=some (.slice ga R.gates.length gc):=hA.2.1 1;have c2:W.cell? ⟨kp,2,none⟩=some (.string mem):=hA.2.1 2;have c3:W.cell? ⟨kp,3,none⟩=some (.int .i64 R.dep):=hA.2.1 3;replace hA:=ζ hA;go_wp2_with fail;refine(dbtw _ _ _ _).mono ?_;rintro r w1 ⟨⟨v0,rfl,hv0⟩,e1⟩;subst e1;replace hv0:=ζ hv0;go_wp2_with fail;refine(dbtw _ _ _ _).mono ?_;rintro r w2 ⟨⟨v1,rfl,hv1⟩,e1⟩;subst e1;replace hv1:=ζ hv1
 cases v0
 ·skip
  have z:Hz (Says (R.Ok mem.size) (.returned (.bool false))):=ζ ⟨false,rfl,iff_of_false (by decide) (fun q=>absurd (hv0.out.2 (by have:=q.n1;omega)) (by decide))⟩;go_wp2_with fail;go_ret;exact⟨z.out,G⟩
 have n1:=hv0.out.1 (by trivial);by_cases nc:R.code.length=R.gates.length;rotate_left
 ·have nci:((R.code.length:Int) != (R.gates.length:Int))=true:=by simp;omega
  have z:Hz (Says (R.Ok mem.size) (.returned (.bool false))):=ζ ⟨false,rfl,iff_of_false (by decide) (fun q=>absurd q.nc nc)⟩;clear nc;go_wp2_with fail;go_ret;exact⟨z.out,G⟩
 have nci:((R.code.length:Int) != (R.gates.length:Int))=false:=by simp[nc]
 replace nc:=ζ nc
 cases v1
 ·skip
  have z:Hz (Says (R.Ok mem.size) (.returned (.bool false))):=ζ ⟨false,rfl,iff_of_false (by decide) (fun q=>absurd (hv1.out.2 q.dp) (by decide))⟩;go_wp2_with fail;go_ret;exact⟨z.out,G⟩
 have dp:=ζ (hv1.out.1 (by trivial));by_cases hmi:(65536:Int)<(mem.size:Int)
 ·skip
  have z:Hz (Says (R.Ok mem.size) (.returned (.bool false))):=ζ ⟨false,rfl,iff_of_false (by decide) (fun q=>absurd q.mm (by omega))⟩;go_wp2_with fail;go_ret;exact⟨z.out,G⟩
 have hlen:R.gates.length≤1000000:=by omega
 have hl16:R.gates.length≤1000:=by omega
 replace n1:=ζ n1;clear hv0 hv1;go_upto_region 7 with fail
 clear c2 c3 nci;replace c0:=ζ c0;replace c1:=ζ c1;go_loopw [6] (fun x wr=>∃k:Nat,x=.int .i64 k∧k≤R.gates.length∧Hz (∀m,m<k→R.Gt m)∧Hz (Gr w2 wr)) (fun x _=>R.gates.length - (intOf x).toNat)
 case atStart=>exact⟨0,rfl,Nat.zero_le _,ζ (fun m q=>absurd q (Nat.not_lt_zero _)),ζ (Gr.refl _)⟩
 case round=>
  obtain⟨k,rfl,hk,hbe,G2⟩:=hrel;by_cases hlt:k<R.gates.length
  ·have hk1:(k:Int)<(R.gates.length:Int):=Int.ofNat_lt.2 hlt;have hkc:k<R.code.length:=by rw[nc.out];exact hlt
   have hk2:(k:Int)<(R.code.length:Int):=Int.ofNat_lt.2 hkc;have his:=ζ (is.out.code _ (List.getElem_mem hkc));obtain⟨gb,goff,e8,hgb,hgr⟩:=(hP.out.gr G2.out).gate k hlt;obtain⟨b,off,ra,rc,e9,hb9,hcc,hE⟩:=(hP.out.gr G2.out).code k hkc;have hAw:=hA.out.gr G2.out;have d0:wr.cell? ⟨kp,0,none⟩=some (.slice (some ⟨b,off,none⟩) R.code.length cc):=by rw[←e9];exact hAw.2.1 0
   have d1:wr.cell? ⟨kp,1,none⟩=some (.slice (some ⟨gb,goff,none⟩) R.gates.length gc):=by rw[←e8];exact hAw.2.1 1
   have f0:wr.cell? ⟨gb,goff+k*19,none⟩=some (.int .i64 R.gates[k].e):=hgr 0 _ rfl;have f1:wr.cell? ⟨gb,goff+k*19+1,none⟩=some (.int .i64 R.gates[k].a):=hgr 1 _ rfl;have f2:wr.cell? ⟨gb,goff+k*19+2,none⟩=some (.int .i64 R.gates[k].s):=hgr 2 _ rfl;replace hE:=ζ hE;replace e8:=ζ e8;replace e9:=ζ e9;clear hgr hAw;have hrow2:=ζ (hrl.out _ (List.getElem_mem hkc));obtain⟨RW,hRW⟩:∃RW,R.code[k]=RW:=⟨_,rfl⟩;obtain⟨GT,hGT⟩:∃GT,R.gates[k]=GT:=⟨_,rfl⟩;rw[hRW]at hcc hE his hrow2;rw[hGT]at f0 f1 f2;have hgt:Hz (R.Gt k↔RowOk RW R.gates.length∧GT.Ok RW.length):=ζ ⟨fun⟨_,_,p,q⟩=>by rw[hRW]at p q;rw[hGT]at q;exact⟨p,q⟩,fun⟨p,q⟩=>⟨hlt,hkc,by rw[hRW];exact p,by rw[hRW,hGT];exact q⟩⟩;replace hRW:=ζ hRW;replace hGT:=ζ hGT;have hwr:wrap64 ((RW.length:Int) - 1)=(RW.length:Int) - 1:=by have:=hrow2.out;unfold wrap64;omega
   go_wp2_with fail;refine(dbtw _ _ _ _).mono ?_;rintro r u1 ⟨⟨v0,rfl,hv0⟩,e1⟩;subst e1;replace hv0:=ζ hv0;go_wp2_with fail;refine(dbtw _ _ _ _).mono ?_;rintro r u2 ⟨⟨v1,rfl,hv1⟩,e1⟩;subst e1;replace hv1:=ζ hv1;go_wp2_with fail;refine(dbtw _ _ _ _).mono ?_;rintro r u3 ⟨⟨v2,rfl,hv2⟩,e1⟩;subst e1;replace hv2:=ζ hv2;go_wp2_with fail;refine(dbtw _ _ _ _).mono ?_;rintro r u4 ⟨⟨v3,rfl,hv3⟩,e1⟩;subst e1;replace hv3:=ζ hv3
   cases v0
   ·skip
    have z:Hz (Says (R.Ok mem.size) (.returned (.bool false))):=ζ ⟨false,rfl,iff_of_false (by decide) (fun q=>absurd ((fun(p:RowOk RW R.gates.length∧GT.Ok RW.length)=>hv0.out.2 (by have:=p.1.1;omega)) (hgt.out.1 (q.gt k hlt))) (by decide))⟩;go_wp2_with fail;go_ret;exact⟨z.out,G.trans G2.out⟩
   ·skip
    cases v1
    ·skip
     have z:Hz (Says (R.Ok mem.size) (.returned (.bool false))):=ζ ⟨false,rfl,iff_of_false (by decide) (fun q=>absurd ((fun(p:RowOk RW R.gates.length∧GT.Ok RW.length)=>hv1.out.2 (by have:=p.2.1;omega)) (hgt.out.1 (q.gt k hlt))) (by decide))⟩;go_wp2_with fail;go_ret;exact⟨z.out,G.trans G2.out⟩
    ·skip
     cases v2
     ·skip
      have z:Hz (Says (R.Ok mem.size) (.returned (.bool false))):=ζ ⟨false,rfl,iff_of_false (by decide) (fun q=>absurd ((fun(p:RowOk RW R.gates.length∧GT.Ok RW.length)=>hv2.out.2 p.2.2.1) (hgt.out.1 (q.gt k hlt))) (by decide))⟩;go_wp2_with fail;go_ret;exact⟨z.out,G.trans G2.out⟩
     ·skip
      cases v3
      ·skip
       have z:Hz (Says (R.Ok mem.size) (.returned (.bool false))):=ζ ⟨false,rfl,iff_of_false (by decide) (fun q=>absurd ((fun(p:RowOk RW R.gates.length∧GT.Ok RW.length)=>hv3.out.2 p.2.2.2) (hgt.out.1 (q.gt k hlt))) (by decide))⟩;go_wp2_with fail;go_ret;exact⟨z.out,G.trans G2.out⟩
      ·skip
       have hr:=ζ (hv0.out.1 (by trivial));have hgo:Hz (GT.Ok RW.length):=ζ ⟨by have:=hv1.out.1 (by trivial);omega,hv2.out.1 (by trivial),hv3.out.1 (by trivial)⟩;have hrk:RW.length≤1000:=by have:=hr.out;omega
       clear hv0 hv1 hv2 hv3 f0 f1 f2 d0 d1 hcc hwr;go_upto_region 17 with fail
       go_loopw [12] (fun x wq=>∃j:Nat,x=.int .i64 j∧j≤RW.length∧Hz (∀m (h:m<RW.length),m<j→RW[m].Ok RW.length R.gates.length)∧Hz (Gr u4 wq)) (fun x _=>RW.length - (intOf x).toNat)
       case atStart=>exact⟨0,rfl,Nat.zero_le _,ζ (fun m _ q=>absurd q (Nat.not_lt_zero _)),ζ (Gr.refl _)⟩
       case round=>
        obtain⟨j,rfl,hj,hbj,G3⟩:=hrel;by_cases hjl:j<RW.length
        ·have hj1:(j:Int)<(RW.length:Int):=Int.ofNat_lt.2 hjl;obtain⟨rb,ro,era,hrb,hrg⟩:=reat5 hE.out G3.out j hjl;subst era;have hin:=ζ (dinst_any RW[j] RW.length R.gates.length wr (his.out _ (List.getElem_mem hjl)) ⟨hrk,hl16⟩);have g0:Hz (wr.rangeAt rb (ro+j*5) RW[j].vals):=ζ hrg;clear hrg;go_upto_region 19 with fail
         refine wp_region_lit ?_;iterate 3 (refine xp fun K hK=>?_;go_simp;with_reducible refine hK _ _ ?_;clear hK K;(try simp only[xap]))
         refine xp fun K hK=>?_
         refine wp_load_mid _ _ rfl _ (ro+j*5) rfl RW[j].vals _ g0.out Tryz.underlying53 rfl (by kernel_rfl) (hK _ _ ?_);clear hK K;try simp only[xap]
         iterate 3 (refine xp fun K hK=>?_;go_simp;with_reducible refine hK _ _ ?_;clear hK K;(try simp only[xap]))
         refine xp fun K hK=>?_
         go_simp
         (refine hin.out.mono ?_;rintro r V9 ⟨hS9,G9⟩;obtain⟨v9,rfl,hv9⟩:=hS9)
         with_reducible refine hK _ _ ?_
         clear hK K;try simp only[xap]
         refine xp fun K hK=>?_
         go_simp;with_reducible refine hK _ _ ?_
         clear hK K;try simp only[xap]
         cases v9
         ·have z:Hz (Says (R.Ok mem.size) (.returned (.bool false))):=ζ ⟨false,rfl,iff_of_false (by decide) (fun q=>by
           have p:=hgt.out.1 (q.gt k hlt);exact absurd (hv9.2 (p.1.2 j hjl)) (by decide))⟩
          go_wp2_with fail;go_ret;exact⟨z.out,G.trans (G2.out.trans (G3.out.trans G9))⟩
         ·have hok:=ζ (hv9.1 (by trivial));go_wp2_with fail;refine⟨⟨j+1,?_,hjl,ζ (fun m hm q=>?_),ζ (G3.out.trans G9)⟩,?_⟩
          ·first|rfl|rw[next_wZ hjl (by omega)]|go_num
          ·by_cases e:m=j
           ·subst e;exact hok.out
           ·exact hbj.out m hm (by omega)
          ·first|exact next_mZ hjl|(rw[next_wZ hjl (by omega)];exact next_mZ hjl)
        ·have hj1:¬(j:Int)<(RW.length:Int):=fun q=>hjl (Int.ofNat_lt.1 q)
         obtain rfl:j=RW.length:=by omega
         have hG:=ζ (hgt.out.2 ⟨⟨by have:=hr.out;omega,fun m hm=>hbj.out m hm hm⟩,hgo.out⟩);go_wp2_with fail;refine⟨⟨k+1,?_,hlt,ζ (fun m q=>?_),ζ (G2.out.trans G3.out)⟩,?_⟩
         ·first|rfl|rw[next_wZ hlt hlen]|go_num
         ·by_cases e:m=k
          ·subst e;exact hG.out
          ·exact hbe.out m (by omega)
         ·first|exact next_mZ hlt|(rw[next_wZ hlt hlen];exact next_mZ hlt)
  ·have hk1:¬(k:Int)<(R.gates.length:Int):=fun q=>hlt (Int.ofNat_lt.1 q)
   obtain rfl:k=R.gates.length:=by omega
   have z:Hz (Says (R.Ok mem.size) (.returned (.bool true))):=ζ ⟨true,rfl,iff_of_true rfl ⟨by have:=n1.out;omega,nc.out,dp.out,by omega,hbe.out⟩⟩;go_wp2_with fail;go_ret;exact⟨z.out,G.trans G2.out⟩
theorem dmf60 (B:Nat)(W0:World)(b:Nat)(c:Dc)(P:Pr)(s:Fm)(og op:Nat)(l:List Ob)(ia ib ic:Nat)(imm:Int)(h:DIo B W0 b c P s og op l)(hb:ib<16)(A:Nat)(hA:IntKind.u64.wrap (s.r ib+imm)=(A:Int))(hf:65536 - 1<A):
 Calls Tryz.prog 57 #[.pointer (some ⟨b,0,none⟩),.agg #[.int .u8 60,.int .i64 ia,.int .i64 ib,.int .i64 ic,.int .u64 imm]] W0 fun x w'=>x=.returned (.tuple #[])∧DIo B w' b c P ({s with e:=7,v:=0,f:=5}) s.g s.p l∧Below B W0 w':=by
 have h2:=ζ (h.new #[.int .u8 60,.int .i64 ia,.int .i64 ib,.int .i64 ic,.int .u64 imm] 53);clear h;go_enter Tryz.func57,Tryz.ntmps57;go_upto_region 1 with fail
 refine wp_world (fun W=>DIo B W b c P s og op (boxOb W0.heap.size #[.int .u8 60,.int .i64 ia,.int .i64 ib,.int .i64 ic,.int .u64 imm]::l)∧Below B W0 W) h2.out ?_;rintro W ⟨h,hB⟩;replace h:=ζ h;replace hB:=ζ hB;clear h2;generalize W0.heap.size=kb at*;have KS:=xk2 60 ia ib ic imm kb;have k0:W.cell? ⟨kb,0,none⟩=some (.int .u8 60):=(h.out.there (boxOb kb #[.int .u8 60,.int .i64 ia,.int .i64 ib,.int .i64 ic,.int .u64 imm]) (.head _)).2.1 0;have hbi:(ib:Int)<16:=by omega
 have hkb:kb<W.heap.size:=(h.out.there (boxOb kb #[.int .u8 60,.int .i64 ia,.int .i64 ib,.int .i64 ic,.int .u64 imm]) (.head _)).1;have hne:¬W.heap.size=kb:=by omega
 go_upto_region 2 with fail;refine wp_world (fun X=>DIo B X b c P s og op (boxOb kb #[.int .u8 60,.int .i64 ia,.int .i64 ib,.int .i64 ic,.int .u64 imm]::l)∧Below B W0 X) ⟨h.out.gr ((Gr.refl W).alloc _).below,hB.out.trans (((Gr.refl W).alloc _).below.mono h.out.le)⟩ ?_;clear h hB k0 hkb hne;rintro V ⟨h,hB⟩;replace hB:=ζ (hB.trans (((Gr.refl V).drew).below.mono h.le));replace h:=ζ (h.gr ((Gr.refl V).drew).below);have k2:V.drew.cell? ⟨kb,2,none⟩=some (.int .i64 ib):=(h.out.there (boxOb kb #[.int .u8 60,.int .i64 ia,.int .i64 ib,.int .i64 ic,.int .u64 imm]) (.head _)).2.1 2;have k4:V.drew.cell? ⟨kb,4,none⟩=some (.int .u64 imm):=(h.out.there (boxOb kb #[.int .u8 60,.int .i64 ia,.int .i64 ib,.int .i64 ic,.int .u64 imm]) (.head _)).2.1 4;have kr:V.drew.cell? ⟨b,6+ib,none⟩=some (.int .u64 (s.r ib)):=h.out.hand.2.2 ib _ (regs_at s.r ib hb);refine wp_region_held_drew (S:=(fun X=>(X.cell? ⟨kb,2,none⟩=some (.int .i64 ib))∧X.cell? ⟨kb,4,none⟩=some (.int .u64 imm)∧X.cell? ⟨b,6+ib,none⟩=some (.int .u64 (s.r ib)))) (by kernel_rfl) (⟨k2,k4,kr⟩) (fun hHeld=>?_)
 refine xz 0 rfl (h:=xz 1 rfl (h:=xz 2 rfl (h:=xz 3 rfl (h:=xz 4 rfl (h:=xz 5 rfl (h:=xz 6 rfl (h:=xz 7 rfl (h:=xz 8 rfl (h:=?_)))))))));try simp only[xap]
 refine xtk 9 (v:=.int .u64 (A:Int)) rfl (Or.inl ⟨by rfl,?_⟩) ?_
 ·intro w hSw;(try dsimp only at hSw);go_simp;first|done|(rw[hA])
 try simp only[xap]
 refine xz 10 rfl (h:=?_);try simp only[xap]
 refine xdn ?_ _;clear hHeld k2 k4 kr;generalize V.drew=V1 at*;have hen:=ζ (h.out.onBox (s':={s with e:=7,v:=0,f:=5}) (og':=s.g) (op':=s.p) ⟨rfl,rfl,rfl,rfl,rfl⟩ (fun q hb=>dend_any b _ 7 0 5 V1 hb));by_cases hq:65536≤A
 ·have h1:(65536:Int)≤(A:Int):=by omega
  go_wp2_with fail;refine hen.out.mono ?_;rintro r V9 ⟨rfl,h9,hB9⟩;replace hB:=ζ (hB.out.trans hB9);replace h9:=ζ h9;clear hen hB9;go_wp2_with fail
  first|go_end0|((try simp only[Exit.inBlock,Exit.then]);refine xre ?_)
  exact⟨rfl,h9.out.drop,hB.out⟩
 ·have h1:¬(65536:Int)≤(A:Int):=by omega
  have hw:IntKind.u64.wrap (65536 - (A:Int))=65536 - (A:Int):=by rw[IntKind.wrap_u64];omega
  have h2:65536 - (A:Int)<1:=by omega
  go_wp2_with fail;refine hen.out.mono ?_;rintro r V9 ⟨rfl,h9,hB9⟩;replace hB:=ζ (hB.out.trans hB9);replace h9:=ζ h9;clear hen hB9;go_wp2_with fail
  first|go_end0|((try simp only[Exit.inBlock,Exit.then]);refine xre ?_)
  exact⟨rfl,h9.out.drop,hB.out⟩
theorem dmf61 (B:Nat)(W0:World)(b:Nat)(c:Dc)(P:Pr)(s:Fm)(og op:Nat)(l:List Ob)(ia ib ic:Nat)(imm:Int)(h:DIo B W0 b c P s og op l)(hb:ib<16)(A:Nat)(hA:IntKind.u64.wrap (s.r ib+imm)=(A:Int))(hf:65536 - 8<A):
 Calls Tryz.prog 57 #[.pointer (some ⟨b,0,none⟩),.agg #[.int .u8 61,.int .i64 ia,.int .i64 ib,.int .i64 ic,.int .u64 imm]] W0 fun x w'=>x=.returned (.tuple #[])∧DIo B w' b c P ({s with e:=7,v:=0,f:=5}) s.g s.p l∧Below B W0 w':=by
 have h2:=ζ (h.new #[.int .u8 61,.int .i64 ia,.int .i64 ib,.int .i64 ic,.int .u64 imm] 53);clear h;go_enter Tryz.func57,Tryz.ntmps57;go_upto_region 1 with fail
 refine wp_world (fun W=>DIo B W b c P s og op (boxOb W0.heap.size #[.int .u8 61,.int .i64 ia,.int .i64 ib,.int .i64 ic,.int .u64 imm]::l)∧Below B W0 W) h2.out ?_;rintro W ⟨h,hB⟩;replace h:=ζ h;replace hB:=ζ hB;clear h2;generalize W0.heap.size=kb at*;have KS:=xk2 61 ia ib ic imm kb;have k0:W.cell? ⟨kb,0,none⟩=some (.int .u8 61):=(h.out.there (boxOb kb #[.int .u8 61,.int .i64 ia,.int .i64 ib,.int .i64 ic,.int .u64 imm]) (.head _)).2.1 0;have hbi:(ib:Int)<16:=by omega
 have hkb:kb<W.heap.size:=(h.out.there (boxOb kb #[.int .u8 61,.int .i64 ia,.int .i64 ib,.int .i64 ic,.int .u64 imm]) (.head _)).1;have hne:¬W.heap.size=kb:=by omega
 go_upto_region 2 with fail;refine wp_world (fun X=>DIo B X b c P s og op (boxOb kb #[.int .u8 61,.int .i64 ia,.int .i64 ib,.int .i64 ic,.int .u64 imm]::l)∧Below B W0 X) ⟨h.out.gr ((Gr.refl W).alloc _).below,hB.out.trans (((Gr.refl W).alloc _).below.mono h.out.le)⟩ ?_;clear h hB k0 hkb hne;rintro V ⟨h,hB⟩;replace hB:=ζ (hB.trans (((Gr.refl V).drew).below.mono h.le));replace h:=ζ (h.gr ((Gr.refl V).drew).below);have k2:V.drew.cell? ⟨kb,2,none⟩=some (.int .i64 ib):=(h.out.there (boxOb kb #[.int .u8 61,.int .i64 ia,.int .i64 ib,.int .i64 ic,.int .u64 imm]) (.head _)).2.1 2;have k4:V.drew.cell? ⟨kb,4,none⟩=some (.int .u64 imm):=(h.out.there (boxOb kb #[.int .u8 61,.int .i64 ia,.int .i64 ib,.int .i64 ic,.int .u64 imm]) (.head _)).2.1 4;have kr:V.drew.cell? ⟨b,6+ib,none⟩=some (.int .u64 (s.r ib)):=h.out.hand.2.2 ib _ (regs_at s.r ib hb);refine wp_region_held_drew (S:=(fun X=>(X.cell? ⟨kb,2,none⟩=some (.int .i64 ib))∧X.cell? ⟨kb,4,none⟩=some (.int .u64 imm)∧X.cell? ⟨b,6+ib,none⟩=some (.int .u64 (s.r ib)))) (by kernel_rfl) (⟨k2,k4,kr⟩) (fun hHeld=>?_)
 refine xz 0 rfl (h:=xz 1 rfl (h:=xz 2 rfl (h:=xz 3 rfl (h:=xz 4 rfl (h:=xz 5 rfl (h:=xz 6 rfl (h:=xz 7 rfl (h:=xz 8 rfl (h:=?_)))))))));try simp only[xap]
 refine xtk 9 (v:=.int .u64 (A:Int)) rfl (Or.inl ⟨by rfl,?_⟩) ?_
 ·intro w hSw;(try dsimp only at hSw);go_simp;first|done|(rw[hA])
 try simp only[xap]
 refine xz 10 rfl (h:=?_);try simp only[xap]
 refine xdn ?_ _;clear hHeld k2 k4 kr;generalize V.drew=V1 at*;have hen:=ζ (h.out.onBox (s':={s with e:=7,v:=0,f:=5}) (og':=s.g) (op':=s.p) ⟨rfl,rfl,rfl,rfl,rfl⟩ (fun q hb=>dend_any b _ 7 0 5 V1 hb));by_cases hq:65536≤A
 ·have h1:(65536:Int)≤(A:Int):=by omega
  go_wp2_with fail;refine hen.out.mono ?_;rintro r V9 ⟨rfl,h9,hB9⟩;replace hB:=ζ (hB.out.trans hB9);replace h9:=ζ h9;clear hen hB9;go_wp2_with fail
  first|go_end0|((try simp only[Exit.inBlock,Exit.then]);refine xre ?_)
  exact⟨rfl,h9.out.drop,hB.out⟩
 ·have h1:¬(65536:Int)≤(A:Int):=by omega
  have hw:IntKind.u64.wrap (65536 - (A:Int))=65536 - (A:Int):=by rw[IntKind.wrap_u64];omega
  have h2:65536 - (A:Int)<8:=by omega
  go_wp2_with fail;refine hen.out.mono ?_;rintro r V9 ⟨rfl,h9,hB9⟩;replace hB:=ζ (hB.out.trans hB9);replace h9:=ζ h9;clear hen hB9;go_wp2_with fail
  first|go_end0|((try simp only[Exit.inBlock,Exit.then]);refine xre ?_)
  exact⟨rfl,h9.out.drop,hB.out⟩
theorem dmf62 (B:Nat)(W0:World)(b:Nat)(c:Dc)(P:Pr)(s:Fm)(og op:Nat)(l:List Ob)(ia ib ic:Nat)(imm:Int)(h:DIo B W0 b c P s og op l)(hb:ib<16)(A:Nat)(hA:IntKind.u64.wrap (s.r ib+imm)=(A:Int))(hf:65536 - 1<A):
 Calls Tryz.prog 57 #[.pointer (some ⟨b,0,none⟩),.agg #[.int .u8 62,.int .i64 ia,.int .i64 ib,.int .i64 ic,.int .u64 imm]] W0 fun x w'=>x=.returned (.tuple #[])∧DIo B w' b c P ({s with e:=7,v:=0,f:=5}) s.g s.p l∧Below B W0 w':=by
 have h2:=ζ (h.new #[.int .u8 62,.int .i64 ia,.int .i64 ib,.int .i64 ic,.int .u64 imm] 53);clear h;go_enter Tryz.func57,Tryz.ntmps57;go_upto_region 1 with fail
 refine wp_world (fun W=>DIo B W b c P s og op (boxOb W0.heap.size #[.int .u8 62,.int .i64 ia,.int .i64 ib,.int .i64 ic,.int .u64 imm]::l)∧Below B W0 W) h2.out ?_;rintro W ⟨h,hB⟩;replace h:=ζ h;replace hB:=ζ hB;clear h2;generalize W0.heap.size=kb at*;have KS:=xk2 62 ia ib ic imm kb;have k0:W.cell? ⟨kb,0,none⟩=some (.int .u8 62):=(h.out.there (boxOb kb #[.int .u8 62,.int .i64 ia,.int .i64 ib,.int .i64 ic,.int .u64 imm]) (.head _)).2.1 0;have hbi:(ib:Int)<16:=by omega
 have hkb:kb<W.heap.size:=(h.out.there (boxOb kb #[.int .u8 62,.int .i64 ia,.int .i64 ib,.int .i64 ic,.int .u64 imm]) (.head _)).1;have hne:¬W.heap.size=kb:=by omega
 go_upto_region 2 with fail;refine wp_world (fun X=>DIo B X b c P s og op (boxOb kb #[.int .u8 62,.int .i64 ia,.int .i64 ib,.int .i64 ic,.int .u64 imm]::l)∧Below B W0 X) ⟨h.out.gr ((Gr.refl W).alloc _).below,hB.out.trans (((Gr.refl W).alloc _).below.mono h.out.le)⟩ ?_;clear h hB k0 hkb hne;rintro V ⟨h,hB⟩;replace hB:=ζ (hB.trans (((Gr.refl V).drew).below.mono h.le));replace h:=ζ (h.gr ((Gr.refl V).drew).below);have k2:V.drew.cell? ⟨kb,2,none⟩=some (.int .i64 ib):=(h.out.there (boxOb kb #[.int .u8 62,.int .i64 ia,.int .i64 ib,.int .i64 ic,.int .u64 imm]) (.head _)).2.1 2;have k4:V.drew.cell? ⟨kb,4,none⟩=some (.int .u64 imm):=(h.out.there (boxOb kb #[.int .u8 62,.int .i64 ia,.int .i64 ib,.int .i64 ic,.int .u64 imm]) (.head _)).2.1 4;have kr:V.drew.cell? ⟨b,6+ib,none⟩=some (.int .u64 (s.r ib)):=h.out.hand.2.2 ib _ (regs_at s.r ib hb);refine wp_region_held_drew (S:=(fun X=>(X.cell? ⟨kb,2,none⟩=some (.int .i64 ib))∧X.cell? ⟨kb,4,none⟩=some (.int .u64 imm)∧X.cell? ⟨b,6+ib,none⟩=some (.int .u64 (s.r ib)))) (by kernel_rfl) (⟨k2,k4,kr⟩) (fun hHeld=>?_)
 refine xz 0 rfl (h:=xz 1 rfl (h:=xz 2 rfl (h:=xz 3 rfl (h:=xz 4 rfl (h:=xz 5 rfl (h:=xz 6 rfl (h:=xz 7 rfl (h:=xz 8 rfl (h:=?_)))))))));try simp only[xap]
 refine xtk 9 (v:=.int .u64 (A:Int)) rfl (Or.inl ⟨by rfl,?_⟩) ?_
 ·intro w hSw;(try dsimp only at hSw);go_simp;first|done|(rw[hA])
 try simp only[xap]
 refine xz 10 rfl (h:=?_);try simp only[xap]
 refine xdn ?_ _;clear hHeld k2 k4 kr;generalize V.drew=V1 at*;have hen:=ζ (h.out.onBox (s':={s with e:=7,v:=0,f:=5}) (og':=s.g) (op':=s.p) ⟨rfl,rfl,rfl,rfl,rfl⟩ (fun q hb=>dend_any b _ 7 0 5 V1 hb));by_cases hq:65536≤A
 ·have h1:(65536:Int)≤(A:Int):=by omega
  go_wp2_with fail;refine hen.out.mono ?_;rintro r V9 ⟨rfl,h9,hB9⟩;replace hB:=ζ (hB.out.trans hB9);replace h9:=ζ h9;clear hen hB9;go_wp2_with fail
  first|go_end0|((try simp only[Exit.inBlock,Exit.then]);refine xre ?_)
  exact⟨rfl,h9.out.drop,hB.out⟩
 ·have h1:¬(65536:Int)≤(A:Int):=by omega
  have hw:IntKind.u64.wrap (65536 - (A:Int))=65536 - (A:Int):=by rw[IntKind.wrap_u64];omega
  have h2:65536 - (A:Int)<1:=by omega
  go_wp2_with fail;refine hen.out.mono ?_;rintro r V9 ⟨rfl,h9,hB9⟩;replace hB:=ζ (hB.out.trans hB9);replace h9:=ζ h9;clear hen hB9;go_wp2_with fail
  first|go_end0|((try simp only[Exit.inBlock,Exit.then]);refine xre ?_)
  exact⟨rfl,h9.out.drop,hB.out⟩
theorem dmf63 (B:Nat)(W0:World)(b:Nat)(c:Dc)(P:Pr)(s:Fm)(og op:Nat)(l:List Ob)(ia ib ic:Nat)(imm:Int)(h:DIo B W0 b c P s og op l)(hb:ib<16)(A:Nat)(hA:IntKind.u64.wrap (s.r ib+imm)=(A:Int))(hf:65536 - 8<A):
 Calls Tryz.prog 57 #[.pointer (some ⟨b,0,none⟩),.agg #[.int .u8 63,.int .i64 ia,.int .i64 ib,.int .i64 ic,.int .u64 imm]] W0 fun x w'=>x=.returned (.tuple #[])∧DIo B w' b c P ({s with e:=7,v:=0,f:=5}) s.g s.p l∧Below B W0 w':=by
 have h2:=ζ (h.new #[.int .u8 63,.int .i64 ia,.int .i64 ib,.int .i64 ic,.int .u64 imm] 53);clear h;go_enter Tryz.func57,Tryz.ntmps57;go_upto_region 1 with fail
 refine wp_world (fun W=>DIo B W b c P s og op (boxOb W0.heap.size #[.int .u8 63,.int .i64 ia,.int .i64 ib,.int .i64 ic,.int .u64 imm]::l)∧Below B W0 W) h2.out ?_;rintro W ⟨h,hB⟩;replace h:=ζ h;replace hB:=ζ hB;clear h2;generalize W0.heap.size=kb at*;have KS:=xk2 63 ia ib ic imm kb;have k0:W.cell? ⟨kb,0,none⟩=some (.int .u8 63):=(h.out.there (boxOb kb #[.int .u8 63,.int .i64 ia,.int .i64 ib,.int .i64 ic,.int .u64 imm]) (.head _)).2.1 0;have hbi:(ib:Int)<16:=by omega
 have hkb:kb<W.heap.size:=(h.out.there (boxOb kb #[.int .u8 63,.int .i64 ia,.int .i64 ib,.int .i64 ic,.int .u64 imm]) (.head _)).1;have hne:¬W.heap.size=kb:=by omega
 go_upto_region 2 with fail;refine wp_world (fun X=>DIo B X b c P s og op (boxOb kb #[.int .u8 63,.int .i64 ia,.int .i64 ib,.int .i64 ic,.int .u64 imm]::l)∧Below B W0 X) ⟨h.out.gr ((Gr.refl W).alloc _).below,hB.out.trans (((Gr.refl W).alloc _).below.mono h.out.le)⟩ ?_;clear h hB k0 hkb hne;rintro V ⟨h,hB⟩;replace hB:=ζ (hB.trans (((Gr.refl V).drew).below.mono h.le));replace h:=ζ (h.gr ((Gr.refl V).drew).below);have k2:V.drew.cell? ⟨kb,2,none⟩=some (.int .i64 ib):=(h.out.there (boxOb kb #[.int .u8 63,.int .i64 ia,.int .i64 ib,.int .i64 ic,.int .u64 imm]) (.head _)).2.1 2;have k4:V.drew.cell? ⟨kb,4,none⟩=some (.int .u64 imm):=(h.out.there (boxOb kb #[.int .u8 63,.int .i64 ia,.int .i64 ib,.int .i64 ic,.int .u64 imm]) (.head _)).2.1 4;have kr:V.drew.cell? ⟨b,6+ib,none⟩=some (.int .u64 (s.r ib)):=h.out.hand.2.2 ib _ (regs_at s.r ib hb);refine wp_region_held_drew (S:=(fun X=>(X.cell? ⟨kb,2,none⟩=some (.int .i64 ib))∧X.cell? ⟨kb,4,none⟩=some (.int .u64 imm)∧X.cell? ⟨b,6+ib,none⟩=some (.int .u64 (s.r ib)))) (by kernel_rfl) (⟨k2,k4,kr⟩) (fun hHeld=>?_)
 refine xz 0 rfl (h:=xz 1 rfl (h:=xz 2 rfl (h:=xz 3 rfl (h:=xz 4 rfl (h:=xz 5 rfl (h:=xz 6 rfl (h:=xz 7 rfl (h:=xz 8 rfl (h:=?_)))))))));try simp only[xap]
 refine xtk 9 (v:=.int .u64 (A:Int)) rfl (Or.inl ⟨by rfl,?_⟩) ?_
 ·intro w hSw;(try dsimp only at hSw);go_simp;first|done|(rw[hA])
 try simp only[xap]
 refine xz 10 rfl (h:=?_);try simp only[xap]
 refine xdn ?_ _;clear hHeld k2 k4 kr;generalize V.drew=V1 at*;have hen:=ζ (h.out.onBox (s':={s with e:=7,v:=0,f:=5}) (og':=s.g) (op':=s.p) ⟨rfl,rfl,rfl,rfl,rfl⟩ (fun q hb=>dend_any b _ 7 0 5 V1 hb));by_cases hq:65536≤A
 ·have h1:(65536:Int)≤(A:Int):=by omega
  go_wp2_with fail;refine hen.out.mono ?_;rintro r V9 ⟨rfl,h9,hB9⟩;replace hB:=ζ (hB.out.trans hB9);replace h9:=ζ h9;clear hen hB9;go_wp2_with fail
  first|go_end0|((try simp only[Exit.inBlock,Exit.then]);refine xre ?_)
  exact⟨rfl,h9.out.drop,hB.out⟩
 ·have h1:¬(65536:Int)≤(A:Int):=by omega
  have hw:IntKind.u64.wrap (65536 - (A:Int))=65536 - (A:Int):=by rw[IntKind.wrap_u64];omega
  have h2:65536 - (A:Int)<8:=by omega
  go_wp2_with fail;refine hen.out.mono ?_;rintro r V9 ⟨rfl,h9,hB9⟩;replace hB:=ζ (hB.out.trans hB9);replace h9:=ζ h9;clear hen hB9;go_wp2_with fail
  first|go_end0|((try simp only[Exit.inBlock,Exit.then]);refine xre ?_)
  exact⟨rfl,h9.out.drop,hB.out⟩
theorem dmf64 (B:Nat)(W0:World)(b:Nat)(c:Dc)(P:Pr)(s:Fm)(og op:Nat)(l:List Ob)(ia ib ic:Nat)(imm:Int)(h:DIo B W0 b c P s og op l)(hb:ib<16)(A:Nat)(hA:IntKind.u64.wrap (s.r ib+imm)=(A:Int))(hf:65536 - 16<A):
 Calls Tryz.prog 57 #[.pointer (some ⟨b,0,none⟩),.agg #[.int .u8 64,.int .i64 ia,.int .i64 ib,.int .i64 ic,.int .u64 imm]] W0 fun x w'=>x=.returned (.tuple #[])∧DIo B w' b c P ({s with e:=7,v:=0,f:=5}) s.g s.p l∧Below B W0 w':=by
 have h2:=ζ (h.new #[.int .u8 64,.int .i64 ia,.int .i64 ib,.int .i64 ic,.int .u64 imm] 53);clear h;go_enter Tryz.func57,Tryz.ntmps57;go_upto_region 1 with fail
 refine wp_world (fun W=>DIo B W b c P s og op (boxOb W0.heap.size #[.int .u8 64,.int .i64 ia,.int .i64 ib,.int .i64 ic,.int .u64 imm]::l)∧Below B W0 W) h2.out ?_;rintro W ⟨h,hB⟩;replace h:=ζ h;replace hB:=ζ hB;clear h2;generalize W0.heap.size=kb at*;have KS:=xk2 64 ia ib ic imm kb;have k0:W.cell? ⟨kb,0,none⟩=some (.int .u8 64):=(h.out.there (boxOb kb #[.int .u8 64,.int .i64 ia,.int .i64 ib,.int .i64 ic,.int .u64 imm]) (.head _)).2.1 0;have hbi:(ib:Int)<16:=by omega
 have hkb:kb<W.heap.size:=(h.out.there (boxOb kb #[.int .u8 64,.int .i64 ia,.int .i64 ib,.int .i64 ic,.int .u64 imm]) (.head _)).1;have hne:¬W.heap.size=kb:=by omega
 go_upto_region 2 with fail;refine wp_world (fun X=>DIo B X b c P s og op (boxOb kb #[.int .u8 64,.int .i64 ia,.int .i64 ib,.int .i64 ic,.int .u64 imm]::l)∧Below B W0 X) ⟨h.out.gr ((Gr.refl W).alloc _).below,hB.out.trans (((Gr.refl W).alloc _).below.mono h.out.le)⟩ ?_;clear h hB k0 hkb hne;rintro V ⟨h,hB⟩;replace hB:=ζ (hB.trans (((Gr.refl V).drew).below.mono h.le));replace h:=ζ (h.gr ((Gr.refl V).drew).below);have k2:V.drew.cell? ⟨kb,2,none⟩=some (.int .i64 ib):=(h.out.there (boxOb kb #[.int .u8 64,.int .i64 ia,.int .i64 ib,.int .i64 ic,.int .u64 imm]) (.head _)).2.1 2;have k4:V.drew.cell? ⟨kb,4,none⟩=some (.int .u64 imm):=(h.out.there (boxOb kb #[.int .u8 64,.int .i64 ia,.int .i64 ib,.int .i64 ic,.int .u64 imm]) (.head _)).2.1 4;have kr:V.drew.cell? ⟨b,6+ib,none⟩=some (.int .u64 (s.r ib)):=h.out.hand.2.2 ib _ (regs_at s.r ib hb);refine wp_region_held_drew (S:=(fun X=>(X.cell? ⟨kb,2,none⟩=some (.int .i64 ib))∧X.cell? ⟨kb,4,none⟩=some (.int .u64 imm)∧X.cell? ⟨b,6+ib,none⟩=some (.int .u64 (s.r ib)))) (by kernel_rfl) (⟨k2,k4,kr⟩) (fun hHeld=>?_)
 refine xz 0 rfl (h:=xz 1 rfl (h:=xz 2 rfl (h:=xz 3 rfl (h:=xz 4 rfl (h:=xz 5 rfl (h:=xz 6 rfl (h:=xz 7 rfl (h:=xz 8 rfl (h:=?_)))))))));try simp only[xap]
 refine xtk 9 (v:=.int .u64 (A:Int)) rfl (Or.inl ⟨by rfl,?_⟩) ?_
 ·intro w hSw;(try dsimp only at hSw);go_simp;first|done|(rw[hA])
 try simp only[xap]
 refine xz 10 rfl (h:=?_);try simp only[xap]
 refine xdn ?_ _;clear hHeld k2 k4 kr;generalize V.drew=V1 at*;have hen:=ζ (h.out.onBox (s':={s with e:=7,v:=0,f:=5}) (og':=s.g) (op':=s.p) ⟨rfl,rfl,rfl,rfl,rfl⟩ (fun q hb=>dend_any b _ 7 0 5 V1 hb));by_cases hq:65536≤A
 ·have h1:(65536:Int)≤(A:Int):=by omega
  go_wp2_with fail;refine hen.out.mono ?_;rintro r V9 ⟨rfl,h9,hB9⟩;replace hB:=ζ (hB.out.trans hB9);replace h9:=ζ h9;clear hen hB9;go_wp2_with fail
  first|go_end0|((try simp only[Exit.inBlock,Exit.then]);refine xre ?_)
  exact⟨rfl,h9.out.drop,hB.out⟩
 ·have h1:¬(65536:Int)≤(A:Int):=by omega
  have hw:IntKind.u64.wrap (65536 - (A:Int))=65536 - (A:Int):=by rw[IntKind.wrap_u64];omega
  have h2:65536 - (A:Int)<16:=by omega
  go_wp2_with fail;refine hen.out.mono ?_;rintro r V9 ⟨rfl,h9,hB9⟩;replace hB:=ζ (hB.out.trans hB9);replace h9:=ζ h9;clear hen hB9;go_wp2_with fail
  first|go_end0|((try simp only[Exit.inBlock,Exit.then]);refine xre ?_)
  exact⟨rfl,h9.out.drop,hB.out⟩
theorem dmf65 (B:Nat)(W0:World)(b:Nat)(c:Dc)(P:Pr)(s:Fm)(og op:Nat)(l:List Ob)(ia ib ic:Nat)(imm:Int)(h:DIo B W0 b c P s og op l)(hb:ib<16)(A:Nat)(hA:IntKind.u64.wrap (s.r ib+imm)=(A:Int))(hf:65536 - 16<A):
 Calls Tryz.prog 57 #[.pointer (some ⟨b,0,none⟩),.agg #[.int .u8 65,.int .i64 ia,.int .i64 ib,.int .i64 ic,.int .u64 imm]] W0 fun x w'=>x=.returned (.tuple #[])∧DIo B w' b c P ({s with e:=7,v:=0,f:=5}) s.g s.p l∧Below B W0 w':=by
 have h2:=ζ (h.new #[.int .u8 65,.int .i64 ia,.int .i64 ib,.int .i64 ic,.int .u64 imm] 53);clear h;go_enter Tryz.func57,Tryz.ntmps57;go_upto_region 1 with fail
 refine wp_world (fun W=>DIo B W b c P s og op (boxOb W0.heap.size #[.int .u8 65,.int .i64 ia,.int .i64 ib,.int .i64 ic,.int .u64 imm]::l)∧Below B W0 W) h2.out ?_;rintro W ⟨h,hB⟩;replace h:=ζ h;replace hB:=ζ hB;clear h2;generalize W0.heap.size=kb at*;have KS:=xk2 65 ia ib ic imm kb;have k0:W.cell? ⟨kb,0,none⟩=some (.int .u8 65):=(h.out.there (boxOb kb #[.int .u8 65,.int .i64 ia,.int .i64 ib,.int .i64 ic,.int .u64 imm]) (.head _)).2.1 0;have hbi:(ib:Int)<16:=by omega
 have hkb:kb<W.heap.size:=(h.out.there (boxOb kb #[.int .u8 65,.int .i64 ia,.int .i64 ib,.int .i64 ic,.int .u64 imm]) (.head _)).1;have hne:¬W.heap.size=kb:=by omega
 go_upto_region 2 with fail;refine wp_world (fun X=>DIo B X b c P s og op (boxOb kb #[.int .u8 65,.int .i64 ia,.int .i64 ib,.int .i64 ic,.int .u64 imm]::l)∧Below B W0 X) ⟨h.out.gr ((Gr.refl W).alloc _).below,hB.out.trans (((Gr.refl W).alloc _).below.mono h.out.le)⟩ ?_;clear h hB k0 hkb hne;rintro V ⟨h,hB⟩;replace hB:=ζ (hB.trans (((Gr.refl V).drew).below.mono h.le));replace h:=ζ (h.gr ((Gr.refl V).drew).below);have k2:V.drew.cell? ⟨kb,2,none⟩=some (.int .i64 ib):=(h.out.there (boxOb kb #[.int .u8 65,.int .i64 ia,.int .i64 ib,.int .i64 ic,.int .u64 imm]) (.head _)).2.1 2;have k4:V.drew.cell? ⟨kb,4,none⟩=some (.int .u64 imm):=(h.out.there (boxOb kb #[.int .u8 65,.int .i64 ia,.int .i64 ib,.int .i64 ic,.int .u64 imm]) (.head _)).2.1 4;have kr:V.drew.cell? ⟨b,6+ib,none⟩=some (.int .u64 (s.r ib)):=h.out.hand.2.2 ib _ (regs_at s.r ib hb);refine wp_region_held_drew (S:=(fun X=>(X.cell? ⟨kb,2,none⟩=some (.int .i64 ib))∧X.cell? ⟨kb,4,none⟩=some (.int .u64 imm)∧X.cell? ⟨b,6+ib,none⟩=some (.int .u64 (s.r ib)))) (by kernel_rfl) (⟨k2,k4,kr⟩) (fun hHeld=>?_)
 refine xz 0 rfl (h:=xz 1 rfl (h:=xz 2 rfl (h:=xz 3 rfl (h:=xz 4 rfl (h:=xz 5 rfl (h:=xz 6 rfl (h:=xz 7 rfl (h:=xz 8 rfl (h:=?_)))))))));try simp only[xap]
 refine xtk 9 (v:=.int .u64 (A:Int)) rfl (Or.inl ⟨by rfl,?_⟩) ?_
 ·intro w hSw;(try dsimp only at hSw);go_simp;first|done|(rw[hA])
 try simp only[xap]
 refine xz 10 rfl (h:=?_);try simp only[xap]
 refine xdn ?_ _;clear hHeld k2 k4 kr;generalize V.drew=V1 at*;have hen:=ζ (h.out.onBox (s':={s with e:=7,v:=0,f:=5}) (og':=s.g) (op':=s.p) ⟨rfl,rfl,rfl,rfl,rfl⟩ (fun q hb=>dend_any b _ 7 0 5 V1 hb));by_cases hq:65536≤A
 ·have h1:(65536:Int)≤(A:Int):=by omega
  go_wp2_with fail;refine hen.out.mono ?_;rintro r V9 ⟨rfl,h9,hB9⟩;replace hB:=ζ (hB.out.trans hB9);replace h9:=ζ h9;clear hen hB9;go_wp2_with fail
  first|go_end0|((try simp only[Exit.inBlock,Exit.then]);refine xre ?_)
  exact⟨rfl,h9.out.drop,hB.out⟩
 ·have h1:¬(65536:Int)≤(A:Int):=by omega
  have hw:IntKind.u64.wrap (65536 - (A:Int))=65536 - (A:Int):=by rw[IntKind.wrap_u64];omega
  have h2:65536 - (A:Int)<16:=by omega
  go_wp2_with fail;refine hen.out.mono ?_;rintro r V9 ⟨rfl,h9,hB9⟩;replace hB:=ζ (hB.out.trans hB9);replace h9:=ζ h9;clear hen hB9;go_wp2_with fail
  first|go_end0|((try simp only[Exit.inBlock,Exit.then]);refine xre ?_)
  exact⟨rfl,h9.out.drop,hB.out⟩
theorem le_next (m:Nat→UInt8)(A j:Nat)(h:j<8):IntKind.u64.wrap ((T.leB m A (min j 8):Nat)+IntKind.u64.wrap (IntKind.u64.wrap ((m (A+j)).toNat:Int)*2^(8*j)))=((T.leB m A (min (j+1) 8):Nat):Int):=by
 rw[show min (j+1) 8=j+1 by omega,show min j 8=j by omega];have hb:=(m (A+j)).toNat_lt;have e:T.leB m A (j+1)=T.leB m A j+(m (A+j)).toNat*2^(8*j):=rfl;have lt:=T.leB_lt m A (j+1);have l64:2^(8*(j+1))≤18446744073709551616:=Nat.le_trans (Nat.pow_le_pow_right (by omega) (show 8*(j+1)≤64 by omega)) (by decide);have hc:((m (A+j)).toNat:Int)*2^(8*j)=(((m (A+j)).toNat*2^(8*j):Nat):Int):=by simp
 rw[IntKind.wrap_u64,IntKind.wrap_u64,IntKind.wrap_u64,Int.emod_eq_of_lt (a:=((m (A+j)).toNat:Int)) (by omega) (by omega),hc];generalize (m (A+j)).toNat*2^(8*j)=X at*;rw[Int.emod_eq_of_lt (a:=(X:Int)) (by omega) (by omega),Int.emod_eq_of_lt (by omega) (by omega)];omega
theorem dml60 (B:Nat)(W0:World)(b:Nat)(c:Dc)(P:Pr)(s:Fm)(og op:Nat)(l:List Ob)(ia ib ic:Nat)(imm:Int)(h:DIo B W0 b c P s og op l)(hb:ib<16)(A:Nat)(hA:IntKind.u64.wrap (s.r ib+imm)=(A:Int))(ha:ia<16)(hf:A≤65536 - 1)(htl:s.tc.length≤1000000)(hp:s.p≤1000000):
 Calls Tryz.prog 57 #[.pointer (some ⟨b,0,none⟩),.agg #[.int .u8 60,.int .i64 ia,.int .i64 ib,.int .i64 ic,.int .u64 imm]] W0 fun x w'=>x=.returned (.tuple #[])∧DIo B w' b c P ({s with r:=updR s.r ia (T.leB s.m A 1:Nat),tc:=s.tc++[⟨false,(A:Int),1⟩],p:=s.p+1}) og op l∧Below B W0 w':=by
 have h2:=ζ (h.new #[.int .u8 60,.int .i64 ia,.int .i64 ib,.int .i64 ic,.int .u64 imm] 53);clear h;go_enter Tryz.func57,Tryz.ntmps57;go_upto_region 1 with fail
 refine wp_world (fun W=>DIo B W b c P s og op (boxOb W0.heap.size #[.int .u8 60,.int .i64 ia,.int .i64 ib,.int .i64 ic,.int .u64 imm]::l)∧Below B W0 W) h2.out ?_;rintro W ⟨h,hB⟩;replace h:=ζ h;replace hB:=ζ hB;clear h2;generalize W0.heap.size=kb at*;have KS:=xk2 60 ia ib ic imm kb;have k0:W.cell? ⟨kb,0,none⟩=some (.int .u8 60):=(h.out.there (boxOb kb #[.int .u8 60,.int .i64 ia,.int .i64 ib,.int .i64 ic,.int .u64 imm]) (.head _)).2.1 0;have hbi:(ib:Int)<16:=by omega
 have hkb:kb<W.heap.size:=(h.out.there (boxOb kb #[.int .u8 60,.int .i64 ia,.int .i64 ib,.int .i64 ic,.int .u64 imm]) (.head _)).1;have hne:¬W.heap.size=kb:=by omega
 go_upto_region 2 with fail;refine wp_world (fun X=>DIo B X b c P s og op (boxOb kb #[.int .u8 60,.int .i64 ia,.int .i64 ib,.int .i64 ic,.int .u64 imm]::l)∧Below B W0 X) ⟨h.out.gr ((Gr.refl W).alloc _).below,hB.out.trans (((Gr.refl W).alloc _).below.mono h.out.le)⟩ ?_;clear h hB k0 hkb hne;rintro V ⟨h,hB⟩;replace hB:=ζ (hB.trans (((Gr.refl V).drew).below.mono h.le));replace h:=ζ (h.gr ((Gr.refl V).drew).below);have k2:V.drew.cell? ⟨kb,2,none⟩=some (.int .i64 ib):=(h.out.there (boxOb kb #[.int .u8 60,.int .i64 ia,.int .i64 ib,.int .i64 ic,.int .u64 imm]) (.head _)).2.1 2;have k4:V.drew.cell? ⟨kb,4,none⟩=some (.int .u64 imm):=(h.out.there (boxOb kb #[.int .u8 60,.int .i64 ia,.int .i64 ib,.int .i64 ic,.int .u64 imm]) (.head _)).2.1 4;have kr:V.drew.cell? ⟨b,6+ib,none⟩=some (.int .u64 (s.r ib)):=h.out.hand.2.2 ib _ (regs_at s.r ib hb);refine wp_region_held_drew (S:=(fun X=>(X.cell? ⟨kb,2,none⟩=some (.int .i64 ib))∧X.cell? ⟨kb,4,none⟩=some (.int .u64 imm)∧X.cell? ⟨b,6+ib,none⟩=some (.int .u64 (s.r ib)))) (by kernel_rfl) (⟨k2,k4,kr⟩) (fun hHeld=>?_)
 refine xz 0 rfl (h:=xz 1 rfl (h:=xz 2 rfl (h:=xz 3 rfl (h:=xz 4 rfl (h:=xz 5 rfl (h:=xz 6 rfl (h:=xz 7 rfl (h:=xz 8 rfl (h:=?_)))))))));try simp only[xap]
 refine xtk 9 (v:=.int .u64 (A:Int)) rfl (Or.inl ⟨by rfl,?_⟩) ?_
 ·intro w hSw;(try dsimp only at hSw);go_simp;first|done|(rw[hA])
 try simp only[xap]
 refine xz 10 rfl (h:=?_);try simp only[xap]
 refine xdn ?_ _;clear hHeld k2 k4 kr;generalize V.drew=V1 at*;have h1:¬(65536:Int)≤(A:Int):=by omega
 have hw:IntKind.u64.wrap (65536 - (A:Int))=65536 - (A:Int):=by rw[IntKind.wrap_u64];omega
 have h2:¬65536 - (A:Int)<1:=by omega
 have k0:V1.cell? ⟨kb,0,none⟩=some (.int .u8 60):=(h.out.there (boxOb kb #[.int .u8 60,.int .i64 ia,.int .i64 ib,.int .i64 ic,.int .u64 imm]) (.head _)).2.1 0;have hai:(ia:Int)<16:=by omega
 go_upto_region 7 with fail;clear k0 h1 hw h2;have k1:V1.drew.cell? ⟨kb,1,none⟩=some (.int .i64 ia):=(h.out.there (boxOb kb #[.int .u8 60,.int .i64 ia,.int .i64 ib,.int .i64 ic,.int .u64 imm]) (.head _)).2.1 1;have kr:V1.drew.cell? ⟨b,6+ia,none⟩=some (.int .u64 (s.r ia)):=h.out.hand.2.2 ia _ (regs_at s.r ia ha);refine wp_region_held_drew (S:=(fun X=>(X.cell? ⟨kb,1,none⟩=some (.int .i64 ia))∧X.cell? ⟨b,6+ia,none⟩=some (.int .u64 (s.r ia)))) (by kernel_rfl) (⟨k1,kr⟩) (fun hHeld=>?_);refine xz 0 rfl (h:=xz 1 rfl (h:=xz 2 rfl (h:=xz 3 rfl (h:=xz 4 rfl (h:=xz 5 rfl (h:=xz 6 rfl (h:=xz 7 rfl (h:=?_))))))));try simp only[xap]
 refine xdn ?_ _;clear hHeld k1 kr;replace hB:=ζ (hB.out.trans (((Gr.refl V1).drew).below.mono h.out.le));replace h:=ζ (h.out.gr ((Gr.refl V1).drew).below);generalize V1.drew=V2 at*;obtain⟨gm,km,c23,hgm,hmem,_⟩:=h.out.mem;go_upto_region 9 with fail
 go_loopw [7,9] (fun y x wr=>∃j N:Nat,x=.int .u64 j∧y=.int .u64 N∧j≤1∧Hz (N=T.leB s.m A (min j 8))∧wr=V2) (fun _ x _=>1 - (intOf x).toNat)
 case atStart=>exact⟨0,0,rfl,rfl,by omega,ζ rfl,rfl⟩
 case round=>
  obtain⟨j,N,rfl,rfl,hj,hN,rfl⟩:=hrel;by_cases hq:j<1
  ·have hq1:(j:Int)<1:=by omega
   have hw1:IntKind.u64.wrap ((j:Int)+1)=(j:Int)+1:=by rw[IntKind.wrap_u64];omega
   have h8:j<8:=by omega
   have h81:(j:Int)<8:=by omega
   have hwa:IntKind.u64.wrap ((A:Int)+(j:Int))=(A:Int)+(j:Int):=by rw[IntKind.wrap_u64];omega
   have hw8:IntKind.u64.wrap (8*(j:Int))=8*(j:Int):=by rw[IntKind.wrap_u64];omega
   have hix:(A:Int)+(j:Int)<65536:=by omega
   have cm:=(hmem (A+j) (by omega)).1;have hnx:=ζ (le_next s.m A j h8);rw[←hN.out]at hnx;go_wp2_with fail;refine And.intro (Exists.intro (j+1) (Exists.intro (T.leB s.m A (min (j+1) 8)) ⟨rfl,congrArg (Value.int IntKind.u64) hnx.out,by omega,ζ rfl,trivial⟩)) ?_;simp[intOf];omega
  ·have hq1:¬(j:Int)<1:=by omega
   obtain rfl:j=1:=by omega
   have hN2:Hz (N=T.leB s.m A 1):=ζ hN.out;clear hN hmem c23 hgm;go_upto_region 17 with fail
   have gd:Gr wr wr.drew:=(Gr.refl wr).drew;replace hB:=ζ (hB.out.trans (gd.below.mono h.out.le));have hd:=ζ (h.out.gr gd.below);clear gd h;have rr:∃y,wr.drew.cell? ⟨b,6+ia,none⟩=some y:=by obtain⟨q,hq⟩:=hd.out.box;exact⟨_,hq.at_ (6+ia) (by omega)⟩
   obtain⟨y0,rr⟩:=rr;have rf:wr.drew.frozen? ⟨b,6+ia,none⟩=false:=by obtain⟨q,hq⟩:=hd.out.box;exact hq.fr _
   have hlt:b<wr.drew.heap.size:=by obtain⟨q,hq⟩:=hd.out.box;exact hq.lt
   have hrg:=ζ (hd.out.reg ia ha (N:Int));refine wp_region_held_drew (S:=(fun W=>W.cell? ⟨kb,0,none⟩=some (.int .u8 60)∧W.cell? ⟨kb,1,none⟩=some (.int .i64 ia)∧W.cell? ⟨kb,2,none⟩=some (.int .i64 ib)∧W.cell? ⟨kb,3,none⟩=some (.int .i64 ic)∧W.cell? ⟨kb,4,none⟩=some (.int .u64 imm))) (by kernel_rfl) (KS.out _ (hd.out.there (boxOb kb #[.int .u8 60,.int .i64 ia,.int .i64 ib,.int .i64 ic,.int .u64 imm]) (.head _))) (fun hHeld=>?_);generalize wr.drew=V3 at*;refine xz 0 rfl (h:=xz 1 rfl (h:=xz 2 rfl (h:=xz 3 rfl (h:=xz 4 rfl (h:=xz 5 rfl (h:=xz 6 rfl (h:=?_)))))));try simp only[xap]
   refine xrd 7 rfl (fun K hK=>?_);go_simp;refine hK.out _ _ (KS.out _ (hrg.out.1.there (boxOb kb #[.int .u8 60,.int .i64 ia,.int .i64 ib,.int .i64 ic,.int .u64 imm]) (.head _))) (fun hHeld=>?_);clear hK K;try simp only[xap]
   refine xdn ?_ _;clear hHeld rr rf hlt;replace hB:=ζ (hB.out.trans hrg.out.2);have h:=ζ hrg.out.1;clear hrg hd;generalize World.setCell _ _ _=V4 at*;obtain⟨q,ta,tk,hq,c26,hO2,hap⟩:=h.out.appT ⟨false,(A:Int),1⟩;have hlt:=hq.lt;have hleW:=h.out.le;clear hq;replace hO2:=ζ hO2;replace hap:=ζ hap;have hxs:∃xs,s.tc.flatMap Tc.vals=xs:=⟨_,rfl⟩;obtain⟨xs,hxs⟩:=hxs;rw[hxs]at hO2 hap;clear hxs;go_upto_region 18 with fail
   refine wp_region_lit ?_;iterate 10 (refine xp fun K hK=>?_;go_simp;with_reducible refine hK _ _ ?_;clear hK K;(try simp only[xap]))
   have hX:At (V4.alloc (.cells (List.toArray [Value.bool false,.int .u64 (A:Int),.int .u64 1]) 67)) V4.heap.size (List.toArray [Value.bool false,.int .u64 (A:Int),.int .u64 1]):=At.new V4 _ _;have gX:Gr V4 (V4.alloc (.cells (List.toArray [Value.bool false,.int .u64 (A:Int),.int .u64 1]) 67)):=(Gr.refl V4).alloc _;generalize V4.alloc (.cells (List.toArray [Value.bool false,.int .u64 (A:Int),.int .u64 1]) 67)=VX at*;generalize V4.heap.size=kX at hX ⊢;refine xp fun K hK=>?_
   refine wp_append_z _ _ 64 67 (.agg #[.bool false,.int .u64 0,.int .u64 0]) 3 24 rfl Tryz.underlying64 (by kernel_rfl) (by kernel_rfl) (by decide) (by decide) B (.slice ta s.tc.length tk) s.tc.length xs [Value.bool false,.int .u64 (A:Int),.int .u64 1] (by rfl) (hO2.out VX gX.below) kX (by rfl) hX rfl (by simp[Value.oneCell']) htl (Nat.le_trans hleW gX.below.size) ?_;intro g cap W2 k1 k2 k3;obtain⟨hq2,hA2,hM,hBe⟩:=hap.out VX W2 g cap gX.below k1 k2 k3;have cu:W2.cell? ⟨b,26,none⟩=some _:=hq2.at_ 26 (by omega);have fu:=hq2.fr 26;have hlt2:=hq2.lt;replace hM:=ζ hM;clear hap hO2 k1 k2 k3 hq2 hA2 hX gX;with_reducible refine hK _ _ ?_
   clear hK K;try simp only[xap]
   iterate 2 (refine xp fun K hK=>?_;go_simp;with_reducible refine hK _ _ ?_;clear hK K;(try simp only[xap]))
   refine xp fun K hK=>?_
   go_simp;with_reducible refine hK _ _ ?_
   clear hK K;try simp only[Act.put]
   replace hB:=ζ (hB.out.trans hBe);clear hBe h cu fu hlt2 hlt c26 hleW;generalize World.setCell _ _ _=V5 at*;have h:=hM;clear hM;have c5:V5.cell? ⟨b,5,none⟩=some (.int .i64 s.p):=by obtain⟨q,hq⟩:=h.out.box;exact hq.at_ 5 (by omega)
   have f5:V5.frozen? ⟨b,5,none⟩=false:=by obtain⟨q,hq⟩:=h.out.box;exact hq.fr 5
   have hlt:b<V5.heap.size:=by obtain⟨q,hq⟩:=h.out.box;exact hq.lt
   have hw5:wrap64 ((s.p:Int)+1)=(s.p:Int)+1:=by unfold wrap64;omega
   have hpc:=ζ h.out.pc;go_wp2_with fail
   first|go_end0|((try simp only[Exit.inBlock,Exit.then]);refine xre ?_)
   rw[←hN2.out];refine⟨rfl,hpc.out.1.drop,hB.out.trans hpc.out.2⟩
theorem dml61 (B:Nat)(W0:World)(b:Nat)(c:Dc)(P:Pr)(s:Fm)(og op:Nat)(l:List Ob)(ia ib ic:Nat)(imm:Int)(h:DIo B W0 b c P s og op l)(hb:ib<16)(A:Nat)(hA:IntKind.u64.wrap (s.r ib+imm)=(A:Int))(ha:ia<16)(hf:A≤65536 - 8)(htl:s.tc.length≤1000000)(hp:s.p≤1000000):
 Calls Tryz.prog 57 #[.pointer (some ⟨b,0,none⟩),.agg #[.int .u8 61,.int .i64 ia,.int .i64 ib,.int .i64 ic,.int .u64 imm]] W0 fun x w'=>x=.returned (.tuple #[])∧DIo B w' b c P ({s with r:=updR s.r ia (T.leB s.m A 8:Nat),tc:=s.tc++[⟨false,(A:Int),8⟩],p:=s.p+1}) og op l∧Below B W0 w':=by
 have h2:=ζ (h.new #[.int .u8 61,.int .i64 ia,.int .i64 ib,.int .i64 ic,.int .u64 imm] 53);clear h;go_enter Tryz.func57,Tryz.ntmps57;go_upto_region 1 with fail
 refine wp_world (fun W=>DIo B W b c P s og op (boxOb W0.heap.size #[.int .u8 61,.int .i64 ia,.int .i64 ib,.int .i64 ic,.int .u64 imm]::l)∧Below B W0 W) h2.out ?_;rintro W ⟨h,hB⟩;replace h:=ζ h;replace hB:=ζ hB;clear h2;generalize W0.heap.size=kb at*;have KS:=xk2 61 ia ib ic imm kb;have k0:W.cell? ⟨kb,0,none⟩=some (.int .u8 61):=(h.out.there (boxOb kb #[.int .u8 61,.int .i64 ia,.int .i64 ib,.int .i64 ic,.int .u64 imm]) (.head _)).2.1 0;have hbi:(ib:Int)<16:=by omega
 have hkb:kb<W.heap.size:=(h.out.there (boxOb kb #[.int .u8 61,.int .i64 ia,.int .i64 ib,.int .i64 ic,.int .u64 imm]) (.head _)).1;have hne:¬W.heap.size=kb:=by omega
 go_upto_region 2 with fail;refine wp_world (fun X=>DIo B X b c P s og op (boxOb kb #[.int .u8 61,.int .i64 ia,.int .i64 ib,.int .i64 ic,.int .u64 imm]::l)∧Below B W0 X) ⟨h.out.gr ((Gr.refl W).alloc _).below,hB.out.trans (((Gr.refl W).alloc _).below.mono h.out.le)⟩ ?_;clear h hB k0 hkb hne;rintro V ⟨h,hB⟩;replace hB:=ζ (hB.trans (((Gr.refl V).drew).below.mono h.le));replace h:=ζ (h.gr ((Gr.refl V).drew).below);have k2:V.drew.cell? ⟨kb,2,none⟩=some (.int .i64 ib):=(h.out.there (boxOb kb #[.int .u8 61,.int .i64 ia,.int .i64 ib,.int .i64 ic,.int .u64 imm]) (.head _)).2.1 2;have k4:V.drew.cell? ⟨kb,4,none⟩=some (.int .u64 imm):=(h.out.there (boxOb kb #[.int .u8 61,.int .i64 ia,.int .i64 ib,.int .i64 ic,.int .u64 imm]) (.head _)).2.1 4;have kr:V.drew.cell? ⟨b,6+ib,none⟩=some (.int .u64 (s.r ib)):=h.out.hand.2.2 ib _ (regs_at s.r ib hb);refine wp_region_held_drew (S:=(fun X=>(X.cell? ⟨kb,2,none⟩=some (.int .i64 ib))∧X.cell? ⟨kb,4,none⟩=some (.int .u64 imm)∧X.cell? ⟨b,6+ib,none⟩=some (.int .u64 (s.r ib)))) (by kernel_rfl) (⟨k2,k4,kr⟩) (fun hHeld=>?_)
 refine xz 0 rfl (h:=xz 1 rfl (h:=xz 2 rfl (h:=xz 3 rfl (h:=xz 4 rfl (h:=xz 5 rfl (h:=xz 6 rfl (h:=xz 7 rfl (h:=xz 8 rfl (h:=?_)))))))));try simp only[xap]
 refine xtk 9 (v:=.int .u64 (A:Int)) rfl (Or.inl ⟨by rfl,?_⟩) ?_
 ·intro w hSw;(try dsimp only at hSw);go_simp;first|done|(rw[hA])
 try simp only[xap]
 refine xz 10 rfl (h:=?_);try simp only[xap]
 refine xdn ?_ _;clear hHeld k2 k4 kr;generalize V.drew=V1 at*;have h1:¬(65536:Int)≤(A:Int):=by omega
 have hw:IntKind.u64.wrap (65536 - (A:Int))=65536 - (A:Int):=by rw[IntKind.wrap_u64];omega
 have h2:¬65536 - (A:Int)<8:=by omega
 have k0:V1.cell? ⟨kb,0,none⟩=some (.int .u8 61):=(h.out.there (boxOb kb #[.int .u8 61,.int .i64 ia,.int .i64 ib,.int .i64 ic,.int .u64 imm]) (.head _)).2.1 0;have hai:(ia:Int)<16:=by omega
 go_upto_region 7 with fail;clear k0 h1 hw h2;have k1:V1.drew.cell? ⟨kb,1,none⟩=some (.int .i64 ia):=(h.out.there (boxOb kb #[.int .u8 61,.int .i64 ia,.int .i64 ib,.int .i64 ic,.int .u64 imm]) (.head _)).2.1 1;have kr:V1.drew.cell? ⟨b,6+ia,none⟩=some (.int .u64 (s.r ia)):=h.out.hand.2.2 ia _ (regs_at s.r ia ha);refine wp_region_held_drew (S:=(fun X=>(X.cell? ⟨kb,1,none⟩=some (.int .i64 ia))∧X.cell? ⟨b,6+ia,none⟩=some (.int .u64 (s.r ia)))) (by kernel_rfl) (⟨k1,kr⟩) (fun hHeld=>?_);refine xz 0 rfl (h:=xz 1 rfl (h:=xz 2 rfl (h:=xz 3 rfl (h:=xz 4 rfl (h:=xz 5 rfl (h:=xz 6 rfl (h:=xz 7 rfl (h:=?_))))))));try simp only[xap]
 refine xdn ?_ _;clear hHeld k1 kr;replace hB:=ζ (hB.out.trans (((Gr.refl V1).drew).below.mono h.out.le));replace h:=ζ (h.out.gr ((Gr.refl V1).drew).below);generalize V1.drew=V2 at*;obtain⟨gm,km,c23,hgm,hmem,_⟩:=h.out.mem;go_upto_region 9 with fail
 go_loopw [7,9] (fun y x wr=>∃j N:Nat,x=.int .u64 j∧y=.int .u64 N∧j≤8∧Hz (N=T.leB s.m A (min j 8))∧wr=V2) (fun _ x _=>8 - (intOf x).toNat)
 case atStart=>exact⟨0,0,rfl,rfl,by omega,ζ rfl,rfl⟩
 case round=>
  obtain⟨j,N,rfl,rfl,hj,hN,rfl⟩:=hrel;by_cases hq:j<8
  ·have hq1:(j:Int)<8:=by omega
   have hw1:IntKind.u64.wrap ((j:Int)+1)=(j:Int)+1:=by rw[IntKind.wrap_u64];omega
   have h8:j<8:=by omega
   have h81:(j:Int)<8:=by omega
   have hwa:IntKind.u64.wrap ((A:Int)+(j:Int))=(A:Int)+(j:Int):=by rw[IntKind.wrap_u64];omega
   have hw8:IntKind.u64.wrap (8*(j:Int))=8*(j:Int):=by rw[IntKind.wrap_u64];omega
   have hix:(A:Int)+(j:Int)<65536:=by omega
   have cm:=(hmem (A+j) (by omega)).1;have hnx:=ζ (le_next s.m A j h8);rw[←hN.out]at hnx;go_wp2_with fail;refine And.intro (Exists.intro (j+1) (Exists.intro (T.leB s.m A (min (j+1) 8)) ⟨rfl,congrArg (Value.int IntKind.u64) hnx.out,by omega,ζ rfl,trivial⟩)) ?_;simp[intOf];omega
  ·have hq1:¬(j:Int)<8:=by omega
   obtain rfl:j=8:=by omega
   have hN2:Hz (N=T.leB s.m A 8):=ζ hN.out;clear hN hmem c23 hgm;go_upto_region 17 with fail
   have gd:Gr wr wr.drew:=(Gr.refl wr).drew;replace hB:=ζ (hB.out.trans (gd.below.mono h.out.le));have hd:=ζ (h.out.gr gd.below);clear gd h;have rr:∃y,wr.drew.cell? ⟨b,6+ia,none⟩=some y:=by obtain⟨q,hq⟩:=hd.out.box;exact⟨_,hq.at_ (6+ia) (by omega)⟩
   obtain⟨y0,rr⟩:=rr;have rf:wr.drew.frozen? ⟨b,6+ia,none⟩=false:=by obtain⟨q,hq⟩:=hd.out.box;exact hq.fr _
   have hlt:b<wr.drew.heap.size:=by obtain⟨q,hq⟩:=hd.out.box;exact hq.lt
   have hrg:=ζ (hd.out.reg ia ha (N:Int));refine wp_region_held_drew (S:=(fun W=>W.cell? ⟨kb,0,none⟩=some (.int .u8 61)∧W.cell? ⟨kb,1,none⟩=some (.int .i64 ia)∧W.cell? ⟨kb,2,none⟩=some (.int .i64 ib)∧W.cell? ⟨kb,3,none⟩=some (.int .i64 ic)∧W.cell? ⟨kb,4,none⟩=some (.int .u64 imm))) (by kernel_rfl) (KS.out _ (hd.out.there (boxOb kb #[.int .u8 61,.int .i64 ia,.int .i64 ib,.int .i64 ic,.int .u64 imm]) (.head _))) (fun hHeld=>?_);generalize wr.drew=V3 at*;refine xz 0 rfl (h:=xz 1 rfl (h:=xz 2 rfl (h:=xz 3 rfl (h:=xz 4 rfl (h:=xz 5 rfl (h:=xz 6 rfl (h:=?_)))))));try simp only[xap]
   refine xrd 7 rfl (fun K hK=>?_);go_simp;refine hK.out _ _ (KS.out _ (hrg.out.1.there (boxOb kb #[.int .u8 61,.int .i64 ia,.int .i64 ib,.int .i64 ic,.int .u64 imm]) (.head _))) (fun hHeld=>?_);clear hK K;try simp only[xap]
   refine xdn ?_ _;clear hHeld rr rf hlt;replace hB:=ζ (hB.out.trans hrg.out.2);have h:=ζ hrg.out.1;clear hrg hd;generalize World.setCell _ _ _=V4 at*;obtain⟨q,ta,tk,hq,c26,hO2,hap⟩:=h.out.appT ⟨false,(A:Int),8⟩;have hlt:=hq.lt;have hleW:=h.out.le;clear hq;replace hO2:=ζ hO2;replace hap:=ζ hap;have hxs:∃xs,s.tc.flatMap Tc.vals=xs:=⟨_,rfl⟩;obtain⟨xs,hxs⟩:=hxs;rw[hxs]at hO2 hap;clear hxs;go_upto_region 18 with fail
   refine wp_region_lit ?_;iterate 10 (refine xp fun K hK=>?_;go_simp;with_reducible refine hK _ _ ?_;clear hK K;(try simp only[xap]))
   have hX:At (V4.alloc (.cells (List.toArray [Value.bool false,.int .u64 (A:Int),.int .u64 8]) 67)) V4.heap.size (List.toArray [Value.bool false,.int .u64 (A:Int),.int .u64 8]):=At.new V4 _ _;have gX:Gr V4 (V4.alloc (.cells (List.toArray [Value.bool false,.int .u64 (A:Int),.int .u64 8]) 67)):=(Gr.refl V4).alloc _;generalize V4.alloc (.cells (List.toArray [Value.bool false,.int .u64 (A:Int),.int .u64 8]) 67)=VX at*;generalize V4.heap.size=kX at hX ⊢;refine xp fun K hK=>?_
   refine wp_append_z _ _ 64 67 (.agg #[.bool false,.int .u64 0,.int .u64 0]) 3 24 rfl Tryz.underlying64 (by kernel_rfl) (by kernel_rfl) (by decide) (by decide) B (.slice ta s.tc.length tk) s.tc.length xs [Value.bool false,.int .u64 (A:Int),.int .u64 8] (by rfl) (hO2.out VX gX.below) kX (by rfl) hX rfl (by simp[Value.oneCell']) htl (Nat.le_trans hleW gX.below.size) ?_;intro g cap W2 k1 k2 k3;obtain⟨hq2,hA2,hM,hBe⟩:=hap.out VX W2 g cap gX.below k1 k2 k3;have cu:W2.cell? ⟨b,26,none⟩=some _:=hq2.at_ 26 (by omega);have fu:=hq2.fr 26;have hlt2:=hq2.lt;replace hM:=ζ hM;clear hap hO2 k1 k2 k3 hq2 hA2 hX gX;with_reducible refine hK _ _ ?_
   clear hK K;try simp only[xap]
   iterate 2 (refine xp fun K hK=>?_;go_simp;with_reducible refine hK _ _ ?_;clear hK K;(try simp only[xap]))
   refine xp fun K hK=>?_
   go_simp;with_reducible refine hK _ _ ?_
   clear hK K;try simp only[Act.put]
   replace hB:=ζ (hB.out.trans hBe);clear hBe h cu fu hlt2 hlt c26 hleW;generalize World.setCell _ _ _=V5 at*;have h:=hM;clear hM;have c5:V5.cell? ⟨b,5,none⟩=some (.int .i64 s.p):=by obtain⟨q,hq⟩:=h.out.box;exact hq.at_ 5 (by omega)
   have f5:V5.frozen? ⟨b,5,none⟩=false:=by obtain⟨q,hq⟩:=h.out.box;exact hq.fr 5
   have hlt:b<V5.heap.size:=by obtain⟨q,hq⟩:=h.out.box;exact hq.lt
   have hw5:wrap64 ((s.p:Int)+1)=(s.p:Int)+1:=by unfold wrap64;omega
   have hpc:=ζ h.out.pc;go_wp2_with fail
   first|go_end0|((try simp only[Exit.inBlock,Exit.then]);refine xre ?_)
   rw[←hN2.out];refine⟨rfl,hpc.out.1.drop,hB.out.trans hpc.out.2⟩
theorem dml64 (B:Nat)(W0:World)(b:Nat)(c:Dc)(P:Pr)(s:Fm)(og op:Nat)(l:List Ob)(ia ib ic:Nat)(imm:Int)(h:DIo B W0 b c P s og op l)(hb:ib<16)(A:Nat)(hA:IntKind.u64.wrap (s.r ib+imm)=(A:Int))(ha:ia<16)(hf:A≤65536 - 16)(htl:s.tc.length≤1000000)(hp:s.p≤1000000):
 Calls Tryz.prog 57 #[.pointer (some ⟨b,0,none⟩),.agg #[.int .u8 64,.int .i64 ia,.int .i64 ib,.int .i64 ic,.int .u64 imm]] W0 fun x w'=>x=.returned (.tuple #[])∧DIo B w' b c P ({s with r:=updR s.r ia (T.leB s.m A 8:Nat),tc:=s.tc++[⟨false,(A:Int),16⟩],p:=s.p+1}) og op l∧Below B W0 w':=by
 have h2:=ζ (h.new #[.int .u8 64,.int .i64 ia,.int .i64 ib,.int .i64 ic,.int .u64 imm] 53);clear h;go_enter Tryz.func57,Tryz.ntmps57;go_upto_region 1 with fail
 refine wp_world (fun W=>DIo B W b c P s og op (boxOb W0.heap.size #[.int .u8 64,.int .i64 ia,.int .i64 ib,.int .i64 ic,.int .u64 imm]::l)∧Below B W0 W) h2.out ?_;rintro W ⟨h,hB⟩;replace h:=ζ h;replace hB:=ζ hB;clear h2;generalize W0.heap.size=kb at*;have KS:=xk2 64 ia ib ic imm kb;have k0:W.cell? ⟨kb,0,none⟩=some (.int .u8 64):=(h.out.there (boxOb kb #[.int .u8 64,.int .i64 ia,.int .i64 ib,.int .i64 ic,.int .u64 imm]) (.head _)).2.1 0;have hbi:(ib:Int)<16:=by omega
 have hkb:kb<W.heap.size:=(h.out.there (boxOb kb #[.int .u8 64,.int .i64 ia,.int .i64 ib,.int .i64 ic,.int .u64 imm]) (.head _)).1;have hne:¬W.heap.size=kb:=by omega
 go_upto_region 2 with fail;refine wp_world (fun X=>DIo B X b c P s og op (boxOb kb #[.int .u8 64,.int .i64 ia,.int .i64 ib,.int .i64 ic,.int .u64 imm]::l)∧Below B W0 X) ⟨h.out.gr ((Gr.refl W).alloc _).below,hB.out.trans (((Gr.refl W).alloc _).below.mono h.out.le)⟩ ?_;clear h hB k0 hkb hne;rintro V ⟨h,hB⟩;replace hB:=ζ (hB.trans (((Gr.refl V).drew).below.mono h.le));replace h:=ζ (h.gr ((Gr.refl V).drew).below);have k2:V.drew.cell? ⟨kb,2,none⟩=some (.int .i64 ib):=(h.out.there (boxOb kb #[.int .u8 64,.int .i64 ia,.int .i64 ib,.int .i64 ic,.int .u64 imm]) (.head _)).2.1 2;have k4:V.drew.cell? ⟨kb,4,none⟩=some (.int .u64 imm):=(h.out.there (boxOb kb #[.int .u8 64,.int .i64 ia,.int .i64 ib,.int .i64 ic,.int .u64 imm]) (.head _)).2.1 4;have kr:V.drew.cell? ⟨b,6+ib,none⟩=some (.int .u64 (s.r ib)):=h.out.hand.2.2 ib _ (regs_at s.r ib hb);refine wp_region_held_drew (S:=(fun X=>(X.cell? ⟨kb,2,none⟩=some (.int .i64 ib))∧X.cell? ⟨kb,4,none⟩=some (.int .u64 imm)∧X.cell? ⟨b,6+ib,none⟩=some (.int .u64 (s.r ib)))) (by kernel_rfl) (⟨k2,k4,kr⟩) (fun hHeld=>?_)
 refine xz 0 rfl (h:=xz 1 rfl (h:=xz 2 rfl (h:=xz 3 rfl (h:=xz 4 rfl (h:=xz 5 rfl (h:=xz 6 rfl (h:=xz 7 rfl (h:=xz 8 rfl (h:=?_)))))))));try simp only[xap]
 refine xtk 9 (v:=.int .u64 (A:Int)) rfl (Or.inl ⟨by rfl,?_⟩) ?_
 ·intro w hSw;(try dsimp only at hSw);go_simp;first|done|(rw[hA])
 try simp only[xap]
 refine xz 10 rfl (h:=?_);try simp only[xap]
 refine xdn ?_ _;clear hHeld k2 k4 kr;generalize V.drew=V1 at*;have h1:¬(65536:Int)≤(A:Int):=by omega
 have hw:IntKind.u64.wrap (65536 - (A:Int))=65536 - (A:Int):=by rw[IntKind.wrap_u64];omega
 have h2:¬65536 - (A:Int)<16:=by omega
 have k0:V1.cell? ⟨kb,0,none⟩=some (.int .u8 64):=(h.out.there (boxOb kb #[.int .u8 64,.int .i64 ia,.int .i64 ib,.int .i64 ic,.int .u64 imm]) (.head _)).2.1 0;have hai:(ia:Int)<16:=by omega
 go_upto_region 7 with fail;clear k0 h1 hw h2;have k1:V1.drew.cell? ⟨kb,1,none⟩=some (.int .i64 ia):=(h.out.there (boxOb kb #[.int .u8 64,.int .i64 ia,.int .i64 ib,.int .i64 ic,.int .u64 imm]) (.head _)).2.1 1;have kr:V1.drew.cell? ⟨b,6+ia,none⟩=some (.int .u64 (s.r ia)):=h.out.hand.2.2 ia _ (regs_at s.r ia ha);refine wp_region_held_drew (S:=(fun X=>(X.cell? ⟨kb,1,none⟩=some (.int .i64 ia))∧X.cell? ⟨b,6+ia,none⟩=some (.int .u64 (s.r ia)))) (by kernel_rfl) (⟨k1,kr⟩) (fun hHeld=>?_);refine xz 0 rfl (h:=xz 1 rfl (h:=xz 2 rfl (h:=xz 3 rfl (h:=xz 4 rfl (h:=xz 5 rfl (h:=xz 6 rfl (h:=xz 7 rfl (h:=?_))))))));try simp only[xap]
 refine xdn ?_ _;clear hHeld k1 kr;replace hB:=ζ (hB.out.trans (((Gr.refl V1).drew).below.mono h.out.le));replace h:=ζ (h.out.gr ((Gr.refl V1).drew).below);generalize V1.drew=V2 at*;obtain⟨gm,km,c23,hgm,hmem,_⟩:=h.out.mem;go_upto_region 9 with fail
 go_loopw [7,9] (fun y x wr=>∃j N:Nat,x=.int .u64 j∧y=.int .u64 N∧j≤16∧Hz (N=T.leB s.m A (min j 8))∧wr=V2) (fun _ x _=>16 - (intOf x).toNat)
 case atStart=>exact⟨0,0,rfl,rfl,by omega,ζ rfl,rfl⟩
 case round=>
  obtain⟨j,N,rfl,rfl,hj,hN,rfl⟩:=hrel;by_cases hq:j<16
  ·have hq1:(j:Int)<16:=by omega
   have hw1:IntKind.u64.wrap ((j:Int)+1)=(j:Int)+1:=by rw[IntKind.wrap_u64];omega
   by_cases h8:j<8
   ·have h81:(j:Int)<8:=by omega
    have hwa:IntKind.u64.wrap ((A:Int)+(j:Int))=(A:Int)+(j:Int):=by rw[IntKind.wrap_u64];omega
    have hw8:IntKind.u64.wrap (8*(j:Int))=8*(j:Int):=by rw[IntKind.wrap_u64];omega
    have hix:(A:Int)+(j:Int)<65536:=by omega
    have cm:=(hmem (A+j) (by omega)).1;have hnx:=ζ (le_next s.m A j h8);rw[←hN.out]at hnx;go_wp2_with fail;refine And.intro (Exists.intro (j+1) (Exists.intro (T.leB s.m A (min (j+1) 8)) ⟨rfl,congrArg (Value.int IntKind.u64) hnx.out,by omega,ζ rfl,trivial⟩)) ?_;simp[intOf];omega
   ·have h81:¬(j:Int)<8:=by omega
    go_wp2_with fail;refine And.intro (Exists.intro (j+1) (Exists.intro N ⟨rfl,rfl,by omega,ζ (by rw[show min (j+1) 8=min j 8 by omega];exact hN.out),trivial⟩)) ?_;simp[intOf];omega
  ·have hq1:¬(j:Int)<16:=by omega
   obtain rfl:j=16:=by omega
   have hN2:Hz (N=T.leB s.m A 8):=ζ hN.out;clear hN hmem c23 hgm;go_upto_region 17 with fail
   have gd:Gr wr wr.drew:=(Gr.refl wr).drew;replace hB:=ζ (hB.out.trans (gd.below.mono h.out.le));have hd:=ζ (h.out.gr gd.below);clear gd h;have rr:∃y,wr.drew.cell? ⟨b,6+ia,none⟩=some y:=by obtain⟨q,hq⟩:=hd.out.box;exact⟨_,hq.at_ (6+ia) (by omega)⟩
   obtain⟨y0,rr⟩:=rr;have rf:wr.drew.frozen? ⟨b,6+ia,none⟩=false:=by obtain⟨q,hq⟩:=hd.out.box;exact hq.fr _
   have hlt:b<wr.drew.heap.size:=by obtain⟨q,hq⟩:=hd.out.box;exact hq.lt
   have hrg:=ζ (hd.out.reg ia ha (N:Int));refine wp_region_held_drew (S:=(fun W=>W.cell? ⟨kb,0,none⟩=some (.int .u8 64)∧W.cell? ⟨kb,1,none⟩=some (.int .i64 ia)∧W.cell? ⟨kb,2,none⟩=some (.int .i64 ib)∧W.cell? ⟨kb,3,none⟩=some (.int .i64 ic)∧W.cell? ⟨kb,4,none⟩=some (.int .u64 imm))) (by kernel_rfl) (KS.out _ (hd.out.there (boxOb kb #[.int .u8 64,.int .i64 ia,.int .i64 ib,.int .i64 ic,.int .u64 imm]) (.head _))) (fun hHeld=>?_);generalize wr.drew=V3 at*;refine xz 0 rfl (h:=xz 1 rfl (h:=xz 2 rfl (h:=xz 3 rfl (h:=xz 4 rfl (h:=xz 5 rfl (h:=xz 6 rfl (h:=?_)))))));try simp only[xap]
   refine xrd 7 rfl (fun K hK=>?_);go_simp;refine hK.out _ _ (KS.out _ (hrg.out.1.there (boxOb kb #[.int .u8 64,.int .i64 ia,.int .i64 ib,.int .i64 ic,.int .u64 imm]) (.head _))) (fun hHeld=>?_);clear hK K;try simp only[xap]
   refine xdn ?_ _;clear hHeld rr rf hlt;replace hB:=ζ (hB.out.trans hrg.out.2);have h:=ζ hrg.out.1;clear hrg hd;generalize World.setCell _ _ _=V4 at*;obtain⟨q,ta,tk,hq,c26,hO2,hap⟩:=h.out.appT ⟨false,(A:Int),16⟩;have hlt:=hq.lt;have hleW:=h.out.le;clear hq;replace hO2:=ζ hO2;replace hap:=ζ hap;have hxs:∃xs,s.tc.flatMap Tc.vals=xs:=⟨_,rfl⟩;obtain⟨xs,hxs⟩:=hxs;rw[hxs]at hO2 hap;clear hxs;go_upto_region 18 with fail
   refine wp_region_lit ?_;iterate 10 (refine xp fun K hK=>?_;go_simp;with_reducible refine hK _ _ ?_;clear hK K;(try simp only[xap]))
   have hX:At (V4.alloc (.cells (List.toArray [Value.bool false,.int .u64 (A:Int),.int .u64 16]) 67)) V4.heap.size (List.toArray [Value.bool false,.int .u64 (A:Int),.int .u64 16]):=At.new V4 _ _;have gX:Gr V4 (V4.alloc (.cells (List.toArray [Value.bool false,.int .u64 (A:Int),.int .u64 16]) 67)):=(Gr.refl V4).alloc _;generalize V4.alloc (.cells (List.toArray [Value.bool false,.int .u64 (A:Int),.int .u64 16]) 67)=VX at*;generalize V4.heap.size=kX at hX ⊢;refine xp fun K hK=>?_
   refine wp_append_z _ _ 64 67 (.agg #[.bool false,.int .u64 0,.int .u64 0]) 3 24 rfl Tryz.underlying64 (by kernel_rfl) (by kernel_rfl) (by decide) (by decide) B (.slice ta s.tc.length tk) s.tc.length xs [Value.bool false,.int .u64 (A:Int),.int .u64 16] (by rfl) (hO2.out VX gX.below) kX (by rfl) hX rfl (by simp[Value.oneCell']) htl (Nat.le_trans hleW gX.below.size) ?_;intro g cap W2 k1 k2 k3;obtain⟨hq2,hA2,hM,hBe⟩:=hap.out VX W2 g cap gX.below k1 k2 k3;have cu:W2.cell? ⟨b,26,none⟩=some _:=hq2.at_ 26 (by omega);have fu:=hq2.fr 26;have hlt2:=hq2.lt;replace hM:=ζ hM;clear hap hO2 k1 k2 k3 hq2 hA2 hX gX;with_reducible refine hK _ _ ?_
   clear hK K;try simp only[xap]
   iterate 2 (refine xp fun K hK=>?_;go_simp;with_reducible refine hK _ _ ?_;clear hK K;(try simp only[xap]))
   refine xp fun K hK=>?_
   go_simp;with_reducible refine hK _ _ ?_
   clear hK K;try simp only[Act.put]
   replace hB:=ζ (hB.out.trans hBe);clear hBe h cu fu hlt2 hlt c26 hleW;generalize World.setCell _ _ _=V5 at*;have h:=hM;clear hM;have c5:V5.cell? ⟨b,5,none⟩=some (.int .i64 s.p):=by obtain⟨q,hq⟩:=h.out.box;exact hq.at_ 5 (by omega)
   have f5:V5.frozen? ⟨b,5,none⟩=false:=by obtain⟨q,hq⟩:=h.out.box;exact hq.fr 5
   have hlt:b<V5.heap.size:=by obtain⟨q,hq⟩:=h.out.box;exact hq.lt
   have hw5:wrap64 ((s.p:Int)+1)=(s.p:Int)+1:=by unfold wrap64;omega
   have hpc:=ζ h.out.pc;go_wp2_with fail
   first|go_end0|((try simp only[Exit.inBlock,Exit.then]);refine xre ?_)
   rw[←hN2.out];refine⟨rfl,hpc.out.1.drop,hB.out.trans hpc.out.2⟩
theorem by_next (N:Nat):((UInt8.ofNat (N%256)).toNat:Int)=(N:Int)%256:=by
 rw[UInt8.toNat_ofNat'];omega
theorem qu_next (N:Nat)(h:N<18446744073709551616):IntKind.u64.wrap ((N:Int)/256)=((N/256:Nat):Int):=by
 rw[IntKind.wrap_u64];omega
theorem dms62 (B:Nat)(W0:World)(b:Nat)(c:Dc)(P:Pr)(s:Fm)(og op:Nat)(l:List Ob)(ia ib ic:Nat)(imm:Int)(h:DIo B W0 b c P s og op l)(hb:ib<16)(A:Nat)(hA:IntKind.u64.wrap (s.r ib+imm)=(A:Int))(v0:Nat)(hv:s.r ia=(v0:Int))(hv64:v0<18446744073709551616)(ha:ia<16)(hf:A≤65536 - 1)(htl:s.tc.length≤1000000)(hp:s.p≤1000000):
 Calls Tryz.prog 57 #[.pointer (some ⟨b,0,none⟩),.agg #[.int .u8 62,.int .i64 ia,.int .i64 ib,.int .i64 ic,.int .u64 imm]] W0 fun x w'=>x=.returned (.tuple #[])∧DIo B w' b c P ({s with m:=T.putB s.m A v0 1,tc:=s.tc++[⟨true,(A:Int),1⟩],p:=s.p+1}) og op l∧Below B W0 w':=by
 replace hv:=ζ hv;have h2:=ζ (h.new #[.int .u8 62,.int .i64 ia,.int .i64 ib,.int .i64 ic,.int .u64 imm] 53);clear h;go_enter Tryz.func57,Tryz.ntmps57;go_upto_region 1 with fail
 refine wp_world (fun W=>DIo B W b c P s og op (boxOb W0.heap.size #[.int .u8 62,.int .i64 ia,.int .i64 ib,.int .i64 ic,.int .u64 imm]::l)∧Below B W0 W) h2.out ?_;rintro W ⟨h,hB⟩;replace h:=ζ h;replace hB:=ζ hB;clear h2;generalize W0.heap.size=kb at*;have KS:=xk2 62 ia ib ic imm kb;have k0:W.cell? ⟨kb,0,none⟩=some (.int .u8 62):=(h.out.there (boxOb kb #[.int .u8 62,.int .i64 ia,.int .i64 ib,.int .i64 ic,.int .u64 imm]) (.head _)).2.1 0;have hbi:(ib:Int)<16:=by omega
 have hkb:kb<W.heap.size:=(h.out.there (boxOb kb #[.int .u8 62,.int .i64 ia,.int .i64 ib,.int .i64 ic,.int .u64 imm]) (.head _)).1;have hne:¬W.heap.size=kb:=by omega
 go_upto_region 2 with fail;refine wp_world (fun X=>DIo B X b c P s og op (boxOb kb #[.int .u8 62,.int .i64 ia,.int .i64 ib,.int .i64 ic,.int .u64 imm]::l)∧Below B W0 X) ⟨h.out.gr ((Gr.refl W).alloc _).below,hB.out.trans (((Gr.refl W).alloc _).below.mono h.out.le)⟩ ?_;clear h hB k0 hkb hne;rintro V ⟨h,hB⟩;replace hB:=ζ (hB.trans (((Gr.refl V).drew).below.mono h.le));replace h:=ζ (h.gr ((Gr.refl V).drew).below);have k2:V.drew.cell? ⟨kb,2,none⟩=some (.int .i64 ib):=(h.out.there (boxOb kb #[.int .u8 62,.int .i64 ia,.int .i64 ib,.int .i64 ic,.int .u64 imm]) (.head _)).2.1 2;have k4:V.drew.cell? ⟨kb,4,none⟩=some (.int .u64 imm):=(h.out.there (boxOb kb #[.int .u8 62,.int .i64 ia,.int .i64 ib,.int .i64 ic,.int .u64 imm]) (.head _)).2.1 4;have kr:V.drew.cell? ⟨b,6+ib,none⟩=some (.int .u64 (s.r ib)):=h.out.hand.2.2 ib _ (regs_at s.r ib hb);refine wp_region_held_drew (S:=(fun X=>(X.cell? ⟨kb,2,none⟩=some (.int .i64 ib))∧X.cell? ⟨kb,4,none⟩=some (.int .u64 imm)∧X.cell? ⟨b,6+ib,none⟩=some (.int .u64 (s.r ib)))) (by kernel_rfl) (⟨k2,k4,kr⟩) (fun hHeld=>?_)
 refine xz 0 rfl (h:=xz 1 rfl (h:=xz 2 rfl (h:=xz 3 rfl (h:=xz 4 rfl (h:=xz 5 rfl (h:=xz 6 rfl (h:=xz 7 rfl (h:=xz 8 rfl (h:=?_)))))))));try simp only[xap]
 refine xtk 9 (v:=.int .u64 (A:Int)) rfl (Or.inl ⟨by rfl,?_⟩) ?_
 ·intro w hSw;(try dsimp only at hSw);go_simp;first|done|(rw[hA])
 try simp only[xap]
 refine xz 10 rfl (h:=?_);try simp only[xap]
 refine xdn ?_ _;clear hHeld k2 k4 kr;generalize V.drew=V1 at*;have h1:¬(65536:Int)≤(A:Int):=by omega
 have hw:IntKind.u64.wrap (65536 - (A:Int))=65536 - (A:Int):=by rw[IntKind.wrap_u64];omega
 have h2:¬65536 - (A:Int)<1:=by omega
 have k0:V1.cell? ⟨kb,0,none⟩=some (.int .u8 62):=(h.out.there (boxOb kb #[.int .u8 62,.int .i64 ia,.int .i64 ib,.int .i64 ic,.int .u64 imm]) (.head _)).2.1 0;have hai:(ia:Int)<16:=by omega
 go_upto_region 7 with fail;clear k0 h1 hw h2;have k1:V1.drew.cell? ⟨kb,1,none⟩=some (.int .i64 ia):=(h.out.there (boxOb kb #[.int .u8 62,.int .i64 ia,.int .i64 ib,.int .i64 ic,.int .u64 imm]) (.head _)).2.1 1;have kr:V1.drew.cell? ⟨b,6+ia,none⟩=some (.int .u64 (v0:Int)):=by rw[←hv.out];exact h.out.hand.2.2 ia _ (regs_at s.r ia ha)
 refine wp_region_held_drew (S:=(fun X=>(X.cell? ⟨kb,1,none⟩=some (.int .i64 ia))∧X.cell? ⟨b,6+ia,none⟩=some (.int .u64 (v0:Int)))) (by kernel_rfl) (⟨k1,kr⟩) (fun hHeld=>?_);refine xz 0 rfl (h:=xz 1 rfl (h:=xz 2 rfl (h:=xz 3 rfl (h:=xz 4 rfl (h:=xz 5 rfl (h:=xz 6 rfl (h:=xz 7 rfl (h:=?_))))))));try simp only[xap]
 refine xdn ?_ _;clear hHeld k1 kr;replace hB:=ζ (hB.out.trans (((Gr.refl V1).drew).below.mono h.out.le));replace h:=ζ (h.out.gr ((Gr.refl V1).drew).below);generalize V1.drew=V2 at*;have h0:Hz (DIo B V2 b c P {s with m:=T.putB s.m A v0 0} og op (boxOb kb #[.int .u8 62,.int .i64 ia,.int .i64 ib,.int .i64 ic,.int .u64 imm]::l)):=h;clear h;go_upto_region 9 with fail
 go_loopw [8,9] (fun y x wr=>∃j N:Nat,x=.int .u64 j∧y=.int .u64 N∧j≤1∧Hz (N=v0/2^(8*j))∧Hz (DIo B wr b c P {s with m:=T.putB s.m A v0 j} og op (boxOb kb #[.int .u8 62,.int .i64 ia,.int .i64 ib,.int .i64 ic,.int .u64 imm]::l))∧Hz (Below B W0 wr)) (fun _ x _=>1 - (intOf x).toNat)
 case atStart=>exact⟨0,v0,rfl,rfl,by omega,ζ (by simp),h0,hB⟩
 case round=>
  clear h0 hB;obtain⟨j,N,rfl,rfl,hj,hN,h,hB⟩:=hrel;by_cases hq:j<1
  ·have hq1:(j:Int)<1:=by omega
   have hw1:IntKind.u64.wrap ((j:Int)+1)=(j:Int)+1:=by rw[IntKind.wrap_u64];omega
   have hwa:IntKind.u64.wrap ((A:Int)+(j:Int))=(A:Int)+(j:Int):=by rw[IntKind.wrap_u64];omega
   have hix:(A:Int)+(j:Int)<65536:=by omega
   obtain⟨gm,km,c23,hgm,hmem,hset⟩:=h.out.mem;have cm:=(hmem (A+j) (by omega)).1;have fm:=(hmem (A+j) (by omega)).2;have hqo:=ζ (qu_next N (by rw[hN.out];exact Nat.lt_of_le_of_lt (Nat.div_le_self _ _) hv64));have hst:=hset (A+j) (by omega) (UInt8.ofNat (N%256));rw[by_next N]at hst;have hm1:Hz (T.upd (T.putB s.m A v0 j) (A+j) (UInt8.ofNat (N%256))=T.putB s.m A v0 (j+1)):=ζ (by rw[hN.out];rfl);rw[hm1.out]at hst;replace hst:=ζ hst;clear hmem hset;go_wp2_with fail;refine And.intro (Exists.intro (j+1) (Exists.intro (N/256) ⟨rfl,congrArg (Value.int IntKind.u64) hqo.out,by omega,ζ (by rw[hN.out,Nat.div_div_eq_div_mul,show(256:Nat)=2^8 from rfl,←Nat.pow_add,show 8*j+8=8*(j+1)by omega]),ζ hst.out.1,ζ (hB.out.trans hst.out.2)⟩)) ?_;simp[intOf];omega
  ·have hq1:¬(j:Int)<1:=by omega
   obtain rfl:j=1:=by omega
   clear hN;obtain⟨m9,hm9⟩:∃m,T.putB s.m A v0 1=m:=⟨_,rfl⟩;rw[hm9]at h;replace hm9:=ζ hm9;go_upto_region 18 with fail
   obtain⟨q,ta,tk,hq,c26,hO2,hap⟩:=h.out.appT ⟨true,(A:Int),1⟩;have hlt:=hq.lt;have hleW:=h.out.le;clear hq;replace hO2:=ζ hO2;replace hap:=ζ hap;have hxs:∃xs,s.tc.flatMap Tc.vals=xs:=⟨_,rfl⟩;obtain⟨xs,hxs⟩:=hxs;rw[hxs]at hO2 hap;clear hxs;refine wp_region_lit ?_;iterate 10 (refine xp fun K hK=>?_;go_simp;with_reducible refine hK _ _ ?_;clear hK K;(try simp only[xap]))
   have hX:At (wr.alloc (.cells (List.toArray [Value.bool true,.int .u64 (A:Int),.int .u64 1]) 67)) wr.heap.size (List.toArray [Value.bool true,.int .u64 (A:Int),.int .u64 1]):=At.new wr _ _;have gX:Gr wr (wr.alloc (.cells (List.toArray [Value.bool true,.int .u64 (A:Int),.int .u64 1]) 67)):=(Gr.refl wr).alloc _;generalize wr.alloc (.cells (List.toArray [Value.bool true,.int .u64 (A:Int),.int .u64 1]) 67)=VX at*;generalize wr.heap.size=kX at hX ⊢;refine xp fun K hK=>?_
   refine wp_append_z _ _ 64 67 (.agg #[.bool false,.int .u64 0,.int .u64 0]) 3 24 rfl Tryz.underlying64 (by kernel_rfl) (by kernel_rfl) (by decide) (by decide) B (.slice ta s.tc.length tk) s.tc.length xs [Value.bool true,.int .u64 (A:Int),.int .u64 1] (by rfl) (hO2.out VX gX.below) kX (by rfl) hX rfl (by simp[Value.oneCell']) htl (Nat.le_trans hleW gX.below.size) ?_;intro g cap W2 k1 k2 k3;obtain⟨hq2,hA2,hM,hBe⟩:=hap.out VX W2 g cap gX.below k1 k2 k3;have cu:W2.cell? ⟨b,26,none⟩=some _:=hq2.at_ 26 (by omega);have fu:=hq2.fr 26;have hlt2:=hq2.lt;replace hM:=ζ hM;clear hap hO2 k1 k2 k3 hq2 hA2 hX gX;with_reducible refine hK _ _ ?_
   clear hK K;try simp only[xap]
   iterate 2 (refine xp fun K hK=>?_;go_simp;with_reducible refine hK _ _ ?_;clear hK K;(try simp only[xap]))
   refine xp fun K hK=>?_
   go_simp;with_reducible refine hK _ _ ?_
   clear hK K;try simp only[Act.put]
   replace hB:=ζ (hB.out.trans hBe);clear hBe h cu fu hlt2 hlt c26 hleW;generalize World.setCell _ _ _=V5 at*;have h:=hM;clear hM;have c5:V5.cell? ⟨b,5,none⟩=some (.int .i64 s.p):=by obtain⟨q,hq⟩:=h.out.box;exact hq.at_ 5 (by omega)
   have f5:V5.frozen? ⟨b,5,none⟩=false:=by obtain⟨q,hq⟩:=h.out.box;exact hq.fr 5
   have hlt:b<V5.heap.size:=by obtain⟨q,hq⟩:=h.out.box;exact hq.lt
   have hw5:wrap64 ((s.p:Int)+1)=(s.p:Int)+1:=by unfold wrap64;omega
   have hpc:=ζ h.out.pc;go_wp2_with fail
   first|go_end0|((try simp only[Exit.inBlock,Exit.then]);refine xre ?_)
   rw[hm9.out];refine⟨rfl,hpc.out.1.drop,hB.out.trans hpc.out.2⟩
theorem dms63 (B:Nat)(W0:World)(b:Nat)(c:Dc)(P:Pr)(s:Fm)(og op:Nat)(l:List Ob)(ia ib ic:Nat)(imm:Int)(h:DIo B W0 b c P s og op l)(hb:ib<16)(A:Nat)(hA:IntKind.u64.wrap (s.r ib+imm)=(A:Int))(v0:Nat)(hv:s.r ia=(v0:Int))(hv64:v0<18446744073709551616)(ha:ia<16)(hf:A≤65536 - 8)(htl:s.tc.length≤1000000)(hp:s.p≤1000000):
 Calls Tryz.prog 57 #[.pointer (some ⟨b,0,none⟩),.agg #[.int .u8 63,.int .i64 ia,.int .i64 ib,.int .i64 ic,.int .u64 imm]] W0 fun x w'=>x=.returned (.tuple #[])∧DIo B w' b c P ({s with m:=T.putB s.m A v0 8,tc:=s.tc++[⟨true,(A:Int),8⟩],p:=s.p+1}) og op l∧Below B W0 w':=by
 replace hv:=ζ hv;have h2:=ζ (h.new #[.int .u8 63,.int .i64 ia,.int .i64 ib,.int .i64 ic,.int .u64 imm] 53);clear h;go_enter Tryz.func57,Tryz.ntmps57;go_upto_region 1 with fail
 refine wp_world (fun W=>DIo B W b c P s og op (boxOb W0.heap.size #[.int .u8 63,.int .i64 ia,.int .i64 ib,.int .i64 ic,.int .u64 imm]::l)∧Below B W0 W) h2.out ?_;rintro W ⟨h,hB⟩;replace h:=ζ h;replace hB:=ζ hB;clear h2;generalize W0.heap.size=kb at*;have KS:=xk2 63 ia ib ic imm kb;have k0:W.cell? ⟨kb,0,none⟩=some (.int .u8 63):=(h.out.there (boxOb kb #[.int .u8 63,.int .i64 ia,.int .i64 ib,.int .i64 ic,.int .u64 imm]) (.head _)).2.1 0;have hbi:(ib:Int)<16:=by omega
 have hkb:kb<W.heap.size:=(h.out.there (boxOb kb #[.int .u8 63,.int .i64 ia,.int .i64 ib,.int .i64 ic,.int .u64 imm]) (.head _)).1;have hne:¬W.heap.size=kb:=by omega
 go_upto_region 2 with fail;refine wp_world (fun X=>DIo B X b c P s og op (boxOb kb #[.int .u8 63,.int .i64 ia,.int .i64 ib,.int .i64 ic,.int .u64 imm]::l)∧Below B W0 X) ⟨h.out.gr ((Gr.refl W).alloc _).below,hB.out.trans (((Gr.refl W).alloc _).below.mono h.out.le)⟩ ?_;clear h hB k0 hkb hne;rintro V ⟨h,hB⟩;replace hB:=ζ (hB.trans (((Gr.refl V).drew).below.mono h.le));replace h:=ζ (h.gr ((Gr.refl V).drew).below);have k2:V.drew.cell? ⟨kb,2,none⟩=some (.int .i64 ib):=(h.out.there (boxOb kb #[.int .u8 63,.int .i64 ia,.int .i64 ib,.int .i64 ic,.int .u64 imm]) (.head _)).2.1 2;have k4:V.drew.cell? ⟨kb,4,none⟩=some (.int .u64 imm):=(h.out.there (boxOb kb #[.int .u8 63,.int .i64 ia,.int .i64 ib,.int .i64 ic,.int .u64 imm]) (.head _)).2.1 4;have kr:V.drew.cell? ⟨b,6+ib,none⟩=some (.int .u64 (s.r ib)):=h.out.hand.2.2 ib _ (regs_at s.r ib hb);refine wp_region_held_drew (S:=(fun X=>(X.cell? ⟨kb,2,none⟩=some (.int .i64 ib))∧X.cell? ⟨kb,4,none⟩=some (.int .u64 imm)∧X.cell? ⟨b,6+ib,none⟩=some (.int .u64 (s.r ib)))) (by kernel_rfl) (⟨k2,k4,kr⟩) (fun hHeld=>?_)
 refine xz 0 rfl (h:=xz 1 rfl (h:=xz 2 rfl (h:=xz 3 rfl (h:=xz 4 rfl (h:=xz 5 rfl (h:=xz 6 rfl (h:=xz 7 rfl (h:=xz 8 rfl (h:=?_)))))))));try simp only[xap]
 refine xtk 9 (v:=.int .u64 (A:Int)) rfl (Or.inl ⟨by rfl,?_⟩) ?_
 ·intro w hSw;(try dsimp only at hSw);go_simp;first|done|(rw[hA])
 try simp only[xap]
 refine xz 10 rfl (h:=?_);try simp only[xap]
 refine xdn ?_ _;clear hHeld k2 k4 kr;generalize V.drew=V1 at*;have h1:¬(65536:Int)≤(A:Int):=by omega
 have hw:IntKind.u64.wrap (65536 - (A:Int))=65536 - (A:Int):=by rw[IntKind.wrap_u64];omega
 have h2:¬65536 - (A:Int)<8:=by omega
 have k0:V1.cell? ⟨kb,0,none⟩=some (.int .u8 63):=(h.out.there (boxOb kb #[.int .u8 63,.int .i64 ia,.int .i64 ib,.int .i64 ic,.int .u64 imm]) (.head _)).2.1 0;have hai:(ia:Int)<16:=by omega
 go_upto_region 7 with fail;clear k0 h1 hw h2;have k1:V1.drew.cell? ⟨kb,1,none⟩=some (.int .i64 ia):=(h.out.there (boxOb kb #[.int .u8 63,.int .i64 ia,.int .i64 ib,.int .i64 ic,.int .u64 imm]) (.head _)).2.1 1;have kr:V1.drew.cell? ⟨b,6+ia,none⟩=some (.int .u64 (v0:Int)):=by rw[←hv.out];exact h.out.hand.2.2 ia _ (regs_at s.r ia ha)
 refine wp_region_held_drew (S:=(fun X=>(X.cell? ⟨kb,1,none⟩=some (.int .i64 ia))∧X.cell? ⟨b,6+ia,none⟩=some (.int .u64 (v0:Int)))) (by kernel_rfl) (⟨k1,kr⟩) (fun hHeld=>?_);refine xz 0 rfl (h:=xz 1 rfl (h:=xz 2 rfl (h:=xz 3 rfl (h:=xz 4 rfl (h:=xz 5 rfl (h:=xz 6 rfl (h:=xz 7 rfl (h:=?_))))))));try simp only[xap]
 refine xdn ?_ _;clear hHeld k1 kr;replace hB:=ζ (hB.out.trans (((Gr.refl V1).drew).below.mono h.out.le));replace h:=ζ (h.out.gr ((Gr.refl V1).drew).below);generalize V1.drew=V2 at*;have h0:Hz (DIo B V2 b c P {s with m:=T.putB s.m A v0 0} og op (boxOb kb #[.int .u8 63,.int .i64 ia,.int .i64 ib,.int .i64 ic,.int .u64 imm]::l)):=h;clear h;go_upto_region 9 with fail
 go_loopw [8,9] (fun y x wr=>∃j N:Nat,x=.int .u64 j∧y=.int .u64 N∧j≤8∧Hz (N=v0/2^(8*j))∧Hz (DIo B wr b c P {s with m:=T.putB s.m A v0 j} og op (boxOb kb #[.int .u8 63,.int .i64 ia,.int .i64 ib,.int .i64 ic,.int .u64 imm]::l))∧Hz (Below B W0 wr)) (fun _ x _=>8 - (intOf x).toNat)
 case atStart=>exact⟨0,v0,rfl,rfl,by omega,ζ (by simp),h0,hB⟩
 case round=>
  clear h0 hB;obtain⟨j,N,rfl,rfl,hj,hN,h,hB⟩:=hrel;by_cases hq:j<8
  ·have hq1:(j:Int)<8:=by omega
   have hw1:IntKind.u64.wrap ((j:Int)+1)=(j:Int)+1:=by rw[IntKind.wrap_u64];omega
   have hwa:IntKind.u64.wrap ((A:Int)+(j:Int))=(A:Int)+(j:Int):=by rw[IntKind.wrap_u64];omega
   have hix:(A:Int)+(j:Int)<65536:=by omega
   obtain⟨gm,km,c23,hgm,hmem,hset⟩:=h.out.mem;have cm:=(hmem (A+j) (by omega)).1;have fm:=(hmem (A+j) (by omega)).2;have hqo:=ζ (qu_next N (by rw[hN.out];exact Nat.lt_of_le_of_lt (Nat.div_le_self _ _) hv64));have hst:=hset (A+j) (by omega) (UInt8.ofNat (N%256));rw[by_next N]at hst;have hm1:Hz (T.upd (T.putB s.m A v0 j) (A+j) (UInt8.ofNat (N%256))=T.putB s.m A v0 (j+1)):=ζ (by rw[hN.out];rfl);rw[hm1.out]at hst;replace hst:=ζ hst;clear hmem hset;go_wp2_with fail;refine And.intro (Exists.intro (j+1) (Exists.intro (N/256) ⟨rfl,congrArg (Value.int IntKind.u64) hqo.out,by omega,ζ (by rw[hN.out,Nat.div_div_eq_div_mul,show(256:Nat)=2^8 from rfl,←Nat.pow_add,show 8*j+8=8*(j+1)by omega]),ζ hst.out.1,ζ (hB.out.trans hst.out.2)⟩)) ?_;simp[intOf];omega
  ·have hq1:¬(j:Int)<8:=by omega
   obtain rfl:j=8:=by omega
   clear hN;obtain⟨m9,hm9⟩:∃m,T.putB s.m A v0 8=m:=⟨_,rfl⟩;rw[hm9]at h;replace hm9:=ζ hm9;go_upto_region 18 with fail
   obtain⟨q,ta,tk,hq,c26,hO2,hap⟩:=h.out.appT ⟨true,(A:Int),8⟩;have hlt:=hq.lt;have hleW:=h.out.le;clear hq;replace hO2:=ζ hO2;replace hap:=ζ hap;have hxs:∃xs,s.tc.flatMap Tc.vals=xs:=⟨_,rfl⟩;obtain⟨xs,hxs⟩:=hxs;rw[hxs]at hO2 hap;clear hxs;refine wp_region_lit ?_;iterate 10 (refine xp fun K hK=>?_;go_simp;with_reducible refine hK _ _ ?_;clear hK K;(try simp only[xap]))
   have hX:At (wr.alloc (.cells (List.toArray [Value.bool true,.int .u64 (A:Int),.int .u64 8]) 67)) wr.heap.size (List.toArray [Value.bool true,.int .u64 (A:Int),.int .u64 8]):=At.new wr _ _;have gX:Gr wr (wr.alloc (.cells (List.toArray [Value.bool true,.int .u64 (A:Int),.int .u64 8]) 67)):=(Gr.refl wr).alloc _;generalize wr.alloc (.cells (List.toArray [Value.bool true,.int .u64 (A:Int),.int .u64 8]) 67)=VX at*;generalize wr.heap.size=kX at hX ⊢;refine xp fun K hK=>?_
   refine wp_append_z _ _ 64 67 (.agg #[.bool false,.int .u64 0,.int .u64 0]) 3 24 rfl Tryz.underlying64 (by kernel_rfl) (by kernel_rfl) (by decide) (by decide) B (.slice ta s.tc.length tk) s.tc.length xs [Value.bool true,.int .u64 (A:Int),.int .u64 8] (by rfl) (hO2.out VX gX.below) kX (by rfl) hX rfl (by simp[Value.oneCell']) htl (Nat.le_trans hleW gX.below.size) ?_;intro g cap W2 k1 k2 k3;obtain⟨hq2,hA2,hM,hBe⟩:=hap.out VX W2 g cap gX.below k1 k2 k3;have cu:W2.cell? ⟨b,26,none⟩=some _:=hq2.at_ 26 (by omega);have fu:=hq2.fr 26;have hlt2:=hq2.lt;replace hM:=ζ hM;clear hap hO2 k1 k2 k3 hq2 hA2 hX gX;with_reducible refine hK _ _ ?_
   clear hK K;try simp only[xap]
   iterate 2 (refine xp fun K hK=>?_;go_simp;with_reducible refine hK _ _ ?_;clear hK K;(try simp only[xap]))
   refine xp fun K hK=>?_
   go_simp;with_reducible refine hK _ _ ?_
   clear hK K;try simp only[Act.put]
   replace hB:=ζ (hB.out.trans hBe);clear hBe h cu fu hlt2 hlt c26 hleW;generalize World.setCell _ _ _=V5 at*;have h:=hM;clear hM;have c5:V5.cell? ⟨b,5,none⟩=some (.int .i64 s.p):=by obtain⟨q,hq⟩:=h.out.box;exact hq.at_ 5 (by omega)
   have f5:V5.frozen? ⟨b,5,none⟩=false:=by obtain⟨q,hq⟩:=h.out.box;exact hq.fr 5
   have hlt:b<V5.heap.size:=by obtain⟨q,hq⟩:=h.out.box;exact hq.lt
   have hw5:wrap64 ((s.p:Int)+1)=(s.p:Int)+1:=by unfold wrap64;omega
   have hpc:=ζ h.out.pc;go_wp2_with fail
   first|go_end0|((try simp only[Exit.inBlock,Exit.then]);refine xre ?_)
   rw[hm9.out];refine⟨rfl,hpc.out.1.drop,hB.out.trans hpc.out.2⟩
theorem dms65 (B:Nat)(W0:World)(b:Nat)(c:Dc)(P:Pr)(s:Fm)(og op:Nat)(l:List Ob)(ia ib ic:Nat)(imm:Int)(h:DIo B W0 b c P s og op l)(hb:ib<16)(A:Nat)(hA:IntKind.u64.wrap (s.r ib+imm)=(A:Int))(v0:Nat)(hv:s.r ia=(v0:Int))(hv64:v0<18446744073709551616)(ha:ia<16)(hf:A≤65536 - 16)(htl:s.tc.length≤1000000)(hp:s.p≤1000000):
 Calls Tryz.prog 57 #[.pointer (some ⟨b,0,none⟩),.agg #[.int .u8 65,.int .i64 ia,.int .i64 ib,.int .i64 ic,.int .u64 imm]] W0 fun x w'=>x=.returned (.tuple #[])∧DIo B w' b c P ({s with m:=T.putB s.m A v0 16,tc:=s.tc++[⟨true,(A:Int),16⟩],p:=s.p+1}) og op l∧Below B W0 w':=by
 replace hv:=ζ hv;have h2:=ζ (h.new #[.int .u8 65,.int .i64 ia,.int .i64 ib,.int .i64 ic,.int .u64 imm] 53);clear h;go_enter Tryz.func57,Tryz.ntmps57;go_upto_region 1 with fail
 refine wp_world (fun W=>DIo B W b c P s og op (boxOb W0.heap.size #[.int .u8 65,.int .i64 ia,.int .i64 ib,.int .i64 ic,.int .u64 imm]::l)∧Below B W0 W) h2.out ?_;rintro W ⟨h,hB⟩;replace h:=ζ h;replace hB:=ζ hB;clear h2;generalize W0.heap.size=kb at*;have KS:=xk2 65 ia ib ic imm kb;have k0:W.cell? ⟨kb,0,none⟩=some (.int .u8 65):=(h.out.there (boxOb kb #[.int .u8 65,.int .i64 ia,.int .i64 ib,.int .i64 ic,.int .u64 imm]) (.head _)).2.1 0;have hbi:(ib:Int)<16:=by omega
 have hkb:kb<W.heap.size:=(h.out.there (boxOb kb #[.int .u8 65,.int .i64 ia,.int .i64 ib,.int .i64 ic,.int .u64 imm]) (.head _)).1;have hne:¬W.heap.size=kb:=by omega
 go_upto_region 2 with fail;refine wp_world (fun X=>DIo B X b c P s og op (boxOb kb #[.int .u8 65,.int .i64 ia,.int .i64 ib,.int .i64 ic,.int .u64 imm]::l)∧Below B W0 X) ⟨h.out.gr ((Gr.refl W).alloc _).below,hB.out.trans (((Gr.refl W).alloc _).below.mono h.out.le)⟩ ?_;clear h hB k0 hkb hne;rintro V ⟨h,hB⟩;replace hB:=ζ (hB.trans (((Gr.refl V).drew).below.mono h.le));replace h:=ζ (h.gr ((Gr.refl V).drew).below);have k2:V.drew.cell? ⟨kb,2,none⟩=some (.int .i64 ib):=(h.out.there (boxOb kb #[.int .u8 65,.int .i64 ia,.int .i64 ib,.int .i64 ic,.int .u64 imm]) (.head _)).2.1 2;have k4:V.drew.cell? ⟨kb,4,none⟩=some (.int .u64 imm):=(h.out.there (boxOb kb #[.int .u8 65,.int .i64 ia,.int .i64 ib,.int .i64 ic,.int .u64 imm]) (.head _)).2.1 4;have kr:V.drew.cell? ⟨b,6+ib,none⟩=some (.int .u64 (s.r ib)):=h.out.hand.2.2 ib _ (regs_at s.r ib hb);refine wp_region_held_drew (S:=(fun X=>(X.cell? ⟨kb,2,none⟩=some (.int .i64 ib))∧X.cell? ⟨kb,4,none⟩=some (.int .u64 imm)∧X.cell? ⟨b,6+ib,none⟩=some (.int .u64 (s.r ib)))) (by kernel_rfl) (⟨k2,k4,kr⟩) (fun hHeld=>?_)
 refine xz 0 rfl (h:=xz 1 rfl (h:=xz 2 rfl (h:=xz 3 rfl (h:=xz 4 rfl (h:=xz 5 rfl (h:=xz 6 rfl (h:=xz 7 rfl (h:=xz 8 rfl (h:=?_)))))))));try simp only[xap]
 refine xtk 9 (v:=.int .u64 (A:Int)) rfl (Or.inl ⟨by rfl,?_⟩) ?_
 ·intro w hSw;(try dsimp only at hSw);go_simp;first|done|(rw[hA])
 try simp only[xap]
 refine xz 10 rfl (h:=?_);try simp only[xap]
 refine xdn ?_ _;clear hHeld k2 k4 kr;generalize V.drew=V1 at*;have h1:¬(65536:Int)≤(A:Int):=by omega
 have hw:IntKind.u64.wrap (65536 - (A:Int))=65536 - (A:Int):=by rw[IntKind.wrap_u64];omega
 have h2:¬65536 - (A:Int)<16:=by omega
 have k0:V1.cell? ⟨kb,0,none⟩=some (.int .u8 65):=(h.out.there (boxOb kb #[.int .u8 65,.int .i64 ia,.int .i64 ib,.int .i64 ic,.int .u64 imm]) (.head _)).2.1 0;have hai:(ia:Int)<16:=by omega
 go_upto_region 7 with fail;clear k0 h1 hw h2;have k1:V1.drew.cell? ⟨kb,1,none⟩=some (.int .i64 ia):=(h.out.there (boxOb kb #[.int .u8 65,.int .i64 ia,.int .i64 ib,.int .i64 ic,.int .u64 imm]) (.head _)).2.1 1;have kr:V1.drew.cell? ⟨b,6+ia,none⟩=some (.int .u64 (v0:Int)):=by rw[←hv.out];exact h.out.hand.2.2 ia _ (regs_at s.r ia ha)
 refine wp_region_held_drew (S:=(fun X=>(X.cell? ⟨kb,1,none⟩=some (.int .i64 ia))∧X.cell? ⟨b,6+ia,none⟩=some (.int .u64 (v0:Int)))) (by kernel_rfl) (⟨k1,kr⟩) (fun hHeld=>?_);refine xz 0 rfl (h:=xz 1 rfl (h:=xz 2 rfl (h:=xz 3 rfl (h:=xz 4 rfl (h:=xz 5 rfl (h:=xz 6 rfl (h:=xz 7 rfl (h:=?_))))))));try simp only[xap]
 refine xdn ?_ _;clear hHeld k1 kr;replace hB:=ζ (hB.out.trans (((Gr.refl V1).drew).below.mono h.out.le));replace h:=ζ (h.out.gr ((Gr.refl V1).drew).below);generalize V1.drew=V2 at*;have h0:Hz (DIo B V2 b c P {s with m:=T.putB s.m A v0 0} og op (boxOb kb #[.int .u8 65,.int .i64 ia,.int .i64 ib,.int .i64 ic,.int .u64 imm]::l)):=h;clear h;go_upto_region 9 with fail
 go_loopw [8,9] (fun y x wr=>∃j N:Nat,x=.int .u64 j∧y=.int .u64 N∧j≤16∧Hz (N=v0/2^(8*j))∧Hz (DIo B wr b c P {s with m:=T.putB s.m A v0 j} og op (boxOb kb #[.int .u8 65,.int .i64 ia,.int .i64 ib,.int .i64 ic,.int .u64 imm]::l))∧Hz (Below B W0 wr)) (fun _ x _=>16 - (intOf x).toNat)
 case atStart=>exact⟨0,v0,rfl,rfl,by omega,ζ (by simp),h0,hB⟩
 case round=>
  clear h0 hB;obtain⟨j,N,rfl,rfl,hj,hN,h,hB⟩:=hrel;by_cases hq:j<16
  ·have hq1:(j:Int)<16:=by omega
   have hw1:IntKind.u64.wrap ((j:Int)+1)=(j:Int)+1:=by rw[IntKind.wrap_u64];omega
   have hwa:IntKind.u64.wrap ((A:Int)+(j:Int))=(A:Int)+(j:Int):=by rw[IntKind.wrap_u64];omega
   have hix:(A:Int)+(j:Int)<65536:=by omega
   obtain⟨gm,km,c23,hgm,hmem,hset⟩:=h.out.mem;have cm:=(hmem (A+j) (by omega)).1;have fm:=(hmem (A+j) (by omega)).2;have hqo:=ζ (qu_next N (by rw[hN.out];exact Nat.lt_of_le_of_lt (Nat.div_le_self _ _) hv64));have hst:=hset (A+j) (by omega) (UInt8.ofNat (N%256));rw[by_next N]at hst;have hm1:Hz (T.upd (T.putB s.m A v0 j) (A+j) (UInt8.ofNat (N%256))=T.putB s.m A v0 (j+1)):=ζ (by rw[hN.out];rfl);rw[hm1.out]at hst;replace hst:=ζ hst;clear hmem hset;go_wp2_with fail;refine And.intro (Exists.intro (j+1) (Exists.intro (N/256) ⟨rfl,congrArg (Value.int IntKind.u64) hqo.out,by omega,ζ (by rw[hN.out,Nat.div_div_eq_div_mul,show(256:Nat)=2^8 from rfl,←Nat.pow_add,show 8*j+8=8*(j+1)by omega]),ζ hst.out.1,ζ (hB.out.trans hst.out.2)⟩)) ?_;simp[intOf];omega
  ·have hq1:¬(j:Int)<16:=by omega
   obtain rfl:j=16:=by omega
   clear hN;obtain⟨m9,hm9⟩:∃m,T.putB s.m A v0 16=m:=⟨_,rfl⟩;rw[hm9]at h;replace hm9:=ζ hm9;go_upto_region 18 with fail
   obtain⟨q,ta,tk,hq,c26,hO2,hap⟩:=h.out.appT ⟨true,(A:Int),16⟩;have hlt:=hq.lt;have hleW:=h.out.le;clear hq;replace hO2:=ζ hO2;replace hap:=ζ hap;have hxs:∃xs,s.tc.flatMap Tc.vals=xs:=⟨_,rfl⟩;obtain⟨xs,hxs⟩:=hxs;rw[hxs]at hO2 hap;clear hxs;refine wp_region_lit ?_;iterate 10 (refine xp fun K hK=>?_;go_simp;with_reducible refine hK _ _ ?_;clear hK K;(try simp only[xap]))
   have hX:At (wr.alloc (.cells (List.toArray [Value.bool true,.int .u64 (A:Int),.int .u64 16]) 67)) wr.heap.size (List.toArray [Value.bool true,.int .u64 (A:Int),.int .u64 16]):=At.new wr _ _;have gX:Gr wr (wr.alloc (.cells (List.toArray [Value.bool true,.int .u64 (A:Int),.int .u64 16]) 67)):=(Gr.refl wr).alloc _;generalize wr.alloc (.cells (List.toArray [Value.bool true,.int .u64 (A:Int),.int .u64 16]) 67)=VX at*;generalize wr.heap.size=kX at hX ⊢;refine xp fun K hK=>?_
   refine wp_append_z _ _ 64 67 (.agg #[.bool false,.int .u64 0,.int .u64 0]) 3 24 rfl Tryz.underlying64 (by kernel_rfl) (by kernel_rfl) (by decide) (by decide) B (.slice ta s.tc.length tk) s.tc.length xs [Value.bool true,.int .u64 (A:Int),.int .u64 16] (by rfl) (hO2.out VX gX.below) kX (by rfl) hX rfl (by simp[Value.oneCell']) htl (Nat.le_trans hleW gX.below.size) ?_;intro g cap W2 k1 k2 k3;obtain⟨hq2,hA2,hM,hBe⟩:=hap.out VX W2 g cap gX.below k1 k2 k3;have cu:W2.cell? ⟨b,26,none⟩=some _:=hq2.at_ 26 (by omega);have fu:=hq2.fr 26;have hlt2:=hq2.lt;replace hM:=ζ hM;clear hap hO2 k1 k2 k3 hq2 hA2 hX gX;with_reducible refine hK _ _ ?_
   clear hK K;try simp only[xap]
   iterate 2 (refine xp fun K hK=>?_;go_simp;with_reducible refine hK _ _ ?_;clear hK K;(try simp only[xap]))
   refine xp fun K hK=>?_
   go_simp;with_reducible refine hK _ _ ?_
   clear hK K;try simp only[Act.put]
   replace hB:=ζ (hB.out.trans hBe);clear hBe h cu fu hlt2 hlt c26 hleW;generalize World.setCell _ _ _=V5 at*;have h:=hM;clear hM;have c5:V5.cell? ⟨b,5,none⟩=some (.int .i64 s.p):=by obtain⟨q,hq⟩:=h.out.box;exact hq.at_ 5 (by omega)
   have f5:V5.frozen? ⟨b,5,none⟩=false:=by obtain⟨q,hq⟩:=h.out.box;exact hq.fr 5
   have hlt:b<V5.heap.size:=by obtain⟨q,hq⟩:=h.out.box;exact hq.lt
   have hw5:wrap64 ((s.p:Int)+1)=(s.p:Int)+1:=by unfold wrap64;omega
   have hpc:=ζ h.out.pc;go_wp2_with fail
   first|go_end0|((try simp only[Exit.inBlock,Exit.then]);refine xre ?_)
   rw[hm9.out];refine⟨rfl,hpc.out.1.drop,hB.out.trans hpc.out.2⟩
theorem put_more (m:Nat→UInt8)(A v:Nat)(hv:v<18446744073709551616)(k:Nat):T.putB m A v (8+k)=T.putB (T.putB m A v 8) (A+8) 0 k:=by
 induction k with
 |zero=>rfl
 |succ k ih=>
  show T.upd (T.putB m A v (8+k)) (A+(8+k)) (UInt8.ofNat (v/2^(8*(8+k))%256))=T.upd (T.putB (T.putB m A v 8) (A+8) 0 k) (A+8+k) (UInt8.ofNat (0/2^(8*k)%256));have hp:18446744073709551616≤2^(8*(8+k)):=Nat.le_trans (by decide:18446744073709551616≤2^64) (Nat.pow_le_pow_right (by omega) (by omega));rw[ih,Nat.div_eq_of_lt (Nat.lt_of_lt_of_le hv hp),Nat.zero_div,Nat.add_assoc]
theorem ld_le (m:Nat→UInt8)(A k:Nat)(hk:k=1∨k=8)(h:A+k≤65536):T.ldV m A k=T.leB m A k:=by
 unfold T.ldV;rw[if_pos (by simp[T.wordB];omega)]
theorem st_put (m:Nat→UInt8)(A k v:Nat)(hk:k=1∨k=8)(h:A+k≤65536):T.stB m A k v=T.putB m A v k:=by
 unfold T.stB;rw[if_pos (by simp[T.wordB];omega)]
theorem dmemory_any (P:Pr)(i:Fi)(s:Fm)(n:Nat)(hs:s.Ok P)(he:s.e=0)(ho:i.Ok n P.gates.length)(hop:60≤i.op∧i.op<70)(B:Nat)(W:World)(b:Nat)(c:Dc)(og op:Nat)(l:List Ob)(h:DIo B W b c P s og op l):
 Calls Tryz.prog 57 #[.pointer (some ⟨b,0,none⟩),.agg #[.int .u8 i.op,.int .i64 i.a,.int .i64 i.b,.int .i64 i.c,.int .u64 i.i]] W fun x w'=>x=.returned (.tuple #[])∧DAft B w' b c P (stepI P i s) l∧Below B W w':=by
 have ia:=ho.a;have ib:=ho.b;have hp:s.p≤1000000:=Nat.le_trans hs.p (by omega);have htl:=hs.tl;obtain⟨A,hA⟩:∃A:Nat,IntKind.u64.wrap (s.r i.b+i.i)=(A:Int):=⟨(IntKind.u64.wrap (s.r i.b+i.i)).toNat,by rw[IntKind.wrap_u64];omega⟩;obtain⟨v0,hv⟩:∃v0:Nat,s.r i.a=(v0:Int):=⟨(s.r i.a).toNat,by have:=hs.r i.a;omega⟩;have hv64:v0<18446744073709551616:=by have:=hs.r i.a;omega
 have hk:i.op=60∨i.op=61∨i.op=62∨i.op=63∨i.op=64∨i.op=65:=by have:=ho.op;unfold Named at this;omega
 rcases hk with e|e|e|e|e|e
 all_goals rw[e]
 ·rw[show stepI P i s=stp60 i s by unfold stepI;rw[e];rfl];unfold stp60;rw[hA,Int.toNat_natCast];by_cases hf:65536 - 1<A
  ·rw[if_pos (by omega)];refine(dmf60 B W b c P s og op l i.a i.b i.c i.i h ib A hA hf).mono ?_;rintro x w' ⟨rfl,h1,h2⟩;exact⟨rfl,⟨_,_,h1,fun _=>⟨rfl,rfl⟩⟩,h2⟩
  ·rw[if_neg (by omega),ld_le s.m A 1 (by omega) (by omega)];refine(dml60 B W b c P s og op l i.a i.b i.c i.i h ib A hA ia (by omega) htl hp).mono ?_;rintro x w' ⟨rfl,h1,h2⟩;exact⟨rfl,⟨_,_,h1,DEnd.run he⟩,h2⟩
 ·rw[show stepI P i s=stp61 i s by unfold stepI;rw[e];rfl];unfold stp61;rw[hA,Int.toNat_natCast];by_cases hf:65536 - 8<A
  ·rw[if_pos (by omega)];refine(dmf61 B W b c P s og op l i.a i.b i.c i.i h ib A hA hf).mono ?_;rintro x w' ⟨rfl,h1,h2⟩;exact⟨rfl,⟨_,_,h1,fun _=>⟨rfl,rfl⟩⟩,h2⟩
  ·rw[if_neg (by omega),ld_le s.m A 8 (by omega) (by omega)];refine(dml61 B W b c P s og op l i.a i.b i.c i.i h ib A hA ia (by omega) htl hp).mono ?_;rintro x w' ⟨rfl,h1,h2⟩;exact⟨rfl,⟨_,_,h1,DEnd.run he⟩,h2⟩
 ·rw[show stepI P i s=stp62 i s by unfold stepI;rw[e];rfl];unfold stp62;rw[hA,Int.toNat_natCast];by_cases hf:65536 - 1<A
  ·rw[if_pos (by omega)];refine(dmf62 B W b c P s og op l i.a i.b i.c i.i h ib A hA hf).mono ?_;rintro x w' ⟨rfl,h1,h2⟩;exact⟨rfl,⟨_,_,h1,fun _=>⟨rfl,rfl⟩⟩,h2⟩
  ·rw[if_neg (by omega),hv,Int.toNat_natCast,st_put s.m A 1 v0 (by omega) (by omega)];refine(dms62 B W b c P s og op l i.a i.b i.c i.i h ib A hA v0 hv hv64 ia (by omega) htl hp).mono ?_;rintro x w' ⟨rfl,h1,h2⟩;exact⟨rfl,⟨_,_,h1,DEnd.run he⟩,h2⟩
 ·rw[show stepI P i s=stp63 i s by unfold stepI;rw[e];rfl];unfold stp63;rw[hA,Int.toNat_natCast];by_cases hf:65536 - 8<A
  ·rw[if_pos (by omega)];refine(dmf63 B W b c P s og op l i.a i.b i.c i.i h ib A hA hf).mono ?_;rintro x w' ⟨rfl,h1,h2⟩;exact⟨rfl,⟨_,_,h1,fun _=>⟨rfl,rfl⟩⟩,h2⟩
  ·rw[if_neg (by omega),hv,Int.toNat_natCast,st_put s.m A 8 v0 (by omega) (by omega)];refine(dms63 B W b c P s og op l i.a i.b i.c i.i h ib A hA v0 hv hv64 ia (by omega) htl hp).mono ?_;rintro x w' ⟨rfl,h1,h2⟩;exact⟨rfl,⟨_,_,h1,DEnd.run he⟩,h2⟩
 ·rw[show stepI P i s=stp64 i s by unfold stepI;rw[e];rfl];unfold stp64;rw[hA,Int.toNat_natCast];by_cases hf:65536 - 16<A
  ·rw[if_pos (by omega)];refine(dmf64 B W b c P s og op l i.a i.b i.c i.i h ib A hA hf).mono ?_;rintro x w' ⟨rfl,h1,h2⟩;exact⟨rfl,⟨_,_,h1,fun _=>⟨rfl,rfl⟩⟩,h2⟩
  ·rw[if_neg (by omega),ld_le s.m A 8 (by omega) (by omega)];refine(dml64 B W b c P s og op l i.a i.b i.c i.i h ib A hA ia (by omega) htl hp).mono ?_;rintro x w' ⟨rfl,h1,h2⟩;exact⟨rfl,⟨_,_,h1,DEnd.run he⟩,h2⟩
 ·rw[show stepI P i s=stp65 i s by unfold stepI;rw[e];rfl];unfold stp65;rw[hA,Int.toNat_natCast];by_cases hf:65536 - 16<A
  ·rw[if_pos (by omega)];refine(dmf65 B W b c P s og op l i.a i.b i.c i.i h ib A hA hf).mono ?_;rintro x w' ⟨rfl,h1,h2⟩;exact⟨rfl,⟨_,_,h1,fun _=>⟨rfl,rfl⟩⟩,h2⟩
  ·rw[if_neg (by omega),hv,Int.toNat_natCast,st_put s.m A 8 v0 (by omega) (by omega),st_put _ (A+8) 8 0 (by omega) (by omega),←put_more s.m A v0 hv64 8];refine(dms65 B W b c P s og op l i.a i.b i.c i.i h ib A hA v0 hv hv64 ia (by omega) htl hp).mono ?_;rintro x w' ⟨rfl,h1,h2⟩;exact⟨rfl,⟨_,_,h1,DEnd.run he⟩,h2⟩
theorem DPg.code {B:Nat}{W:World}{c:Dc}{P:Pr}(h:DPg B W c P)(k:Nat)(hk:k<P.code.length):∃cb co ra rc,c.ca=some ⟨cb,co,none⟩∧cb<B∧∀X,Below B W X→X.cell? ⟨cb,co+k,none⟩=some (.slice ra P.code[k].length rc)∧T.EIn 5 Fi.vals X ra P.code[k]:=by
 obtain⟨V,e,h1,h2⟩:=h;subst e;obtain⟨b,off,ra,rc,e1,e2,e3,e4⟩:=h2.code k hk;exact⟨b,off,ra,rc,e1,e2,fun X hx=>⟨(T.cell_of_block ((h1.trans hx).block b e2) _).trans e3,e4.below (h1.trans hx)⟩⟩
theorem DIo.codes {B:Nat}{W:World}{b:Nat}{c:Dc}{P:Pr}{s:Fm}{og op:Nat}{l:List Ob}(h:DIo B W b c P s og op l)(cb co:Nat)(hca:c.ca=some ⟨cb,co,none⟩):W.cell? ⟨b,0,none⟩=some (.slice (some ⟨cb,co,none⟩) P.code.length c.cc)∧W.cell? ⟨b,4,none⟩=some (.int .i64 s.g)∧W.cell? ⟨b,5,none⟩=some (.int .i64 s.p):=by
 obtain⟨q,hq⟩:=h.box;exact⟨(hq.at_ 0 (by omega)).trans (congrArg some (by show Value.slice c.ca _ _=_;rw[hca])),hq.at_ 4 (by omega),hq.at_ 5 (by omega)⟩
theorem DIo.row5 {B:Nat}{W:World}{b:Nat}{c:Dc}{P:Pr}{s:Fm}{og op:Nat}{l:List Ob}(h:DIo B W b c P s og op l):W.rangeAt b 27 [Value.int .i64 s.e,.int .u64 s.v,.int .i64 s.f,.int .i64 og,.int .i64 op]:=by
 obtain⟨q,hq⟩:=h.box;intro j v e
 match j,e with
 |0,e=>cases e;exact hq.at_ 27 (by omega)
 |1,e=>cases e;exact hq.at_ 28 (by omega)
 |2,e=>cases e;exact hq.at_ 29 (by omega)
 |3,e=>cases e;exact hq.at_ 30 (by omega)
 |4,e=>cases e;exact hq.at_ 31 (by omega)
 |j+5,e=>cases e
theorem dstepE (B:Nat)(W0:World)(b:Nat)(c:Dc)(P:Pr)(s:Fm)(l:List Ob)(h:DIo B W0 b c P s s.g s.p l)(hE:s.e≠0):
 Calls Tryz.prog 29 #[.pointer (some ⟨b,0,none⟩)] W0 fun x w'=>x=.returned (s).outc∧DIo B w' b c P (s) (s).g (s).p l∧Below B W0 w':=by
 have he1:¬s.e=0:=hE;have h2:=ζ (h.new (List.toArray [Value.int .i64 0,.int .u64 0,.int .i64 0,.int .i64 0,.int .i64 0]) 62);clear h;go_enter Tryz.func29,Tryz.ntmps29;go_upto_region 1 with fail
 refine wp_world (fun W=>DIo B W b c P s s.g s.p (boxOb W0.heap.size (List.toArray [Value.int .i64 0,.int .u64 0,.int .i64 0,.int .i64 0,.int .i64 0])::l)∧Below B W0 W) h2.out ?_;rintro W ⟨h,hB⟩;replace h:=ζ h;replace hB:=ζ hB;clear h2;generalize W0.heap.size=kr at*;have c27:W.cell? ⟨b,27,none⟩=some (.int .i64 s.e):=h.out.row5 0 _ rfl;have hro:=ζ h.out.row5;have hA9:At W kr (List.toArray [Value.int .i64 0,.int .u64 0,.int .i64 0,.int .i64 0,.int .i64 0]):=h.out.there (boxOb kr (List.toArray [Value.int .i64 0,.int .u64 0,.int .i64 0,.int .i64 0,.int .i64 0])) (.head _);have hth:=ζ (At.there hA9 0 5 (by decide));have hA10:=ζ (At.setAll (cs:=[Value.int .i64 0,.int .u64 0,.int .i64 0,.int .i64 0,.int .i64 0]) hA9 [Value.int .i64 s.e,.int .u64 s.v,.int .i64 s.f,.int .i64 s.g,.int .i64 s.p] rfl);have h10:=h.out.side (o':=boxOb kr (List.toArray [Value.int .i64 s.e,.int .u64 s.v,.int .i64 s.f,.int .i64 s.g,.int .i64 s.p])) hA10.out (kp_setsZ W kr [Value.int .i64 s.e,.int .u64 s.v,.int .i64 s.f,.int .i64 s.g,.int .i64 s.p] 0) (fun _ r=>.inl r)
 replace hB:=ζ (hB.out.trans h10.2);replace h10:=ζ h10.1;clear hA9 h;go_upto_region 2 with fail
 refine wp_region_lit ?_;iterate 3 (refine xp fun K hK=>?_;go_simp;with_reducible refine hK _ _ ?_;clear hK K;(try simp only[xap]))
 refine xp fun K hK=>?_
 refine wp_load_mid _ _ rfl _ 27 rfl [Value.int .i64 s.e,.int .u64 s.v,.int .i64 s.f,.int .i64 s.g,.int .i64 s.p] _ hro.out Tryz.underlying62 rfl (by kernel_rfl) (hK _ _ ?_);clear hK K;try simp only[xap]
 refine xp fun K hK=>?_
 refine wp_store_mid _ _ _ rfl _ _ (List.toArray [Value.int .i64 s.e,.int .u64 s.v,.int .i64 s.f,.int .i64 s.g,.int .i64 s.p]) rfl rfl hth.out (by kernel_rfl) (by simp[Value.oneCell']) (hK _ _ ?_);clear hK K;try simp only[Act.put]
 generalize World.setCells _ _ _ _=V11 at*;have hrun:=ζ (run_loadVar_mid (P:=Tryz.prog) V11 kr 0 62 [Value.int .i64 s.e,.int .u64 s.v,.int .i64 s.f,.int .i64 s.g,.int .i64 s.p] _ (fun j v q=>by rw[Nat.zero_add];exact(hA10.out.2.1 j).trans (by simpa using q)) Tryz.underlying62 rfl (by kernel_rfl));go_wp2_with fail;refine bodyPost_ret (v:=s.outc) ?_ rfl ⟨rfl,h10.out.drop,hB.out⟩;exact results_rowZ Tryz.results29 _ _ rfl hrun.out
theorem dstepO (B:Nat)(W0:World)(b:Nat)(c:Dc)(P:Pr)(s:Fm)(l:List Ob)(h:DIo B W0 b c P s s.g s.p l)(he:s.e=0)(hg:s.g<P.code.length)(hpg:DPg B W0 c P)(hp:P.code[s.g].length≤s.p):
 Calls Tryz.prog 29 #[.pointer (some ⟨b,0,none⟩)] W0 fun x w'=>x=.returned ({s with e:=7,v:=0,f:=8}:Fm).outc∧DIo B w' b c P ({s with e:=7,v:=0,f:=8}:Fm) ({s with e:=7,v:=0,f:=8}:Fm).g ({s with e:=7,v:=0,f:=8}:Fm).p l∧Below B W0 w':=by
 have hgi:(s.g:Int)<(P.code.length:Int):=by omega
 obtain⟨cb,co,ra,rc,hca,hcb,hco⟩:=hpg.code s.g hg;replace hco:=ζ hco;replace hca:=ζ hca;obtain⟨N,hN⟩:∃N,P.code[s.g].length=N:=⟨_,rfl⟩;rw[hN]at hco hp;have h2:=ζ (h.new (List.toArray [Value.int .i64 0,.int .u64 0,.int .i64 0,.int .i64 0,.int .i64 0]) 62);clear h;go_enter Tryz.func29,Tryz.ntmps29;go_upto_region 1 with fail;refine wp_world (fun W=>DIo B W b c P s s.g s.p (boxOb W0.heap.size (List.toArray [Value.int .i64 0,.int .u64 0,.int .i64 0,.int .i64 0,.int .i64 0])::l)∧Below B W0 W) h2.out ?_;rintro W ⟨h,hB⟩;replace h:=ζ h;replace hB:=ζ hB;clear h2;generalize W0.heap.size=kr at*;have c27:W.cell? ⟨b,27,none⟩=some (.int .i64 s.e):=h.out.row5 0 _ rfl;have gd:Gr W W.drew:=(Gr.refl W).drew;go_upto_region 3 with fail;clear c27;replace hB:=ζ (hB.out.trans (gd.below.mono h.out.le));replace h:=ζ (h.out.gr gd.below);obtain⟨c0,c4,c5⟩:=h.out.codes cb co hca.out;obtain⟨cw,hei⟩:=hco.out _ hB.out;replace hei:=ζ hei
 clear gd;refine wp_region_held_drew (S:=(fun X=>X.cell? ⟨b,0,none⟩=some (.slice (some ⟨cb,co,none⟩) P.code.length c.cc)∧X.cell? ⟨b,4,none⟩=some (.int .i64 s.g)∧X.cell? ⟨cb,co+s.g,none⟩=some (.slice ra N rc))) (by kernel_rfl) (⟨c0,c4,cw⟩) (fun hHeld=>?_);refine xz 0 rfl (h:=xz 1 rfl (h:=xz 2 rfl (h:=xz 3 rfl (h:=xz 4 rfl (h:=xz 5 rfl (h:=xz 6 rfl (h:=xz 7 rfl (h:=xz 8 rfl (h:=xz 9 rfl (h:=xz 10 rfl (h:=xz 11 rfl (h:=?_))))))))))));try simp only[xap]
 refine xdn ?_ _;clear hHeld c0 c4 cw;generalize W.drew=V at*;have hpi:(N:Int)≤(s.p:Int):=by omega
 have hen:=ζ (h.out.onBox (s':={s with e:=7,v:=0,f:=8}) (og':=s.g) (op':=s.p) ⟨rfl,rfl,rfl,rfl,rfl⟩ (fun q hb=>dend_any b _ 7 0 8 V hb));go_upto_region 6 with(refine hen.out.mono ?_;rintro r V9 ⟨rfl,h9,hB9⟩)
 replace hB:=ζ (hB.out.trans hB9);replace h:=ζ h9;clear hen hB9 h9 c5 hei;have hro:=ζ h.out.row5;have hA9:At V9 kr (List.toArray [Value.int .i64 0,.int .u64 0,.int .i64 0,.int .i64 0,.int .i64 0]):=h.out.there (boxOb kr (List.toArray [Value.int .i64 0,.int .u64 0,.int .i64 0,.int .i64 0,.int .i64 0])) (.head _);have hth:=ζ (At.there hA9 0 5 (by decide));have hA10:=ζ (At.setAll (cs:=[Value.int .i64 0,.int .u64 0,.int .i64 0,.int .i64 0,.int .i64 0]) hA9 [Value.int .i64 7,.int .u64 0,.int .i64 8,.int .i64 s.g,.int .i64 s.p] rfl);have h10:=h.out.side (o':=boxOb kr (List.toArray [Value.int .i64 7,.int .u64 0,.int .i64 8,.int .i64 s.g,.int .i64 s.p])) hA10.out (kp_setsZ V9 kr [Value.int .i64 7,.int .u64 0,.int .i64 8,.int .i64 s.g,.int .i64 s.p] 0) (fun _ r=>.inl r);replace hB:=ζ (hB.out.trans h10.2);replace h10:=ζ h10.1;clear hA9 h;go_upto_region 6 with fail
 refine wp_region_lit ?_;iterate 3 (refine xp fun K hK=>?_;go_simp;with_reducible refine hK _ _ ?_;clear hK K;(try simp only[xap]))
 refine xp fun K hK=>?_
 refine wp_load_mid _ _ rfl _ 27 rfl [Value.int .i64 7,.int .u64 0,.int .i64 8,.int .i64 s.g,.int .i64 s.p] _ hro.out Tryz.underlying62 rfl (by kernel_rfl) (hK _ _ ?_);clear hK K;try simp only[xap]
 refine xp fun K hK=>?_
 refine wp_store_mid _ _ _ rfl _ _ (List.toArray [Value.int .i64 7,.int .u64 0,.int .i64 8,.int .i64 s.g,.int .i64 s.p]) rfl rfl hth.out (by kernel_rfl) (by simp[Value.oneCell']) (hK _ _ ?_);clear hK K;try simp only[Act.put]
 generalize World.setCells _ _ _ _=V11 at*;have hrun:=ζ (run_loadVar_mid (P:=Tryz.prog) V11 kr 0 62 [Value.int .i64 7,.int .u64 0,.int .i64 8,.int .i64 s.g,.int .i64 s.p] _ (fun j v q=>by rw[Nat.zero_add];exact(hA10.out.2.1 j).trans (by simpa using q)) Tryz.underlying62 rfl (by kernel_rfl));go_wp2_with fail;refine bodyPost_ret (v:=({s with e:=7,v:=0,f:=8}:Fm).outc) ?_ rfl ⟨rfl,h10.out.drop,hB.out⟩;exact results_rowZ Tryz.results29 _ _ rfl hrun.out
end Z
end Go.Proofs.YtdidjhillmgccaaGreat
