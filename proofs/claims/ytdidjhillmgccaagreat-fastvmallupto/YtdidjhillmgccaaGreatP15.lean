import Derived.Test.YtdidjhillmgccaaGreatZIn
import Derived.Test.YtdidjhillmgccaaGreatTEin
import Derived.Test.YtdidjhillmgccaaGreatRRow0
import Derived.Laws.EntriesVeiled
namespace Go.Proofs.YtdidjhillmgccaaGreat
set_option maxRecDepth 100000
set_option maxHeartbeats 40000000
namespace Z
open Go.RowKit
open T (Sep Ob Kp Mf FlIn boxOb)
def Named (op:Int):Prop:=(0≤op∧op≤13)∨(20≤op∧op≤24)∨(27≤op∧op≤32)∨(60≤op∧op≤65)∨(70≤op∧op≤72)
structure Fi.Ok (i:Fi)(n k:Nat):Prop where
 op:Named i.op
 a:i.a<16
 b:i.b<16
 c:i.c<16∨70≤i.op∧i.c≤255
 im:0≤i.i∧i.i<18446744073709551616
 jm:20≤i.op∧i.op≤24→i.i<n
 cl:i.op=31→i.i<k
theorem isWithin_ok (n lo hi:Int)(w:World)(h1:lo≤n)(h2:n≤hi):
 Calls Tryz.prog 61 #[.int .i64 n,.int .i64 lo,.int .i64 hi] w fun x w'=>x=.returned (.bool true)∧w'=w:=by
 go_enter Tryz.func61,Tryz.ntmps61;go_wp2_with fail;go_ret;exact⟨rfl,rfl⟩
theorem isNamed_ok (op:Int)(w:World)(h:Named op):
 Calls Tryz.prog 74 #[.int .u8 op] w fun x w'=>x=.returned (.bool true)∧w'=w:=by
 rcases h with h|h|h|h|h
 ·skip
  have y1:op≤13:=by omega
  have y2:0≤op:=by omega
  clear h;go_enter Tryz.func74,Tryz.ntmps74;go_wp2_with fail;go_ret;exact⟨rfl,rfl⟩
 ·skip
  have n0:¬op≤13:=by omega
  have y1:op≤24:=by omega
  have y2:20≤op:=by omega
  clear h;go_enter Tryz.func74,Tryz.ntmps74;go_wp2_with fail;go_ret;exact⟨rfl,rfl⟩
 ·skip
  have n0:¬op≤13:=by omega
  have n1:¬op≤24:=by omega
  have y1:op≤32:=by omega
  have y2:27≤op:=by omega
  clear h;go_enter Tryz.func74,Tryz.ntmps74;go_wp2_with fail;go_ret;exact⟨rfl,rfl⟩
 ·skip
  have n0:¬op≤13:=by omega
  have n1:¬op≤24:=by omega
  have n2:¬op≤32:=by omega
  have y1:op≤65:=by omega
  have y2:60≤op:=by omega
  clear h;go_enter Tryz.func74,Tryz.ntmps74;go_wp2_with fail;go_ret;exact⟨rfl,rfl⟩
 ·skip
  have n0:¬op≤13:=by omega
  have n1:¬op≤24:=by omega
  have n2:¬op≤32:=by omega
  have n3:¬op≤65:=by omega
  have y1:op≤72:=by omega
  have y2:70≤op:=by omega
  clear h;go_enter Tryz.func74,Tryz.ntmps74;go_wp2_with fail;go_ret;exact⟨rfl,rfl⟩
theorem fields_ok (i:Fi)(w:World)(ha:i.a<16)(hb:i.b<16)(hc:i.c<16∨70≤i.op∧i.c≤255):
 Calls Tryz.prog 75 #[.agg #[.int .u8 i.op,.int .i64 i.a,.int .i64 i.b,.int .i64 i.c,.int .u64 i.i]] w fun x w'=>x=.returned (.bool true)∧Gr w w':=by
 by_cases h70:70≤i.op
 ·have hcc:i.c≤255:=by omega
  clear hc;go_enter Tryz.func75,Tryz.ntmps75;go_wp2_with fail;refine(isWithin_ok _ _ _ _ (by omega) (by omega)).mono ?_;rintro r w1 ⟨rfl,e1⟩;subst e1;go_wp2_with fail;refine(isWithin_ok _ _ _ _ (by omega) (by omega)).mono ?_;rintro r w1 ⟨rfl,e1⟩;subst e1;go_wp2_with fail;refine(isWithin_ok _ _ _ _ (by omega) (by omega)).mono ?_;rintro r w1 ⟨rfl,e1⟩;subst e1;go_wp2_with fail;go_ret;exact⟨rfl,(Gr.refl w).alloc _⟩
 ·have hcc:i.c<16:=by omega
  clear hc;go_enter Tryz.func75,Tryz.ntmps75;go_wp2_with fail;refine(isWithin_ok _ _ _ _ (by omega) (by omega)).mono ?_;rintro r w1 ⟨rfl,e1⟩;subst e1;go_wp2_with fail;refine(isWithin_ok _ _ _ _ (by omega) (by omega)).mono ?_;rintro r w1 ⟨rfl,e1⟩;subst e1;go_wp2_with fail;refine(isWithin_ok _ _ _ _ (by omega) (by omega)).mono ?_;rintro r w1 ⟨rfl,e1⟩;subst e1;go_wp2_with fail;go_ret;exact⟨rfl,(Gr.refl w).alloc _⟩
theorem there_ok (i:Fi)(n k:Nat)(w:World)(hl:n≤1000∧k≤1000)(jm:20≤i.op∧i.op≤24→i.i<n)(cl:i.op=31→i.i<k):
 Calls Tryz.prog 76 #[.agg #[.int .u8 i.op,.int .i64 i.a,.int .i64 i.b,.int .i64 i.c,.int .u64 i.i],.int .i64 n,.int .i64 k] w fun x w'=>x=.returned (.bool true)∧Gr w w':=by
 obtain⟨op,ia,ib,ic,im⟩:=i;dsimp only at*;have hn:IntKind.u64.wrap (n:Int)=(n:Int):=by simp[IntKind.wrap,IntKind.bits,IntKind.signed];omega
 have hk:IntKind.u64.wrap (k:Int)=(k:Int):=by simp[IntKind.wrap,IntKind.bits,IntKind.signed];omega
 replace hl:=ζ hl;by_cases e20:op=20
 ·subst e20;have y:=jm ⟨by omega,by omega⟩;clear jm cl;go_enter Tryz.func76,Tryz.ntmps76;go_wp2_with fail;go_ret;exact⟨rfl,(Gr.refl w).alloc _⟩
 by_cases e21:op=21
 ·subst e21;have y:=jm ⟨by omega,by omega⟩;clear jm cl;go_enter Tryz.func76,Tryz.ntmps76;go_wp2_with fail;go_ret;exact⟨rfl,(Gr.refl w).alloc _⟩
 by_cases e22:op=22
 ·subst e22;have y:=jm ⟨by omega,by omega⟩;clear jm cl;go_enter Tryz.func76,Tryz.ntmps76;go_wp2_with fail;go_ret;exact⟨rfl,(Gr.refl w).alloc _⟩
 by_cases e23:op=23
 ·subst e23;have y:=jm ⟨by omega,by omega⟩;clear jm cl;go_enter Tryz.func76,Tryz.ntmps76;go_wp2_with fail;go_ret;exact⟨rfl,(Gr.refl w).alloc _⟩
 by_cases e24:op=24
 ·subst e24;have y:=jm ⟨by omega,by omega⟩;clear jm cl;go_enter Tryz.func76,Tryz.ntmps76;go_wp2_with fail;go_ret;exact⟨rfl,(Gr.refl w).alloc _⟩
 by_cases e31:op=31
 ·subst e31;have y:=cl rfl;clear jm cl;go_enter Tryz.func76,Tryz.ntmps76;go_wp2_with fail;go_ret;exact⟨rfl,(Gr.refl w).alloc _⟩
 have f20:(op==20)=false:=by simpa using e20
 have f21:(op==21)=false:=by simpa using e21
 have f22:(op==22)=false:=by simpa using e22
 have f23:(op==23)=false:=by simpa using e23
 have f24:(op==24)=false:=by simpa using e24
 have f31:(op==31)=false:=by simpa using e31
 clear jm cl e20 e21 e22 e23 e24 e31;go_enter Tryz.func76,Tryz.ntmps76;go_wp2_with fail;go_ret;exact⟨rfl,(Gr.refl w).alloc _⟩
theorem Fg.len (g:Fg):g.vals.length=19:=by simp[Fg.vals,regs_len]
theorem gate_ok (g:Fg)(n:Nat)(w:World)(he:g.e<n)(ha:g.a≤7)(hs:g.s≤7)(hn:n≤1000):
 Calls Tryz.prog 63 #[.agg (Fg.vals g).toArray,.int .i64 n] w fun x w'=>x=.returned (.bool true)∧Gr w w':=by
 have e1:wrap64 ((n:Int) - 1)=(n:Int) - 1:=by unfold wrap64;omega
 go_enter Tryz.func63,Tryz.ntmps63;go_upto_region 1 with fail
 refine wp_world (fun W=>At W w.heap.size (Fg.vals g).toArray∧Gr w W) ⟨At.new w _ _,(Gr.refl _).alloc _⟩ ?_;rintro W ⟨hA,G⟩;generalize w.heap.size=kb at*;have c0:W.cell? ⟨kb,0,none⟩=some (.int .i64 g.e):=hA.2.1 0;have c1:W.cell? ⟨kb,1,none⟩=some (.int .i64 g.a):=hA.2.1 1;have c2:W.cell? ⟨kb,2,none⟩=some (.int .i64 g.s):=hA.2.1 2;replace hA:=ζ hA;go_wp2_with fail;refine(isWithin_ok _ _ _ _ (by omega) (by omega)).mono ?_;rintro r w1 ⟨rfl,e1⟩;subst e1;go_wp2_with fail;refine(isWithin_ok _ _ _ _ (by omega) (by omega)).mono ?_;rintro r w1 ⟨rfl,e1⟩;subst e1;go_wp2_with fail;refine(isWithin_ok _ _ _ _ (by omega) (by omega)).mono ?_;rintro r w1 ⟨rfl,e1⟩;subst e1;go_wp2_with fail;go_ret;exact⟨rfl,G⟩
theorem eat5 {w W:World}{a:Option Addr}{L:List Fi}(h:T.EIn 5 Fi.vals w a L)(g:Gr w W)(j:Nat)(hj:j<L.length):∃b off:Nat,a=some ⟨b,off,none⟩∧b<W.heap.size∧W.rangeAt b (off+j*5) L[j].vals:=by
 obtain⟨b,off,e1,e2,e3⟩:=h j hj;exact⟨b,off,e1,Nat.lt_of_lt_of_le e2 g.below.size,fun i v q=>(T.cell_of_block (g.below.block b e2) _).trans (e3 i v q)⟩
theorem next_mY {k n:Nat}(h:k<n):n - (intOf (.int .i64 ((k+1:Nat):Int))).toNat<n - (intOf (.int .i64 (k:Int))).toNat:=by simp[intOf];omega
theorem row_ok (L:List Fi)(a:Option Addr)(c k:Nat)(w:World)(hL:T.EIn 5 Fi.vals w a L)(hl:1≤L.length∧L.length≤400)(hk:k≤1000)(ok:∀i∈L,i.Ok L.length k):
 Calls Tryz.prog 62 #[.slice a L.length c,.int .i64 k] w fun x w'=>x=.returned (.bool true)∧Gr w w':=by
 replace hL:=ζ hL;replace ok:=ζ ok;have hlen:L.length≤1000000:=by omega
 go_enter Tryz.func62,Tryz.ntmps62;go_wp2_with fail;refine(isWithin_ok _ _ _ _ (by omega) (by omega)).mono ?_;rintro r w1 ⟨rfl,e1⟩;subst e1;go_upto_region 4 with fail
 go_loopw [13] (fun x wr=>∃j:Nat,x=.int .i64 j∧j≤L.length∧Hz (Gr w1 wr)) (fun x _=>L.length - (intOf x).toNat)
 case atStart=>exact⟨0,rfl,Nat.zero_le _,ζ (Gr.refl _)⟩
 case round=>
  obtain⟨j,rfl,hj,G⟩:=hrel;by_cases hlt:j<L.length
  ·have hj1:(j:Int)<(L.length:Int):=Int.ofNat_lt.2 hlt;obtain⟨b,off,rfl,hb,hr⟩:=eat5 hL.out G.out j hlt;have hok:=ok.out _ (List.getElem_mem hlt);generalize L[j]=i at*;have c0:wr.cell? ⟨b,off+j*5,none⟩=some (.int .u8 i.op):=hr 0 _ rfl;have c1:wr.cell? ⟨b,off+j*5+1,none⟩=some (.int .i64 i.a):=hr 1 _ rfl;have c2:wr.cell? ⟨b,off+j*5+1+1,none⟩=some (.int .i64 i.b):=hr 2 _ rfl;have c3:wr.cell? ⟨b,off+j*5+1+1+1,none⟩=some (.int .i64 i.c):=hr 3 _ rfl;have c4:wr.cell? ⟨b,off+j*5+1+1+1+1,none⟩=some (.int .u64 i.i):=hr 4 _ rfl;replace hok:=ζ hok;replace hr:=ζ hr;go_upto_region 6 with fail
   refine wp_world (fun W=>At W wr.heap.size i.w∧Gr wr W) ⟨At.new wr _ _,(Gr.refl _).alloc _⟩ ?_;rintro V ⟨hA,g1⟩;replace G:=ζ (G.out.trans g1);generalize wr.heap.size=kb at*;clear c0 c1 c2 c3 c4 hr hb g1;have d0:V.cell? ⟨kb,0,none⟩=some (.int .u8 i.op):=hA.2.1 0;have d1:V.cell? ⟨kb,1,none⟩=some (.int .i64 i.a):=hA.2.1 1;have d2:V.cell? ⟨kb,2,none⟩=some (.int .i64 i.b):=hA.2.1 2;have d3:V.cell? ⟨kb,3,none⟩=some (.int .i64 i.c):=hA.2.1 3;have d4:V.cell? ⟨kb,4,none⟩=some (.int .u64 i.i):=hA.2.1 4;go_wp2_with fail;refine(isNamed_ok _ _ hok.out.op).mono ?_;rintro r V1 ⟨rfl,e1⟩;subst e1;go_wp2_with fail;refine(fields_ok i _ hok.out.a hok.out.b hok.out.c).mono ?_;rintro r V2 ⟨rfl,g2⟩;have hA2:=hA.gr g2;clear d0 d1 d2 d3 d4;have d0:V2.cell? ⟨kb,0,none⟩=some (.int .u8 i.op):=hA2.2.1 0;have d1:V2.cell? ⟨kb,1,none⟩=some (.int .i64 i.a):=hA2.2.1 1;have d2:V2.cell? ⟨kb,2,none⟩=some (.int .i64 i.b):=hA2.2.1 2
   have d3:V2.cell? ⟨kb,3,none⟩=some (.int .i64 i.c):=hA2.2.1 3;have d4:V2.cell? ⟨kb,4,none⟩=some (.int .u64 i.i):=hA2.2.1 4;go_wp2_with fail;refine(there_ok i L.length k _ ⟨by omega,hk⟩ hok.out.jm hok.out.cl).mono ?_;rintro r V3 ⟨rfl,g3⟩;have G4:=ζ ((G.out.trans g2).trans g3);clear G g2 g3 hA hA2 d0 d1 d2 d3 d4 hok;go_wp2_with fail;refine⟨⟨j+1,?_,hlt,G4⟩,?_⟩
   ·first|rfl|rw[next_wY hlt hlen]|go_num
   ·first|exact next_mY hlt|(rw[next_wY hlt hlen];exact next_mY hlt)
  ·have hj1:¬(j:Int)<(L.length:Int):=fun q=>hlt (Int.ofNat_lt.1 q)
   go_wp2_with fail;go_ret;exact⟨rfl,G.out⟩
structure Pr.Ok (P:Pr):Prop where
 n1:1≤P.gates.length∧P.gates.length≤16
 nc:P.code.length=P.gates.length
 dp:0≤P.dep∧P.dep≤16
 row:∀r∈P.code,(1≤r.length∧r.length≤400)∧∀i∈r,i.Ok r.length P.gates.length
 gate:∀k (h:k<P.gates.length) (h2:k<P.code.length),P.gates[k].e<P.code[k].length∧P.gates[k].a≤7∧P.gates[k].s≤7
structure RwIn (w:World)(ca ga:Option Addr)(P:Pr):Prop where
 code:∀k (h:k<P.code.length),∃(b off:Nat) (ra:Option Addr) (rc:Nat),ca=some ⟨b,off,none⟩∧b<w.heap.size∧w.cell? ⟨b,off+k,none⟩=some (.slice ra P.code[k].length rc)∧T.EIn 5 Fi.vals w ra P.code[k]
 gate:∀k (h:k<P.gates.length),∃b off:Nat,ga=some ⟨b,off,none⟩∧b<w.heap.size∧w.rangeAt b (off+k*19) P.gates[k].vals
theorem RwIn.gr {w W:World}{ca ga:Option Addr}{P:Pr}(h:RwIn w ca ga P)(g:Gr w W):RwIn W ca ga P:=by
 refine⟨fun k hk=>?_,fun k hk=>?_⟩
 ·obtain⟨b,off,ra,rc,e1,e2,e3,e4⟩:=h.code k hk;exact⟨b,off,ra,rc,e1,Nat.lt_of_lt_of_le e2 g.below.size,(T.cell_of_block (g.below.block b e2) _).trans e3,e4.below g.below⟩
 ·obtain⟨b,off,e1,e2,e3⟩:=h.gate k hk;exact⟨b,off,e1,Nat.lt_of_lt_of_le e2 g.below.size,fun i v q=>(T.cell_of_block (g.below.block b e2) _).trans (e3 i v q)⟩
theorem Fg.one (g:Fg):g.vals.toArray.all (fun x=>x.oneCell')=true:=by
 rw[Array.all_eq_true_iff_forall_mem];intro u hu;simp only[List.mem_toArray,Fg.vals,List.mem_cons]at hu;rcases hu with rfl|rfl|rfl|hu
 ·rfl
 ·rfl
 ·rfl
 ·exact regs_one g.r u hu
theorem mayBe_ok (P:Pr)(ca ga:Option Addr)(cc gc:Nat)(mem:ByteArray)(w:World)(hP:RwIn w ca ga P)(ok:P.Ok)(hm:mem.size≤65536):
 Calls Tryz.prog 41 #[.agg #[.slice ca P.code.length cc,.slice ga P.gates.length gc,.string mem,.int .i64 P.dep]] w fun x w'=>x=.returned (.bool true)∧Gr w w':=by
 have n1:=ok.n1;have nc:=ok.nc;have dp:=ok.dp;have nci:((P.code.length:Int) != (P.gates.length:Int))=false:=by simp[nc]
 have hmi:¬(65536:Int)<(mem.size:Int):=by omega
 replace ok:=ζ ok;replace nc:=ζ nc;have hlen:P.gates.length≤1000000:=by omega
 go_enter Tryz.func41,Tryz.ntmps41;go_upto_region 1 with fail
 refine wp_world (fun W=>At W w.heap.size #[.slice ca P.code.length cc,.slice ga P.gates.length gc,.string mem,.int .i64 P.dep]∧Gr w W) ⟨At.new w _ _,(Gr.refl _).alloc _⟩ ?_;rintro W ⟨hA,G⟩;replace hP:=ζ (hP.gr G);generalize w.heap.size=kp at*;have c0:W.cell? ⟨kp,0,none⟩=some (.slice ca P.code.length cc):=hA.2.1 0;have c1:W.cell? ⟨kp,1,none⟩=some (.slice ga P.gates.length gc):=hA.2.1 1;have c2:W.cell? ⟨kp,2,none⟩=some (.string mem):=hA.2.1 2;have c3:W.cell? ⟨kp,3,none⟩=some (.int .i64 P.dep):=hA.2.1 3;replace hA:=ζ hA;go_wp2_with fail;refine(isWithin_ok _ _ _ _ (by omega) (by omega)).mono ?_;rintro r w1 ⟨rfl,e1⟩;subst e1;go_wp2_with fail;refine(isWithin_ok _ _ _ _ (by omega) (by omega)).mono ?_;rintro r w2 ⟨rfl,e1⟩;subst e1;go_upto_region 6 with fail
 clear c0 c1 c2 c3;go_loopw [32] (fun x wr=>∃k:Nat,x=.int .i64 k∧k≤P.gates.length∧Hz (Gr w2 wr)) (fun x _=>P.gates.length - (intOf x).toNat)
 case atStart=>exact⟨0,rfl,Nat.zero_le _,ζ (Gr.refl _)⟩
 case round=>
  obtain⟨k,rfl,hk,G2⟩:=hrel;by_cases hlt:k<P.gates.length
  ·have hk1:(k:Int)<(P.gates.length:Int):=Int.ofNat_lt.2 hlt;have hkc:k<P.code.length:=by rw[nc.out];exact hlt
   have hk2:(k:Int)<(P.code.length:Int):=Int.ofNat_lt.2 hkc;have hrow:=ok.out.row _ (List.getElem_mem hkc);have hga:=ok.out.gate k hlt hkc;obtain⟨gb,goff,rfl,hgb,hgr⟩:=(hP.out.gr G2.out).gate k hlt;go_upto_region 7 with fail
   refine wp_region_lit ?_;iterate 2 (refine xp fun K hK=>?_;go_simp;with_reducible refine hK _ _ ?_;clear hK K;(try simp only[xap]))
   refine xp fun K hK=>?_
   refine wp_load_mid _ _ rfl _ (goff+k*19) rfl P.gates[k].vals _ hgr Tryz.underlying70 rfl (by rw[Fg.len];kernel_rfl) (hK _ _ ?_);clear hK K;try simp only[xap]
   refine xp fun K hK=>?_
   go_simp;with_reducible refine hK _ _ ?_
   clear hK K;try simp only[xap]
   have hA7:At (wr.alloc (.cells (List.toArray [Value.int .i64 0,.int .i64 0,.int .i64 0,.int .u64 0,.int .u64 0,.int .u64 0,.int .u64 0,.int .u64 0,.int .u64 0,.int .u64 0,.int .u64 0,.int .u64 0,.int .u64 0,.int .u64 0,.int .u64 0,.int .u64 0,.int .u64 0,.int .u64 0,.int .u64 0]) 70)) wr.heap.size (List.toArray [Value.int .i64 0,.int .i64 0,.int .i64 0,.int .u64 0,.int .u64 0,.int .u64 0,.int .u64 0,.int .u64 0,.int .u64 0,.int .u64 0,.int .u64 0,.int .u64 0,.int .u64 0,.int .u64 0,.int .u64 0,.int .u64 0,.int .u64 0,.int .u64 0,.int .u64 0]):=At.new wr _ _;have hth:=ζ (At.there hA7 0 19 (by decide));have hA8:=ζ (At.setAll hA7 P.gates[k].vals (by rw[Fg.len];rfl));have g8:=ζ (Gr.setCells ((Gr.refl wr).alloc (.cells (List.toArray [Value.int .i64 0,.int .i64 0,.int .i64 0,.int .u64 0,.int .u64 0,.int .u64 0,.int .u64 0,.int .u64 0,.int .u64 0,.int .u64 0,.int .u64 0,.int .u64 0,.int .u64 0,.int .u64 0,.int .u64 0,.int .u64 0,.int .u64 0,.int .u64 0,.int .u64 0]) 70)) wr.heap.size (Nat.le_refl _) P.gates[k].vals 0)
   rw[←Fg.len P.gates[k]]at hth;clear hA7;refine xp fun K hK=>?_
   go_simp;with_reducible refine hK _ _ ?_
   clear hK K;try simp only[xap]
   refine xp fun K hK=>?_
   refine wp_store_mid _ _ _ rfl _ _ (List.toArray P.gates[k].vals) rfl rfl (by simpa using hth.out) (by rw[List.size_toArray,Fg.len];kernel_rfl) (Fg.one _) (hK _ _ ?_);clear hK K;try simp only[Act.put]
   generalize World.setCells _ _ _ _=V at*;have hA9:=hA8;have G3:=ζ (G2.out.trans g8.out);clear hA8 g8 hth hgr hgb;generalize wr.heap.size=kg at*;clear G2;have hAp:=ζ (hA.out.gr G3.out);obtain⟨b,off,ra,rc,e9,hb9,hcc,hE⟩:=(hP.out.gr G3.out).code k hkc;subst e9;replace hE:=ζ hE;have KS:Hz (∀U,Gr V U→U.cell? ⟨kp,0,none⟩=some (.slice (some ⟨b,off,none⟩) P.code.length cc)∧U.cell? ⟨kp,1,none⟩=some (.slice (some ⟨gb,goff,none⟩) P.gates.length gc)∧U.cell? ⟨b,off+k,none⟩=some (.slice ra P.code[k].length rc)∧U.rangeAt kg 0 P.gates[k].vals):=ζ (fun U g=>⟨(hAp.out.gr g).2.1 0,(hAp.out.gr g).2.1 1,(T.cell_of_block (g.below.block b hb9) _).trans hcc,(hA9.out.gr g).range⟩);have g0:Gr V V.drew:=(Gr.refl V).drew;clear hb9 hcc;go_upto_region 8 with fail
   refine wp_region_held_drew (S:=(fun W=>W.cell? ⟨kp,0,none⟩=some (.slice (some ⟨b,off,none⟩) P.code.length cc)∧W.cell? ⟨kp,1,none⟩=some (.slice (some ⟨gb,goff,none⟩) P.gates.length gc)∧W.cell? ⟨b,off+k,none⟩=some (.slice ra P.code[k].length rc)∧W.rangeAt kg 0 P.gates[k].vals)) (by kernel_rfl) (KS.out _ g0) (fun hHeld=>?_);refine xz 0 rfl (h:=xz 1 rfl (h:=xz 2 rfl (h:=xz 3 rfl (h:=xz 4 rfl (h:=xz 5 rfl (h:=xz 6 rfl (h:=xz 7 rfl (h:=?_))))))));try simp only[xap]
   refine xrd 8 rfl (fun K hK=>?_);go_simp;go_wp2_with(refine(row_ok P.code[k] ra rc P.gates.length _ (hE.out.below g0.below) hrow.1 (by omega) hrow.2).mono ?_;rintro r U1 ⟨rfl,gg⟩;have g1:=g0.trans gg;clear gg g0 hHeld);refine hK.out _ _ (KS.out _ g1) (fun hHeld=>?_);clear hK K;try simp only[xap]
   refine xz 9 rfl (h:=xz 10 rfl (h:=?_));try simp only[xap]
   refine xtk 11 rfl (yieldsIf_load_mid (by rfl) _ _ rfl _ _ rfl _ _ (fun _ h=>h.2.2.2) Tryz.underlying70 rfl (by rw[Fg.len];kernel_rfl)) ?_;try simp only[xap]
   refine xz 12 rfl (h:=?_);try simp only[xap]
   refine xz 13 rfl (h:=?_);try simp only[xap]
   refine xz 14 rfl (h:=?_);try simp only[xap]
   refine xz 15 rfl (h:=?_);try simp only[xap]
   refine xz 16 rfl (h:=?_);try simp only[xap]
   refine xz 17 rfl (h:=?_);try simp only[xap]
   refine xrd 18 rfl (fun K hK=>?_);go_simp;go_wp2_with(refine(gate_ok P.gates[k] P.code[k].length _ hga.1 hga.2.1 hga.2.2 (by omega)).mono ?_;rintro r U2 ⟨rfl,gg⟩;have g2:=g1.trans gg;clear gg g1 hHeld);refine hK.out _ _ (KS.out _ g2) (fun hHeld=>?_);clear hK K;try simp only[xap]
   refine xz 19 rfl (h:=xz 20 rfl (h:=?_));try simp only[xap]
   refine xdn ?_ _;clear hHeld KS;have G4:=ζ (G3.out.trans g2);clear G3 g2 hE hAp hA9;go_wp2_with fail;refine⟨⟨k+1,?_,hlt,G4⟩,?_⟩
   ·first|rfl|rw[next_wY hlt hlen]|go_num
   ·first|exact next_mY hlt|(rw[next_wY hlt hlen];exact next_mY hlt)
  ·have hk1:¬(k:Int)<(P.gates.length:Int):=fun q=>hlt (Int.ofNat_lt.1 q)
   go_wp2_with fail;go_ret;exact⟨rfl,G.trans G2.out⟩
theorem m0_any (ia ib ic:Nat)(im:Int)(w:World):
 Calls Tryz.prog 77 #[.agg #[.int .u8 0,.int .i64 ia,.int .i64 ib,.int .i64 ic,.int .u64 im]] w fun x w'=>x=.returned (methV ⟨0,ia,ib,ic,im⟩)∧Gr w w':=by
 go_enter Tryz.func77,Tryz.ntmps77;go_wp2_with fail;go_ret;exact⟨rfl,(Gr.refl w).alloc _⟩
theorem m1_any (ia ib ic:Nat)(im:Int)(w:World):
 Calls Tryz.prog 77 #[.agg #[.int .u8 1,.int .i64 ia,.int .i64 ib,.int .i64 ic,.int .u64 im]] w fun x w'=>x=.returned (methV ⟨1,ia,ib,ic,im⟩)∧Gr w w':=by
 go_enter Tryz.func77,Tryz.ntmps77;go_wp2_with fail;go_ret;exact⟨rfl,(Gr.refl w).alloc _⟩
theorem m2_any (ia ib ic:Nat)(im:Int)(w:World):
 Calls Tryz.prog 77 #[.agg #[.int .u8 2,.int .i64 ia,.int .i64 ib,.int .i64 ic,.int .u64 im]] w fun x w'=>x=.returned (methV ⟨2,ia,ib,ic,im⟩)∧Gr w w':=by
 go_enter Tryz.func77,Tryz.ntmps77;go_wp2_with fail;go_ret;exact⟨rfl,(Gr.refl w).alloc _⟩
theorem m3_any (ia ib ic:Nat)(im:Int)(w:World):
 Calls Tryz.prog 77 #[.agg #[.int .u8 3,.int .i64 ia,.int .i64 ib,.int .i64 ic,.int .u64 im]] w fun x w'=>x=.returned (methV ⟨3,ia,ib,ic,im⟩)∧Gr w w':=by
 go_enter Tryz.func77,Tryz.ntmps77;go_wp2_with fail;go_ret;exact⟨rfl,(Gr.refl w).alloc _⟩
theorem m4_any (ia ib ic:Nat)(im:Int)(w:World):
 Calls Tryz.prog 77 #[.agg #[.int .u8 4,.int .i64 ia,.int .i64 ib,.int .i64 ic,.int .u64 im]] w fun x w'=>x=.returned (methV ⟨4,ia,ib,ic,im⟩)∧Gr w w':=by
 go_enter Tryz.func77,Tryz.ntmps77;go_wp2_with fail;go_ret;exact⟨rfl,(Gr.refl w).alloc _⟩
theorem m5_any (ia ib ic:Nat)(im:Int)(w:World):
 Calls Tryz.prog 77 #[.agg #[.int .u8 5,.int .i64 ia,.int .i64 ib,.int .i64 ic,.int .u64 im]] w fun x w'=>x=.returned (methV ⟨5,ia,ib,ic,im⟩)∧Gr w w':=by
 go_enter Tryz.func77,Tryz.ntmps77;go_wp2_with fail;go_ret;exact⟨rfl,(Gr.refl w).alloc _⟩
theorem m6_any (ia ib ic:Nat)(im:Int)(w:World):
 Calls Tryz.prog 77 #[.agg #[.int .u8 6,.int .i64 ia,.int .i64 ib,.int .i64 ic,.int .u64 im]] w fun x w'=>x=.returned (methV ⟨6,ia,ib,ic,im⟩)∧Gr w w':=by
 go_enter Tryz.func77,Tryz.ntmps77;go_wp2_with fail;go_ret;exact⟨rfl,(Gr.refl w).alloc _⟩
theorem m7_any (ia ib ic:Nat)(im:Int)(w:World):
 Calls Tryz.prog 77 #[.agg #[.int .u8 7,.int .i64 ia,.int .i64 ib,.int .i64 ic,.int .u64 im]] w fun x w'=>x=.returned (methV ⟨7,ia,ib,ic,im⟩)∧Gr w w':=by
 go_enter Tryz.func77,Tryz.ntmps77;go_wp2_with fail;go_ret;exact⟨rfl,(Gr.refl w).alloc _⟩
theorem m8_any (ia ib ic:Nat)(im:Int)(w:World):
 Calls Tryz.prog 77 #[.agg #[.int .u8 8,.int .i64 ia,.int .i64 ib,.int .i64 ic,.int .u64 im]] w fun x w'=>x=.returned (methV ⟨8,ia,ib,ic,im⟩)∧Gr w w':=by
 go_enter Tryz.func77,Tryz.ntmps77;go_wp2_with fail;go_ret;exact⟨rfl,(Gr.refl w).alloc _⟩
theorem m9_any (ia ib ic:Nat)(im:Int)(w:World):
 Calls Tryz.prog 77 #[.agg #[.int .u8 9,.int .i64 ia,.int .i64 ib,.int .i64 ic,.int .u64 im]] w fun x w'=>x=.returned (methV ⟨9,ia,ib,ic,im⟩)∧Gr w w':=by
 go_enter Tryz.func77,Tryz.ntmps77;go_wp2_with fail;go_ret;exact⟨rfl,(Gr.refl w).alloc _⟩
theorem m10_any (ia ib ic:Nat)(im:Int)(w:World):
 Calls Tryz.prog 77 #[.agg #[.int .u8 10,.int .i64 ia,.int .i64 ib,.int .i64 ic,.int .u64 im]] w fun x w'=>x=.returned (methV ⟨10,ia,ib,ic,im⟩)∧Gr w w':=by
 go_enter Tryz.func77,Tryz.ntmps77;go_wp2_with fail;go_ret;exact⟨rfl,(Gr.refl w).alloc _⟩
theorem m11_any (ia ib ic:Nat)(im:Int)(w:World):
 Calls Tryz.prog 77 #[.agg #[.int .u8 11,.int .i64 ia,.int .i64 ib,.int .i64 ic,.int .u64 im]] w fun x w'=>x=.returned (methV ⟨11,ia,ib,ic,im⟩)∧Gr w w':=by
 go_enter Tryz.func77,Tryz.ntmps77;go_wp2_with fail;go_ret;exact⟨rfl,(Gr.refl w).alloc _⟩
theorem m12_any (ia ib ic:Nat)(im:Int)(w:World):
 Calls Tryz.prog 77 #[.agg #[.int .u8 12,.int .i64 ia,.int .i64 ib,.int .i64 ic,.int .u64 im]] w fun x w'=>x=.returned (methV ⟨12,ia,ib,ic,im⟩)∧Gr w w':=by
 go_enter Tryz.func77,Tryz.ntmps77;go_wp2_with fail;go_ret;exact⟨rfl,(Gr.refl w).alloc _⟩
theorem m13_any (ia ib ic:Nat)(im:Int)(w:World):
 Calls Tryz.prog 77 #[.agg #[.int .u8 13,.int .i64 ia,.int .i64 ib,.int .i64 ic,.int .u64 im]] w fun x w'=>x=.returned (methV ⟨13,ia,ib,ic,im⟩)∧Gr w w':=by
 go_enter Tryz.func77,Tryz.ntmps77;go_wp2_with fail;go_ret;exact⟨rfl,(Gr.refl w).alloc _⟩
theorem m20_any (ia ib ic:Nat)(im:Int)(w:World):
 Calls Tryz.prog 78 #[.agg #[.int .u8 20,.int .i64 ia,.int .i64 ib,.int .i64 ic,.int .u64 im]] w fun x w'=>x=.returned (methV ⟨20,ia,ib,ic,im⟩)∧Gr w w':=by
 go_enter Tryz.func78,Tryz.ntmps78;go_wp2_with fail;go_ret;exact⟨rfl,(Gr.refl w).alloc _⟩
theorem m21_any (ia ib ic:Nat)(im:Int)(w:World):
 Calls Tryz.prog 78 #[.agg #[.int .u8 21,.int .i64 ia,.int .i64 ib,.int .i64 ic,.int .u64 im]] w fun x w'=>x=.returned (methV ⟨21,ia,ib,ic,im⟩)∧Gr w w':=by
 go_enter Tryz.func78,Tryz.ntmps78;go_wp2_with fail;go_ret;exact⟨rfl,(Gr.refl w).alloc _⟩
theorem m22_any (ia ib ic:Nat)(im:Int)(w:World):
 Calls Tryz.prog 78 #[.agg #[.int .u8 22,.int .i64 ia,.int .i64 ib,.int .i64 ic,.int .u64 im]] w fun x w'=>x=.returned (methV ⟨22,ia,ib,ic,im⟩)∧Gr w w':=by
 go_enter Tryz.func78,Tryz.ntmps78;go_wp2_with fail;go_ret;exact⟨rfl,(Gr.refl w).alloc _⟩
theorem m23_any (ia ib ic:Nat)(im:Int)(w:World):
 Calls Tryz.prog 78 #[.agg #[.int .u8 23,.int .i64 ia,.int .i64 ib,.int .i64 ic,.int .u64 im]] w fun x w'=>x=.returned (methV ⟨23,ia,ib,ic,im⟩)∧Gr w w':=by
 go_enter Tryz.func78,Tryz.ntmps78;go_wp2_with fail;go_ret;exact⟨rfl,(Gr.refl w).alloc _⟩
theorem m24_any (ia ib ic:Nat)(im:Int)(w:World):
 Calls Tryz.prog 78 #[.agg #[.int .u8 24,.int .i64 ia,.int .i64 ib,.int .i64 ic,.int .u64 im]] w fun x w'=>x=.returned (methV ⟨24,ia,ib,ic,im⟩)∧Gr w w':=by
 go_enter Tryz.func78,Tryz.ntmps78;go_wp2_with fail;go_ret;exact⟨rfl,(Gr.refl w).alloc _⟩
theorem m27_any (ia ib ic:Nat)(im:Int)(w:World):
 Calls Tryz.prog 78 #[.agg #[.int .u8 27,.int .i64 ia,.int .i64 ib,.int .i64 ic,.int .u64 im]] w fun x w'=>x=.returned (methV ⟨27,ia,ib,ic,im⟩)∧Gr w w':=by
 go_enter Tryz.func78,Tryz.ntmps78;go_wp2_with fail;go_ret;exact⟨rfl,(Gr.refl w).alloc _⟩
theorem m28_any (ia ib ic:Nat)(im:Int)(w:World):
 Calls Tryz.prog 78 #[.agg #[.int .u8 28,.int .i64 ia,.int .i64 ib,.int .i64 ic,.int .u64 im]] w fun x w'=>x=.returned (methV ⟨28,ia,ib,ic,im⟩)∧Gr w w':=by
 go_enter Tryz.func78,Tryz.ntmps78;go_wp2_with fail;go_ret;exact⟨rfl,(Gr.refl w).alloc _⟩
theorem m29_any (ia ib ic:Nat)(im:Int)(w:World):
 Calls Tryz.prog 78 #[.agg #[.int .u8 29,.int .i64 ia,.int .i64 ib,.int .i64 ic,.int .u64 im]] w fun x w'=>x=.returned (methV ⟨29,ia,ib,ic,im⟩)∧Gr w w':=by
 go_enter Tryz.func78,Tryz.ntmps78;go_wp2_with fail;go_ret;exact⟨rfl,(Gr.refl w).alloc _⟩
theorem m30_any (ia ib ic:Nat)(im:Int)(w:World):
 Calls Tryz.prog 78 #[.agg #[.int .u8 30,.int .i64 ia,.int .i64 ib,.int .i64 ic,.int .u64 im]] w fun x w'=>x=.returned (methV ⟨30,ia,ib,ic,im⟩)∧Gr w w':=by
 go_enter Tryz.func78,Tryz.ntmps78;go_wp2_with fail;go_ret;exact⟨rfl,(Gr.refl w).alloc _⟩
theorem m31_any (ia ib ic:Nat)(im:Int)(w:World):
 Calls Tryz.prog 78 #[.agg #[.int .u8 31,.int .i64 ia,.int .i64 ib,.int .i64 ic,.int .u64 im]] w fun x w'=>x=.returned (methV ⟨31,ia,ib,ic,im⟩)∧Gr w w':=by
 go_enter Tryz.func78,Tryz.ntmps78;go_wp2_with fail;go_ret;exact⟨rfl,(Gr.refl w).alloc _⟩
theorem m32_any (ia ib ic:Nat)(im:Int)(w:World):
 Calls Tryz.prog 78 #[.agg #[.int .u8 32,.int .i64 ia,.int .i64 ib,.int .i64 ic,.int .u64 im]] w fun x w'=>x=.returned (methV ⟨32,ia,ib,ic,im⟩)∧Gr w w':=by
 go_enter Tryz.func78,Tryz.ntmps78;go_wp2_with fail;go_ret;exact⟨rfl,(Gr.refl w).alloc _⟩
theorem m60_any (ia ib ic:Nat)(im:Int)(w:World):
 Calls Tryz.prog 79 #[.agg #[.int .u8 60,.int .i64 ia,.int .i64 ib,.int .i64 ic,.int .u64 im]] w fun x w'=>x=.returned (methV ⟨60,ia,ib,ic,im⟩)∧Gr w w':=by
 go_enter Tryz.func79,Tryz.ntmps79;go_wp2_with fail;go_ret;exact⟨rfl,(Gr.refl w).alloc _⟩
theorem m61_any (ia ib ic:Nat)(im:Int)(w:World):
 Calls Tryz.prog 79 #[.agg #[.int .u8 61,.int .i64 ia,.int .i64 ib,.int .i64 ic,.int .u64 im]] w fun x w'=>x=.returned (methV ⟨61,ia,ib,ic,im⟩)∧Gr w w':=by
 go_enter Tryz.func79,Tryz.ntmps79;go_wp2_with fail;go_ret;exact⟨rfl,(Gr.refl w).alloc _⟩
theorem m62_any (ia ib ic:Nat)(im:Int)(w:World):
 Calls Tryz.prog 79 #[.agg #[.int .u8 62,.int .i64 ia,.int .i64 ib,.int .i64 ic,.int .u64 im]] w fun x w'=>x=.returned (methV ⟨62,ia,ib,ic,im⟩)∧Gr w w':=by
 go_enter Tryz.func79,Tryz.ntmps79;go_wp2_with fail;go_ret;exact⟨rfl,(Gr.refl w).alloc _⟩
theorem m63_any (ia ib ic:Nat)(im:Int)(w:World):
 Calls Tryz.prog 79 #[.agg #[.int .u8 63,.int .i64 ia,.int .i64 ib,.int .i64 ic,.int .u64 im]] w fun x w'=>x=.returned (methV ⟨63,ia,ib,ic,im⟩)∧Gr w w':=by
 go_enter Tryz.func79,Tryz.ntmps79;go_wp2_with fail;go_ret;exact⟨rfl,(Gr.refl w).alloc _⟩
theorem m64_any (ia ib ic:Nat)(im:Int)(w:World):
 Calls Tryz.prog 79 #[.agg #[.int .u8 64,.int .i64 ia,.int .i64 ib,.int .i64 ic,.int .u64 im]] w fun x w'=>x=.returned (methV ⟨64,ia,ib,ic,im⟩)∧Gr w w':=by
 go_enter Tryz.func79,Tryz.ntmps79;go_wp2_with fail;go_ret;exact⟨rfl,(Gr.refl w).alloc _⟩
theorem m65_any (ia ib ic:Nat)(im:Int)(w:World):
 Calls Tryz.prog 79 #[.agg #[.int .u8 65,.int .i64 ia,.int .i64 ib,.int .i64 ic,.int .u64 im]] w fun x w'=>x=.returned (methV ⟨65,ia,ib,ic,im⟩)∧Gr w w':=by
 go_enter Tryz.func79,Tryz.ntmps79;go_wp2_with fail;go_ret;exact⟨rfl,(Gr.refl w).alloc _⟩
theorem m70_any (ia ib ic:Nat)(im:Int)(w:World):
 Calls Tryz.prog 80 #[.agg #[.int .u8 70,.int .i64 ia,.int .i64 ib,.int .i64 ic,.int .u64 im]] w fun x w'=>x=.returned (methV ⟨70,ia,ib,ic,im⟩)∧Gr w w':=by
 go_enter Tryz.func80,Tryz.ntmps80;go_wp2_with fail;go_ret;exact⟨rfl,(Gr.refl w).alloc _⟩
theorem m71_any (ia ib ic:Nat)(im:Int)(w:World):
 Calls Tryz.prog 80 #[.agg #[.int .u8 71,.int .i64 ia,.int .i64 ib,.int .i64 ic,.int .u64 im]] w fun x w'=>x=.returned (methV ⟨71,ia,ib,ic,im⟩)∧Gr w w':=by
 go_enter Tryz.func80,Tryz.ntmps80;go_wp2_with fail;go_ret;exact⟨rfl,(Gr.refl w).alloc _⟩
theorem m72_any (ia ib ic:Nat)(im:Int)(w:World):
 Calls Tryz.prog 80 #[.agg #[.int .u8 72,.int .i64 ia,.int .i64 ib,.int .i64 ic,.int .u64 im]] w fun x w'=>x=.returned (methV ⟨72,ia,ib,ic,im⟩)∧Gr w w':=by
 go_enter Tryz.func80,Tryz.ntmps80;go_wp2_with fail;go_ret;exact⟨rfl,(Gr.refl w).alloc _⟩
theorem method_ok (i:Fi)(w:World)(h:Named i.op):
 Calls Tryz.prog 64 #[.agg #[.int .u8 i.op,.int .i64 i.a,.int .i64 i.b,.int .i64 i.c,.int .u64 i.i]] w fun x w'=>x=.returned (methV i)∧Gr w w':=by
 obtain⟨op,ia,ib,ic,im⟩:=i;dsimp only at*;have hc:op=0∨op=1∨op=2∨op=3∨op=4∨op=5∨op=6∨op=7∨op=8∨op=9∨op=10∨op=11∨op=12∨op=13∨op=20∨op=21∨op=22∨op=23∨op=24∨op=27∨op=28∨op=29∨op=30∨op=31∨op=32∨op=60∨op=61∨op=62∨op=63∨op=64∨op=65∨op=70∨op=71∨op=72:=by unfold Named at h;omega
 clear h;rcases hc with rfl|rfl|rfl|rfl|rfl|rfl|rfl|rfl|rfl|rfl|rfl|rfl|rfl|rfl|rfl|rfl|rfl|rfl|rfl|rfl|rfl|rfl|rfl|rfl|rfl|rfl|rfl|rfl|rfl|rfl|rfl|rfl|rfl|rfl
 ·go_enter Tryz.func64,Tryz.ntmps64;go_wp2_with fail;refine(m0_any ia ib ic im _).mono ?_;rintro r w1 ⟨rfl,g1⟩;go_wp2_with fail;go_ret;exact⟨rfl,((Gr.refl w).alloc _).trans g1⟩
 ·go_enter Tryz.func64,Tryz.ntmps64;go_wp2_with fail;refine(m1_any ia ib ic im _).mono ?_;rintro r w1 ⟨rfl,g1⟩;go_wp2_with fail;go_ret;exact⟨rfl,((Gr.refl w).alloc _).trans g1⟩
 ·go_enter Tryz.func64,Tryz.ntmps64;go_wp2_with fail;refine(m2_any ia ib ic im _).mono ?_;rintro r w1 ⟨rfl,g1⟩;go_wp2_with fail;go_ret;exact⟨rfl,((Gr.refl w).alloc _).trans g1⟩
 ·go_enter Tryz.func64,Tryz.ntmps64;go_wp2_with fail;refine(m3_any ia ib ic im _).mono ?_;rintro r w1 ⟨rfl,g1⟩;go_wp2_with fail;go_ret;exact⟨rfl,((Gr.refl w).alloc _).trans g1⟩
 ·go_enter Tryz.func64,Tryz.ntmps64;go_wp2_with fail;refine(m4_any ia ib ic im _).mono ?_;rintro r w1 ⟨rfl,g1⟩;go_wp2_with fail;go_ret;exact⟨rfl,((Gr.refl w).alloc _).trans g1⟩
 ·go_enter Tryz.func64,Tryz.ntmps64;go_wp2_with fail;refine(m5_any ia ib ic im _).mono ?_;rintro r w1 ⟨rfl,g1⟩;go_wp2_with fail;go_ret;exact⟨rfl,((Gr.refl w).alloc _).trans g1⟩
 ·go_enter Tryz.func64,Tryz.ntmps64;go_wp2_with fail;refine(m6_any ia ib ic im _).mono ?_;rintro r w1 ⟨rfl,g1⟩;go_wp2_with fail;go_ret;exact⟨rfl,((Gr.refl w).alloc _).trans g1⟩
 ·go_enter Tryz.func64,Tryz.ntmps64;go_wp2_with fail;refine(m7_any ia ib ic im _).mono ?_;rintro r w1 ⟨rfl,g1⟩;go_wp2_with fail;go_ret;exact⟨rfl,((Gr.refl w).alloc _).trans g1⟩
 ·go_enter Tryz.func64,Tryz.ntmps64;go_wp2_with fail;refine(m8_any ia ib ic im _).mono ?_;rintro r w1 ⟨rfl,g1⟩;go_wp2_with fail;go_ret;exact⟨rfl,((Gr.refl w).alloc _).trans g1⟩
 ·go_enter Tryz.func64,Tryz.ntmps64;go_wp2_with fail;refine(m9_any ia ib ic im _).mono ?_;rintro r w1 ⟨rfl,g1⟩;go_wp2_with fail;go_ret;exact⟨rfl,((Gr.refl w).alloc _).trans g1⟩
 ·go_enter Tryz.func64,Tryz.ntmps64;go_wp2_with fail;refine(m10_any ia ib ic im _).mono ?_;rintro r w1 ⟨rfl,g1⟩;go_wp2_with fail;go_ret;exact⟨rfl,((Gr.refl w).alloc _).trans g1⟩
 ·go_enter Tryz.func64,Tryz.ntmps64;go_wp2_with fail;refine(m11_any ia ib ic im _).mono ?_;rintro r w1 ⟨rfl,g1⟩;go_wp2_with fail;go_ret;exact⟨rfl,((Gr.refl w).alloc _).trans g1⟩
 ·go_enter Tryz.func64,Tryz.ntmps64;go_wp2_with fail;refine(m12_any ia ib ic im _).mono ?_;rintro r w1 ⟨rfl,g1⟩;go_wp2_with fail;go_ret;exact⟨rfl,((Gr.refl w).alloc _).trans g1⟩
 ·go_enter Tryz.func64,Tryz.ntmps64;go_wp2_with fail;refine(m13_any ia ib ic im _).mono ?_;rintro r w1 ⟨rfl,g1⟩;go_wp2_with fail;go_ret;exact⟨rfl,((Gr.refl w).alloc _).trans g1⟩
 ·go_enter Tryz.func64,Tryz.ntmps64;go_wp2_with fail;refine(m20_any ia ib ic im _).mono ?_;rintro r w1 ⟨rfl,g1⟩;go_wp2_with fail;go_ret;exact⟨rfl,((Gr.refl w).alloc _).trans g1⟩
 ·go_enter Tryz.func64,Tryz.ntmps64;go_wp2_with fail;refine(m21_any ia ib ic im _).mono ?_;rintro r w1 ⟨rfl,g1⟩;go_wp2_with fail;go_ret;exact⟨rfl,((Gr.refl w).alloc _).trans g1⟩
 ·go_enter Tryz.func64,Tryz.ntmps64;go_wp2_with fail;refine(m22_any ia ib ic im _).mono ?_;rintro r w1 ⟨rfl,g1⟩;go_wp2_with fail;go_ret;exact⟨rfl,((Gr.refl w).alloc _).trans g1⟩
 ·go_enter Tryz.func64,Tryz.ntmps64;go_wp2_with fail;refine(m23_any ia ib ic im _).mono ?_;rintro r w1 ⟨rfl,g1⟩;go_wp2_with fail;go_ret;exact⟨rfl,((Gr.refl w).alloc _).trans g1⟩
 ·go_enter Tryz.func64,Tryz.ntmps64;go_wp2_with fail;refine(m24_any ia ib ic im _).mono ?_;rintro r w1 ⟨rfl,g1⟩;go_wp2_with fail;go_ret;exact⟨rfl,((Gr.refl w).alloc _).trans g1⟩
 ·go_enter Tryz.func64,Tryz.ntmps64;go_wp2_with fail;refine(m27_any ia ib ic im _).mono ?_;rintro r w1 ⟨rfl,g1⟩;go_wp2_with fail;go_ret;exact⟨rfl,((Gr.refl w).alloc _).trans g1⟩
 ·go_enter Tryz.func64,Tryz.ntmps64;go_wp2_with fail;refine(m28_any ia ib ic im _).mono ?_;rintro r w1 ⟨rfl,g1⟩;go_wp2_with fail;go_ret;exact⟨rfl,((Gr.refl w).alloc _).trans g1⟩
 ·go_enter Tryz.func64,Tryz.ntmps64;go_wp2_with fail;refine(m29_any ia ib ic im _).mono ?_;rintro r w1 ⟨rfl,g1⟩;go_wp2_with fail;go_ret;exact⟨rfl,((Gr.refl w).alloc _).trans g1⟩
 ·go_enter Tryz.func64,Tryz.ntmps64;go_wp2_with fail;refine(m30_any ia ib ic im _).mono ?_;rintro r w1 ⟨rfl,g1⟩;go_wp2_with fail;go_ret;exact⟨rfl,((Gr.refl w).alloc _).trans g1⟩
 ·go_enter Tryz.func64,Tryz.ntmps64;go_wp2_with fail;refine(m31_any ia ib ic im _).mono ?_;rintro r w1 ⟨rfl,g1⟩;go_wp2_with fail;go_ret;exact⟨rfl,((Gr.refl w).alloc _).trans g1⟩
 ·go_enter Tryz.func64,Tryz.ntmps64;go_wp2_with fail;refine(m32_any ia ib ic im _).mono ?_;rintro r w1 ⟨rfl,g1⟩;go_wp2_with fail;go_ret;exact⟨rfl,((Gr.refl w).alloc _).trans g1⟩
 ·go_enter Tryz.func64,Tryz.ntmps64;go_wp2_with fail;refine(m60_any ia ib ic im _).mono ?_;rintro r w1 ⟨rfl,g1⟩;go_wp2_with fail;go_ret;exact⟨rfl,((Gr.refl w).alloc _).trans g1⟩
 ·go_enter Tryz.func64,Tryz.ntmps64;go_wp2_with fail;refine(m61_any ia ib ic im _).mono ?_;rintro r w1 ⟨rfl,g1⟩;go_wp2_with fail;go_ret;exact⟨rfl,((Gr.refl w).alloc _).trans g1⟩
 ·go_enter Tryz.func64,Tryz.ntmps64;go_wp2_with fail;refine(m62_any ia ib ic im _).mono ?_;rintro r w1 ⟨rfl,g1⟩;go_wp2_with fail;go_ret;exact⟨rfl,((Gr.refl w).alloc _).trans g1⟩
 ·go_enter Tryz.func64,Tryz.ntmps64;go_wp2_with fail;refine(m63_any ia ib ic im _).mono ?_;rintro r w1 ⟨rfl,g1⟩;go_wp2_with fail;go_ret;exact⟨rfl,((Gr.refl w).alloc _).trans g1⟩
 ·go_enter Tryz.func64,Tryz.ntmps64;go_wp2_with fail;refine(m64_any ia ib ic im _).mono ?_;rintro r w1 ⟨rfl,g1⟩;go_wp2_with fail;go_ret;exact⟨rfl,((Gr.refl w).alloc _).trans g1⟩
 ·go_enter Tryz.func64,Tryz.ntmps64;go_wp2_with fail;refine(m65_any ia ib ic im _).mono ?_;rintro r w1 ⟨rfl,g1⟩;go_wp2_with fail;go_ret;exact⟨rfl,((Gr.refl w).alloc _).trans g1⟩
 ·go_enter Tryz.func64,Tryz.ntmps64;go_wp2_with fail;refine(m70_any ia ib ic im _).mono ?_;rintro r w1 ⟨rfl,g1⟩;go_wp2_with fail;go_ret;exact⟨rfl,((Gr.refl w).alloc _).trans g1⟩
 ·go_enter Tryz.func64,Tryz.ntmps64;go_wp2_with fail;refine(m71_any ia ib ic im _).mono ?_;rintro r w1 ⟨rfl,g1⟩;go_wp2_with fail;go_ret;exact⟨rfl,((Gr.refl w).alloc _).trans g1⟩
 ·go_enter Tryz.func64,Tryz.ntmps64;go_wp2_with fail;refine(m72_any ia ib ic im _).mono ?_;rintro r w1 ⟨rfl,g1⟩;go_wp2_with fail;go_ret;exact⟨rfl,((Gr.refl w).alloc _).trans g1⟩
theorem made_oneZ (z:Value)(n:Nat):madeCells #[z] n=Array.replicate n z:=by
 apply Array.ext
 ·simp[madeCells]
 ·intro i h1 h2;simp[madeCells,Nat.mod_one]
theorem make_rowZ {t e:TypeId}{z:Value}{b:Nat}(ht:Tryz.prog.underlying t=some (.slice e))(hi:(Tryz.prog.info? e).map (fun i=>(i.zero,i.size,i.bytes))=some (some z,1,b))(hz:z.cells=#[z])(hb:b≤64)(n:Nat)(hn:n≤2000000)(w:World):
 (Instr.makeSlice t (.int .i64 n) (.int .i64 n)).run Tryz.prog w=.ok (.slice (some ⟨w.heap.size,0,none⟩) n n) (w.alloc (.cells (Array.replicate n z) e)):=by
 obtain⟨i0,hi0,hz0,hz1,hz2⟩:=T.info_parts' hi;have hbb:(i0.bytes:Int)*(n:Int)≤281474976710656:=by
  rw[hz2];have:b*n≤64*2000000:=Nat.mul_le_mul hb hn;have h:((b*n:Nat):Int)≤281474976710656:=by omega
  rwa [Int.natCast_mul]at h
 have h:=run_make (P:=Tryz.prog) w t e i0 z ht hi0 hz0 .i64 .i64 n n (by omega) (by omega) hbb (by omega);rw[hz1,hz,Nat.mul_one,Int.toNat_natCast,made_oneZ]at h;exact h
structure FRow (w:World)(g n:Nat)(V:Nat→Value):Prop where
 lt:g<w.heap.size
 at_:∀j,j<n→w.cell? ⟨g,j,none⟩=some (V j)
 fr:∀j,w.frozen? ⟨g,j,none⟩=false
theorem FRow.new (w:World)(n:Nat)(z:Value)(e:TypeId):FRow (w.alloc (.cells (Array.replicate n z) e)) w.heap.size n (fun _=>z):=by
 have h:=At.new w (Array.replicate n z) e;exact⟨h.1,fun j hj=>by rw[h.2.1];simp[hj],h.2.2⟩
theorem FRow.gr {w w1:World}{g n:Nat}{V:Nat→Value}(h:FRow w g n V)(q:Gr w w1):FRow w1 g n V:=
 ⟨Nat.lt_of_lt_of_le h.lt q.below.size,fun j hj=>(T.cell_of_block (q.below.block g h.lt) j).trans (h.at_ j hj),fun j=>(T.frozen_of_block (q.below.block g h.lt) j).trans (h.fr j)⟩
def updF (V:Nat→Value)(j:Nat)(v:Value):Nat→Value:=fun k=>if k=j then v else V k
theorem updF_of {V:Nat→Value}{j k:Nat}{v m:Value}(h1:k=j→v=m)(h2:k≠j→V k=m):updF V j v k=m:=by
 unfold updF;by_cases e:k=j
 ·rw[if_pos e];exact h1 e
 ·rw[if_neg e];exact h2 e
theorem FRow.set {w:World}{g n:Nat}{V:Nat→Value}(h:FRow w g n V)(j:Nat)(v:Value)(hj:j<n):FRow (w.setCell ⟨g,j,none⟩ v) g n (updF V j v):=by
 refine⟨by simpa using h.lt,fun k hk=>?_,fun k=>by simpa using h.fr k⟩;unfold updF;by_cases e:k=j
 ·rw[if_pos e,e];exact cs_same (h.at_ j hj)
 ·rw[if_neg e,T.cso (fun _=>Ne.symm e)];exact h.at_ k hk
theorem FRow.other {w:World}{g n b j:Nat}{V:Nat→Value}(h:FRow w g n V)(v:Value)(hb:b≠g):FRow (w.setCell ⟨b,j,none⟩ v) g n V:=
 ⟨by simpa using h.lt,fun k hk=>by rw[T.cso (fun e=>absurd e hb)];exact h.at_ k hk,fun k=>by simpa using h.fr k⟩
structure Rdy (W1 wr:World)(g:Nat)(C:List (List Fi))(k:Nat)(V:Nat→Value):Prop where
 row:FRow wr g C.length V
 done:∀j (_:j<k) (h2:j<C.length),∃gk,V j=.slice (some ⟨gk,0,none⟩) C[j].length C[j].length∧W1.heap.size≤gk∧gk≠g∧gk<wr.heap.size∧∀i (hi:i<C[j].length),wr.cell? ⟨gk,i,none⟩=some (methV C[j][i])
 gro:Gr W1 wr
 new:W1.heap.size≤g
theorem Rdy.gr {W1 wr W:World}{g k:Nat}{C:List (List Fi)}{V:Nat→Value}(h:Rdy W1 wr g C k V)(q:Gr wr W):Rdy W1 W g C k V:=by
 refine⟨h.row.gr q,fun j hj h2=>?_,h.gro.trans q,h.new⟩;obtain⟨gk,e1,e2,e3,e4,e5⟩:=h.done j hj h2;exact⟨gk,e1,e2,e3,Nat.lt_of_lt_of_le e4 q.below.size,fun i hi=>(T.cell_of_block (q.below.block gk e4) i).trans (e5 i hi)⟩
theorem Rdy.lay {W1 wr:World}{g k:Nat}{C:List (List Fi)}{V:Nat→Value}(h:Rdy W1 wr g C k V)(hk:k<C.length)(v:Value):Rdy W1 (wr.setCell ⟨g,k,none⟩ v) g C k (updF V k v):=by
 refine⟨h.row.set k v hk,fun j hj h2=>?_,h.gro.setCell _ _ _ h.new,h.new⟩;obtain⟨gk,e1,e2,e3,e4,e5⟩:=h.done j hj h2;refine⟨gk,?_,e2,e3,by simpa using e4,fun i hi=>?_⟩
 ·unfold updF;rw[if_neg (by omega)];exact e1
 ·rw[T.cso (fun e=>absurd e.symm e3)];exact e5 i hi
theorem Rdy.put {W1 wr:World}{g k b j:Nat}{C:List (List Fi)}{V:Nat→Value}(h:Rdy W1 wr g C k V)(v:Value)(hb:b≠g)(hn:W1.heap.size≤b)(ho:∀j (_:j<k) (h2:j<C.length),∀gk,V j=.slice (some ⟨gk,0,none⟩) C[j].length C[j].length→gk≠b):Rdy W1 (wr.setCell ⟨b,j,none⟩ v) g C k V:=by
 refine⟨h.row.other v hb,fun j hj h2=>?_,h.gro.setCell _ _ _ hn,h.new⟩;obtain⟨gk,e1,e2,e3,e4,e5⟩:=h.done j hj h2;refine⟨gk,e1,e2,e3,by simpa using e4,fun i hi=>?_⟩;rw[T.cso (fun e=>absurd e.symm (ho j hj h2 gk e1))];exact e5 i hi
theorem readied_ok (C:List (List Fi))(ca:Option Addr)(cc:Nat)(w:World)(hC:∀k (h:k<C.length),∃(b off:Nat) (ra:Option Addr) (rc:Nat),ca=some ⟨b,off,none⟩∧b<w.heap.size∧w.cell? ⟨b,off+k,none⟩=some (.slice ra C[k].length rc)∧T.EIn 5 Fi.vals w ra C[k])(ok:∀r∈C,r.length≤400∧∀i∈r,Named i.op)(hl:C.length≤16):
 Calls Tryz.prog 42 #[.slice ca C.length cc] w fun x w'=>∃V,x=.returned (.slice (some ⟨w.heap.size,0,none⟩) C.length C.length)∧Rdy w w' w.heap.size C C.length V:=by
 replace hC:=ζ hC;replace ok:=ζ ok;have hlenC:C.length≤1000000:=by omega
 have mk1:=make_rowZ (t:=78) (e:=112) (z:=.slice none 0 0) (b:=24) Tryz.underlying78 (by kernel_rfl) rfl (by decide) C.length (by omega);have mk2:=fun n=>make_rowZ (t:=112) (e:=114) (z:=.nilFunc) (b:=8) Tryz.underlying112 (by kernel_rfl) rfl (by decide) n
 go_enter Tryz.func42,Tryz.ntmps42;go_upto_region 3 with fail
 refine wp_world (fun W=>Rdy w W w.heap.size C 0 (fun _=>.slice none 0 0)) ⟨FRow.new w C.length _ _,fun j hj=>absurd hj (Nat.not_lt_zero j),(Gr.refl w).alloc _,Nat.le_refl _⟩ ?_;intro W hR0;replace hR0:=ζ hR0;have hg9:w.heap.size=w.heap.size:=rfl;generalize hg:w.heap.size=g at hR0 ⊢;clear hg9 mk1;go_loopw [13] (fun x wr=>∃(k:Nat) (V:Nat→Value),x=.int .i64 k∧k≤C.length∧Hz (Rdy w wr g C k V)) (fun x _=>C.length - (intOf x).toNat)
 case atStart=>exact⟨0,_,rfl,Nat.zero_le _,hR0⟩
 case round=>
  clear hR0;obtain⟨k,V,rfl,hk,hR⟩:=hrel;by_cases hkl:k<C.length
  ·have hk1:(k:Int)<(C.length:Int):=Int.ofNat_lt.2 hkl;have hrow:=ok.out _ (List.getElem_mem hkl);obtain⟨b,off,ra,rc,rfl,hb,hcc,hE⟩:=hC.out k hkl;have c1:wr.cell? ⟨b,off+k,none⟩=some (.slice ra C[k].length rc):=(T.cell_of_block (hR.out.gro.below.block b hb) _).trans hcc;have hE2:=ζ hE;have f1:=hR.out.row.fr k;have c2:=hR.out.row.at_ k hkl;have hlt1:=hR.out.row.lt;have hne:wr.heap.size≠g:=by omega
   have hRa:=(hR.out.lay hkl (.slice (some ⟨wr.heap.size,0,none⟩) C[k].length C[k].length)).gr ((Gr.refl _).alloc (.cells (Array.replicate C[k].length Value.nilFunc) 114));have hFa:=FRow.new (wr.setCell ⟨g,k,none⟩ (.slice (some ⟨wr.heap.size,0,none⟩) C[k].length C[k].length)) C[k].length .nilFunc 114;rw[World.size_setCell]at hFa;have hold:Hz (∀j (_:j<k) (h2:j<C.length),∀gk,updF V k (.slice (some ⟨wr.heap.size,0,none⟩) C[k].length C[k].length) j=.slice (some ⟨gk,0,none⟩) C[j].length C[j].length→gk≠wr.heap.size):=ζ (fun j hj h2 gk e=>by
    obtain⟨gk',e1,_,_,e4,_⟩:=hR.out.done j hj h2;unfold updF at e;rw[if_neg (by omega),e1]at e;injection e with e;injection e with e;injection e with e;omega)
   have hnew:w.heap.size≤wr.heap.size:=hR.out.gro.below.size;replace hRa:=ζ hRa;replace hFa:=ζ hFa;have mk3:=mk2 C[k].length (by omega);clear hcc hE;go_upto_region 6 with fail
   clear mk3 c1 c2 f1 hlt1;clear hR;have hR:=hRa;have hF:=hFa;clear hRa hFa;have hlen:C[k].length≤1000000:=by omega
   generalize World.alloc _ _=W6 at*;generalize wr.heap.size=gk at*;have hV2:updF V k (.slice (some ⟨gk,0,none⟩) C[k].length C[k].length) k=.slice (some ⟨gk,0,none⟩) C[k].length C[k].length:=by unfold updF;rw[if_pos rfl]
   generalize updF V k (.slice (some ⟨gk,0,none⟩) C[k].length C[k].length)=V2 at*;go_upto_region 7 with fail
   have R0:=hR;have F0:=hF;clear hR hF;go_loopw [26] (fun x wr=>∃(j:Nat) (U:Nat→Value),x=.int .i64 j∧j≤C[k].length∧Hz (Rdy w wr g C k V2)∧Hz (FRow wr gk C[k].length U)∧Hz (∀j2 (_:j2<j) (h3:j2<C[k].length),U j2=methV C[k][j2])) (fun x _=>C[k].length - (intOf x).toNat)
   case atStart=>exact⟨0,_,rfl,Nat.zero_le _,R0,F0,ζ (fun j2 h2=>absurd h2 (Nat.not_lt_zero j2))⟩
   case round=>
    clear R0 F0;obtain⟨j,U,rfl,hj,hR,hF,hV⟩:=hrel;by_cases hlt:j<C[k].length
    ·have hj1:(j:Int)<(C[k].length:Int):=Int.ofNat_lt.2 hlt;obtain⟨b2,off2,rfl,hb2,hr2⟩:=eat5 hE2.out (hR.out.gro) j hlt;have hok:=ζ (hrow.2 _ (List.getElem_mem hlt));generalize hi9:C[k][j]=i at*;have c0:wr.cell? ⟨b2,off2+j*5,none⟩=some (.int .u8 i.op):=hr2 0 _ rfl;have c1:wr.cell? ⟨b2,off2+j*5+1,none⟩=some (.int .i64 i.a):=hr2 1 _ rfl;have c2:wr.cell? ⟨b2,off2+j*5+1+1,none⟩=some (.int .i64 i.b):=hr2 2 _ rfl;have c3:wr.cell? ⟨b2,off2+j*5+1+1+1,none⟩=some (.int .i64 i.c):=hr2 3 _ rfl;have c4:wr.cell? ⟨b2,off2+j*5+1+1+1+1,none⟩=some (.int .u64 i.i):=hr2 4 _ rfl;go_upto_region 9 with fail
     refine wp_world (fun W=>At W wr.heap.size i.w∧Gr wr W) ⟨At.new wr _ _,(Gr.refl _).alloc _⟩ ?_;rintro W9 ⟨hA,g9⟩;have hkb:gk≠wr.heap.size:=by have:=hF.out.lt;omega
     have hkb2:g≠wr.heap.size:=by have:=hR.out.row.lt;omega
     replace hR:=ζ (hR.out.gr g9);replace hF:=ζ (hF.out.gr g9);replace hA:=ζ hA;generalize wr.heap.size=kb at*;clear c0 c1 c2 c3 c4 hr2 hb2 g9;have KS:Hz (∀X,Rdy w X g C k V2→At X kb i.w→X.cell? ⟨g,k,none⟩=some (.slice (some ⟨gk,0,none⟩) C[k].length C[k].length)∧X.rangeAt kb 0 (Fi.vals i)):=ζ (fun X q1 q2=>⟨by rw[q1.row.at_ k hkl,hV2],fun n v e=>by rw[Nat.zero_add];exact(q2.2.1 n).trans (by simpa [Fi.vals]using e)⟩);have g0:Gr W9 W9.drew:=(Gr.refl W9).drew;refine wp_region_held_drew (S:=(fun W=>W.cell? ⟨g,k,none⟩=some (.slice (some ⟨gk,0,none⟩) C[k].length C[k].length)∧W.rangeAt kb 0 (Fi.vals i))) (by kernel_rfl) (KS.out _ (hR.out.gr g0) (hA.out.gr g0)) (fun hHeld=>?_);refine xz 0 rfl (h:=xz 1 rfl (h:=xz 2 rfl (h:=xz 3 rfl (h:=xz 4 rfl (h:=?_)))));try simp only[xap]
     refine xtk 5 rfl (yieldsIf_load_mid (by rfl) _ _ rfl _ _ rfl _ _ (fun _ h=>h.2) Tryz.underlying53 rfl (by kernel_rfl)) ?_;try simp only[xap]
     refine xrd 6 rfl (fun K hK=>?_);go_simp;go_wp2_with(refine(method_ok i _ hok.out).mono ?_;rintro r U1 ⟨rfl,gg⟩;have g1:=g0.trans gg;clear gg g0 hHeld);refine hK.out _ _ (KS.out _ (hR.out.gr g1) (hA.out.gr g1)) (fun hHeld=>?_);clear hK K;try simp only[xap]
     refine xz 7 rfl (h:=?_);try simp only[xap]
     refine xrd 8 rfl (fun K hK=>?_);have hF1:=hF.out.gr g1;have c9:=hF1.at_ j hlt;have f9:=hF1.fr j;have hF2:=ζ (hF1.set j (methV i) hlt);have hR2:=ζ ((hR.out.gr g1).put (j:=j) (methV i) hne hnew hold.out);have hA2:=ζ ((hA.out.gr g1).set_other (j:=j) (methV i) hkb);have hlt9:=hF1.lt;unfold methV at c9 hF2 hR2 hA2 ⊢;go_simp;clear hHeld;refine hK.out _ _ (KS.out _ hR2.out hA2.out) (fun hHeld=>?_);clear hK K;try simp only[Act.put]
     refine xdn ?_ _;clear hHeld c9 f9 hF1 hlt9 g1 hF hR hA KS;generalize World.setCell _ _ _=U9 at*;go_wp2_with fail;refine⟨⟨j+1,_,?_,hlt,hR2,hF2,ζ (fun j2 h2 h3=>?_)⟩,?_⟩
     ·first|rfl|rw[next_wY hlt hlen]|go_num
     ·exact updF_of (fun e=>by subst e;rw[hi9];rfl) (fun e=>hV.out j2 (by omega) h3)
     ·first|exact next_mY hlt|(rw[next_wY hlt hlen];exact next_mY hlt)
    ·have hj1:¬(j:Int)<(C[k].length:Int):=fun q=>hlt (Int.ofNat_lt.1 q)
     obtain rfl:j=C[k].length:=by omega
     have hR2:Hz (Rdy w wr g C (k+1) V2):=ζ ⟨hR.out.row,fun j2 h2 h3=>by
      by_cases e:j2=k
      ·subst e;exact⟨gk,hV2,hnew,hne,hF.out.lt,fun n hn=>by rw[hF.out.at_ n hn,hV.out n hn hn]⟩
      ·exact hR.out.done j2 (by omega) h3,hR.out.gro,hR.out.new⟩
     go_wp2_with fail;refine⟨⟨k+1,V2,?_,hkl,hR2⟩,?_⟩
     ·first|rfl|rw[next_wY hkl hlenC]|go_num
     ·first|exact next_mY hkl|(rw[next_wY hkl hlenC];exact next_mY hkl)
  ·have hk1:¬(k:Int)<(C.length:Int):=fun q=>hkl (Int.ofNat_lt.1 q)
   obtain rfl:k=C.length:=by omega
   go_wp2_with fail;go_ret;exact⟨rfl,V,hR.out⟩
open T (Sep Ob Kp Mf FlIn)
theorem addr_addZ (b off j:Nat):(⟨b,off,none⟩:Addr).add j=⟨b,off+j,none⟩:=by by_cases h0:j=0<;>simp[Addr.add,h0]
theorem wp_append_z {o:Oper}{a:Act}{K:Act→World→Prop}{Q:Exit→Act→World→Prop}{w:World}(s x:Operand)(t e:TypeId)(z:Value)(size bytes:Nat)
 (ho:o.op=.call {callee:=.builtin .append,args:=#[s,x],argTypes:=#[t,t]})(ht:Tryz.prog.underlying t=some (.slice e))
 (hi:(Tryz.prog.info? e).map (fun i=>(i.zero,i.size,i.bytes))=some (some z,size,bytes))(hz:z.cells.size=size)(hsz:0<size)(hby:bytes≤2048)
 (base:Nat)(v:Value)(n:Nat)(xs cs:List Value)(hs:a.eval s=v)(hown:w.ownsRow base e size v n xs)(X:Nat)(hx:a.eval x=.slice (some ⟨X,0,none⟩) 1 1)(hX:At w X cs.toArray)(hc:cs.length=size)(h1:∀u∈cs,u.oneCell'=true)
 (hlen:n≤1000000)(hbase:base≤w.heap.size)
 (h:∀g cap w',w'.ownsRow base e size (.slice (some ⟨g,0,none⟩) (n+1) cap) (n+1) (xs++cs)→w.grownBy w' v.ownBlock→(v.ownBlock=some g∨g=w.heap.size)→K (a.put o.dst (.slice (some ⟨g,0,none⟩) (n+1) cap)) w'):o.wp Tryz.prog a w K Q:=by
 obtain⟨i0,hi0,hz0,hz1,hz2⟩:=T.info_parts' hi;have hb:(n+1)*bytes≤140737488355328:=Nat.le_trans (Nat.mul_le_mul_left _ hby) (by omega);have hn:∀j u,cs[j]?=some u→w.cell? ((⟨X,0,none⟩:Addr).add j)=some u:=by
  intro j u hj;rw[addr_addZ,Nat.zero_add,hX.2.1];simpa using hj
 refine wp_append_lies _ s x t ho base e i0 z size bytes ht hi0 hz0 hz1 hz2 hz hsz v n xs hs hown ⟨X,0,none⟩ 1 1 cs hx (by omega) hn h1 (by decide) (by unfold maxLen;omega) hb hbase _ rfl ?_;intro g cap w' k1 k2 k3 _;exact h g cap w' k1 k2 k3
theorem kp_grown {w w1:World}{row:Option Nat}(h:w.grownBy w1 row):Kp (fun k=>row=some k) w w1:=⟨h.os,h.tape,h.output,h.size,fun k hk hn=>h.block k hk (fun e=>hn e.symm)⟩
theorem own_slZ {w:World}{lo e s n:Nat}{v:Value}{xs:List Value}(h:w.ownsRow lo e s v n xs):∃a c,v=.slice a n c:=by
 rcases h.2 with⟨rfl,rfl⟩|⟨g,cap,cur,rfl,_⟩
 ·exact⟨none,0,rfl⟩
 ·exact⟨_,_,rfl⟩
section
variable {B:Nat} {W W2:World} {a:Nat} {P:Pr} {s:Fm} {l:List Ob} {q:Pt}
theorem sep_box (x x':Fx){l2:List Ob}(h:Sep B W (bxOb a x::l2))(v:Value)(j:Nat)(hb:Bx W a x→Bx (W.setCell ⟨a,j,none⟩ v) a x')(hB:B≤W.heap.size):Sep B (W.setCell ⟨a,j,none⟩ v) (bxOb a x'::l2)∧Below B W (W.setCell ⟨a,j,none⟩ v):=by
 have hk:Kp (fun k=>k=a) W (W.setCell ⟨a,j,none⟩ v):=Kp.set (S:=fun k=>k=a) W ⟨a,j,none⟩ v rfl;exact⟨sep_change (l1:=[]) (o:=bxOb a x) (o':=bxOb a x') h (hb (h.ins (bxOb a x) (by simp))) hk (fun _ r=>.inl r) hB,sep_below (l1:=[]) (o:=bxOb a x) h hk hB⟩
theorem MIn.app_tc (t:Tc)(h:Sep B W (obs B a P s q++l))(le:B≤W.heap.size){g cap:Nat}(hown:W2.ownsRow B 67 3 (.slice (some ⟨g,0,none⟩) (s.tc.length+1) cap) (s.tc.length+1) (s.tc.flatMap Tc.vals++t.vals))(gr:W.grownBy W2 q.tv.ownBlock)(hg:q.tv.ownBlock=some g∨g=W.heap.size):
 MIn B (W2.setCell ⟨a,25,none⟩ (.slice (some ⟨g,0,none⟩) (s.tc.length+1) cap)) a P {s with tc:=s.tc++[t]} l∧Below B W (W2.setCell ⟨a,25,none⟩ (.slice (some ⟨g,0,none⟩) (s.tc.length+1) cap)):=by
 have hk:=kp_grown gr;have h1:=sep_change (l1:=[bxOb a (bxOf P s q),flOb q.F q.mp s.m,stOb B q.sv s.st,inOb q.iv s.inp,ouOb B q.ov_ s.out]) (o:=tcOb B q.tv s.tc) (o':=tcOb B (.slice (some ⟨g,0,none⟩) (s.tc.length+1) cap) (s.tc++[t])) (l2:=pgOb q.SP q.cv q.gv P::l) h (by
  show W2.ownsRow B _ 3 _ (s.tc++[t]).length ((s.tc++[t]).flatMap Tc.vals);rw[List.length_append,List.flatMap_append];simpa using hown) hk (fun k r=>by
  have e:g=k:=by simpa [tcOb,rowOb,Value.ownBlock]using r
  rcases hg with u|u
  ·exact .inl (e▸u)
  ·exact .inr (by omega)) le
 have b1:=sep_below (l1:=[bxOb a (bxOf P s q),flOb q.F q.mp s.m,stOb B q.sv s.st,inOb q.iv s.inp,ouOb B q.ov_ s.out]) (o:=tcOb B q.tv s.tc) (l2:=pgOb q.SP q.cv q.gv P::l) h hk le;obtain⟨h2,b2⟩:=sep_box (bxOf P s q) (bxOf P {s with tc:=s.tc++[t]} {q with tv:=.slice (some ⟨g,0,none⟩) (s.tc.length+1) cap}) h1 (.slice (some ⟨g,0,none⟩) (s.tc.length+1) cap) 25 (fun hb=>hb.tv _) (Nat.le_trans le b1.size);exact⟨⟨⟨{q with tv:=.slice (some ⟨g,0,none⟩) (s.tc.length+1) cap},h2⟩,Nat.le_trans le (b1.trans b2).size⟩,b1.trans b2⟩
theorem MIn.app_out (t:Int)(h:Sep B W (obs B a P s q++l))(le:B≤W.heap.size){g cap:Nat}(hown:W2.ownsRow B 51 1 (.slice (some ⟨g,0,none⟩) (s.out.length+1) cap) (s.out.length+1) (s.out.map u64I++[u64I t]))(gr:W.grownBy W2 q.ov_.ownBlock)(hg:q.ov_.ownBlock=some g∨g=W.heap.size):
 Bx W2 a (bxOf P s q)∧(∀o∈l,o.In W2)∧MIn B (W2.setCell ⟨a,24,none⟩ (.slice (some ⟨g,0,none⟩) (s.out.length+1) cap)) a P {s with out:=s.out++[t]} l∧Below B W (W2.setCell ⟨a,24,none⟩ (.slice (some ⟨g,0,none⟩) (s.out.length+1) cap)):=by
 have hk:=kp_grown gr;have h1:=sep_change (l1:=[bxOb a (bxOf P s q),flOb q.F q.mp s.m,stOb B q.sv s.st,inOb q.iv s.inp]) (o:=ouOb B q.ov_ s.out) (o':=ouOb B (.slice (some ⟨g,0,none⟩) (s.out.length+1) cap) (s.out++[t])) (l2:=tcOb B q.tv s.tc::pgOb q.SP q.cv q.gv P::l) h (by
  show W2.ownsRow B _ 1 _ (s.out++[t]).length ((s.out++[t]).map u64I);rw[List.length_append,List.map_append];simpa using hown) hk (fun k r=>by
  have e:g=k:=by simpa [ouOb,rowOb,Value.ownBlock]using r
  rcases hg with u|u
  ·exact .inl (e▸u)
  ·exact .inr (by omega)) le
 have b1:=sep_below (l1:=[bxOb a (bxOf P s q),flOb q.F q.mp s.m,stOb B q.sv s.st,inOb q.iv s.inp]) (o:=ouOb B q.ov_ s.out) (l2:=tcOb B q.tv s.tc::pgOb q.SP q.cv q.gv P::l) h hk le;obtain⟨h2,b2⟩:=sep_box (bxOf P s q) (bxOf P {s with out:=s.out++[t]} {q with ov_:=.slice (some ⟨g,0,none⟩) (s.out.length+1) cap}) h1 (.slice (some ⟨g,0,none⟩) (s.out.length+1) cap) 24 (fun hb=>hb.ov _) (Nat.le_trans le b1.size);refine⟨h1.ins (bxOb a (bxOf P s q)) (by simp),fun o ho=>h1.ins o (by simp[ho]),?_⟩;exact⟨⟨⟨{q with ov_:=.slice (some ⟨g,0,none⟩) (s.out.length+1) cap},h2⟩,Nat.le_trans le (b1.trans b2).size⟩,b1.trans b2⟩
theorem MIn.app_st (t:Fr)(h:Sep B W (obs B a P s q++l))(le:B≤W.heap.size){g cap:Nat}(hown:W2.ownsRow B 81 18 (.slice (some ⟨g,0,none⟩) (s.st.length+1) cap) (s.st.length+1) (s.st.flatMap Fr.vals++t.vals))(gr:W.grownBy W2 q.sv.ownBlock)(hg:q.sv.ownBlock=some g∨g=W.heap.size):
 Bx W2 a (bxOf P s q)∧(∀o∈l,o.In W2)∧MIn B (W2.setCell ⟨a,22,none⟩ (.slice (some ⟨g,0,none⟩) (s.st.length+1) cap)) a P {s with st:=s.st++[t]} l∧Below B W (W2.setCell ⟨a,22,none⟩ (.slice (some ⟨g,0,none⟩) (s.st.length+1) cap)):=by
 have hk:=kp_grown gr;have h1:=sep_change (l1:=[bxOb a (bxOf P s q),flOb q.F q.mp s.m]) (o:=stOb B q.sv s.st) (o':=stOb B (.slice (some ⟨g,0,none⟩) (s.st.length+1) cap) (s.st++[t])) (l2:=inOb q.iv s.inp::ouOb B q.ov_ s.out::tcOb B q.tv s.tc::pgOb q.SP q.cv q.gv P::l) h (by
  show W2.ownsRow B _ 18 _ (s.st++[t]).length ((s.st++[t]).flatMap Fr.vals);rw[List.length_append,List.flatMap_append];simpa using hown) hk (fun k r=>by
  have e:g=k:=by simpa [stOb,rowOb,Value.ownBlock]using r
  rcases hg with u|u
  ·exact .inl (e▸u)
  ·exact .inr (by omega)) le
 have b1:=sep_below (l1:=[bxOb a (bxOf P s q),flOb q.F q.mp s.m]) (o:=stOb B q.sv s.st) (l2:=inOb q.iv s.inp::ouOb B q.ov_ s.out::tcOb B q.tv s.tc::pgOb q.SP q.cv q.gv P::l) h hk le;obtain⟨h2,b2⟩:=sep_box (bxOf P s q) (bxOf P {s with st:=s.st++[t]} {q with sv:=.slice (some ⟨g,0,none⟩) (s.st.length+1) cap}) h1 (.slice (some ⟨g,0,none⟩) (s.st.length+1) cap) 22 (fun hb=>hb.sv _) (Nat.le_trans le b1.size);refine⟨h1.ins (bxOb a (bxOf P s q)) (by simp),fun o ho=>h1.ins o (by simp[ho]),?_⟩;exact⟨⟨⟨{q with sv:=.slice (some ⟨g,0,none⟩) (s.st.length+1) cap},h2⟩,Nat.le_trans le (b1.trans b2).size⟩,b1.trans b2⟩
theorem MIn.take (L:List Int)(v:Value)(h:Sep B W (obs B a P s q++l))(le:B≤W.heap.size)(hv:IvIn W v L)(hb:v.ownBlock=q.iv.ownBlock):
 MIn B (W.setCell ⟨a,23,none⟩ v) a P {s with inp:=L} l∧Below B W (W.setCell ⟨a,23,none⟩ v):=by
 have h1:=sep_change (W':=W) (l1:=[bxOb a (bxOf P s q),flOb q.F q.mp s.m,stOb B q.sv s.st]) (o:=inOb q.iv s.inp) (o':=inOb v L) (l2:=ouOb B q.ov_ s.out::tcOb B q.tv s.tc::pgOb q.SP q.cv q.gv P::l) h hv (Kp.refl _ W) (fun k r=>.inl (by
  show q.iv.ownBlock=some k;rw[←hb];exact r)) le
 obtain⟨h2,b2⟩:=sep_box (bxOf P s q) (bxOf P {s with inp:=L} {q with iv:=v}) h1 v 23 (fun hb=>hb.iv _) le;exact⟨⟨⟨{q with iv:=v},h2⟩,Nat.le_trans le b2.size⟩,b2⟩
theorem MIn.onMem (h:MIn B W a P s l):∃km,W.cell? ⟨a,3,none⟩=some (.pointer (some ⟨km,0,none⟩))∧∃F,FlIn F W km s.m∧∀W' F' m',FlIn F' W' km m'→Mf F F' W W'→MIn B W' a P {s with m:=m'} l∧Below B W W'∧W'.cell? ⟨a,3,none⟩=some (.pointer (some ⟨km,0,none⟩)):=by
 obtain⟨⟨q,h1⟩,le⟩:=h;have hB:=h1.ins (bxOb a (bxOf P s q)) (by simp[obs]);refine⟨q.mp,hB.at_ 3 (by omega),q.F,h1.ins (flOb q.F q.mp s.m) (by simp[obs]),fun W' F' m' e1 e2=>?_⟩;have h2:=sep_change (l1:=[bxOb a (bxOf P s q)]) (o:=flOb q.F q.mp s.m) (o':=flOb F' q.mp m') h1 e1 e2.kp e2.new le;have hB2:Bx W' a (bxOf P s q):=h2.ins (bxOb a (bxOf P s q)) (by simp);exact⟨⟨⟨{q with F:=F'},h2⟩,Nat.le_trans le e2.kp.size⟩,sep_below (l1:=[bxOb a (bxOf P s q)]) (o:=flOb q.F q.mp s.m) h1 e2.kp le,hB2.at_ 3 (by omega)⟩
theorem MIn.store (h:MIn B W a P s l)(km:Nat)(c3:W.cell? ⟨a,3,none⟩=some (.pointer (some ⟨km,0,none⟩)))(N m R:Nat)(hN:N<18446744073709551616)(hm:m<18446744073709551616):
 Calls Tryz.prog 135 #[.pointer (some ⟨km,0,none⟩),.int .u64 N,.int .u64 m,.int .u64 R] W fun x w'=>x=.returned (.int .i64 (T.ldE N m))∧MIn B w' a P {s with m:=T.stB s.m N m R} l∧Below B W w'∧w'.cell? ⟨a,3,none⟩=some (.pointer (some ⟨km,0,none⟩)):=by
 obtain⟨km',c3',F,hF,hk⟩:=h.onMem;obtain rfl:km=km':=by
  rw[c3]at c3';simpa using c3'
 refine(T.flStore_any F km N m R s.m W hF hN hm).mono ?_;rintro x w' ⟨rfl,F',h1,h2⟩;exact⟨rfl,hk _ _ _ h1 h2⟩
theorem MIn.store0 (h:MIn B W a P s l)(km:Nat)(c3:W.cell? ⟨a,3,none⟩=some (.pointer (some ⟨km,0,none⟩)))(N:Nat)(hN:N+8<18446744073709551616):
 Calls Tryz.prog 135 #[.pointer (some ⟨km,0,none⟩),.int .u64 ((N:Int)+8),.int .u64 8,.int .u64 0] W fun x w'=>x=.returned (.int .i64 (T.ldE (N+8) 8))∧MIn B w' a P {s with m:=T.stB s.m (N+8) 8 0} l∧Below B W w'∧w'.cell? ⟨a,3,none⟩=some (.pointer (some ⟨km,0,none⟩)):=
 h.store km c3 (N+8) 8 0 hN (by decide)
theorem Gr.cellA (h:MIn B W a P s l){V:World}(g:Gr W V){j:Nat}{v:Value}(c:W.cell? ⟨a,j,none⟩=some v):V.cell? ⟨a,j,none⟩=some v:=by
 obtain⟨q,hb⟩:=h.bx;exact(T.cell_of_block (g.below.block a hb.lt) j).trans c
end
theorem wp_copy_z {o:Oper}{a:Act}{K:Act→World→Prop}{Q:Exit→Act→World→Prop}{w:World}(d s:Operand)(ho:o.op=.call {callee:=.builtin .copy,args:=#[d,s],argTypes:=#[26,26]})
 (b off dl dc:Nat)(hd:a.eval d=.slice (some ⟨b,off,none⟩) dl dc)(sa:Option Addr)(n c:Nat)(hs:a.eval s=.slice sa n c)(hn:n≤dl)(A:Nat→Int)
 (hsrc:n=0∨∃sb so,sa=some ⟨sb,so,none⟩∧∀j,j<n→w.cell? ⟨sb,so+j,none⟩=some (.int .u64 (A j)))(hth:w.there b off n)
 (h:K (a.put o.dst (goInt n)) (w.setCells b off ((List.range n).map fun j=>Value.int .u64 (A j)))):o.wp Tryz.prog a w K Q:=by
 have hl:((List.range n).map fun j=>Value.int .u64 (A j)).length=n:=by simp
 have hr:(Builtin.copy_ #[26,26] o.type #[.slice (some ⟨b,off,none⟩) dl dc,.slice sa n c]).run Tryz.prog w=.ok (goInt n) (w.setCells b off ((List.range n).map fun j=>Value.int .u64 (A j))):=by
  rcases hsrc with h0|⟨sb,so,rfl,hc⟩
  ·subst h0;have:=run_copy_none (P:=Tryz.prog) w 26 26 o.type 51 (some ⟨b,off,none⟩) sa dl dc 0 c Tryz.underlying26 (by kernel_rfl) (by simp);rw[show((List.range 0).map fun j=>Value.int .u64 (A j))=[]from rfl];exact this
  ·have:=run_copy_cells (P:=Tryz.prog) w 26 26 o.type 51 b off dl dc ⟨sb,so,none⟩ n c ((List.range n).map fun j=>Value.int .u64 (A j)) Tryz.underlying26 (by kernel_rfl) (by rw[hl];exact(Nat.min_eq_left hn).symm) (fun j v q=>?_) (fun j hj=>(hth j (by rwa [hl]at hj)).1) (fun j hj=>(hth j (by rwa [hl]at hj)).2) (fun v hv=>by obtain⟨j,_,rfl⟩:=List.mem_map.1 hv;rfl)
   ·rw[hl]at this;exact this
   ·have hj:j<n:=by have:=(List.getElem?_eq_some_iff.1 q).1;rwa [hl]at this
    rw[addr_addZ,hc j hj,←q];simp[hj]
 unfold Oper.wp execOp;simp only[ho,resolve,invoke,builtin,Sem.run_bind,Sem.run_pure,Result.andThen_ok,List.map_toArray,List.map_cons,List.map_nil,hd,hs,hr];exact h
def entR (g:Fg)(n:Nat)(A:Nat→Int):Nat→Int:=fun k=>if 1≤k∧k≤n then A (k - 1)else g.r k
theorem Fr.len (f:Fr):f.vals.length=18:=by simp[Fr.vals,regs_len]
theorem Fr.reg (f:Fr)(k:Nat)(h:k<16):f.vals[2+k]?=some (.int .u64 (f.r k)):=by
 rw[show 2+k=k+1+1 by omega];exact regs_at f.r k h
theorem at_ent {w:World}{b gate n:Nat}{g:Fg}(A:Nat→Int)(h:At w b (Fr.vals ⟨gate,g.e,g.r⟩).toArray)(hn:n≤15):At (w.setCells b 3 ((List.range n).map fun j=>Value.int .u64 (A j))) b (Fr.vals ⟨gate,g.e,entR g n A⟩).toArray:=by
 have hl:((List.range n).map fun j=>Value.int .u64 (A j)).length=n:=by simp
 refine At.setRange h 3 _ (by rw[Fr.len,Fr.len]) (by rw[hl,Fr.len];omega) (fun j hj=>?_) (fun i hi=>?_)
 ·rw[hl]at hj;rw[show 3+j=2+(j+1)by omega,Fr.reg _ (j+1) (by omega)];show some (Value.int .u64 (entR g n A (j+1)))=_;unfold entR;rw[if_pos ⟨by omega,by omega⟩];simp[hj]
 ·rw[hl]at hi;by_cases h18:i<18
  ·by_cases h2:i<2
   ·match i,h2 with
    |0,_=>rfl
    |1,_=>rfl
   ·rw[show i=2+(i - 2)by omega,Fr.reg _ (i - 2) (by omega),Fr.reg _ (i - 2) (by omega)];show some (Value.int .u64 (entR g n A (i - 2)))=some (.int .u64 (g.r (i - 2)));unfold entR;rw[if_neg (by omega)]
  ·rw[List.getElem?_eq_none (by rw[Fr.len];omega),List.getElem?_eq_none (by rw[Fr.len];omega)]
theorem Fr.one (f:Fr):f.vals.toArray.all (fun x=>x.oneCell')=true:=by
 rw[Array.all_eq_true_iff_forall_mem];intro u hu;simp only[List.mem_toArray,Fr.vals,List.mem_cons]at hu;rcases hu with rfl|rfl|hu
 ·rfl
 ·rfl
 ·exact regs_one f.r u hu
theorem results_rowY {fn:Func}{p:Tmp}{ty:TypeId}{v:Value}{a:Addr}(h:fn.results=#[.cell p ty])(tmps:Array Value)(w:World)(ht:tmps.getD p undef=.pointer (some a))(hl:(loadVar ty a).run Tryz.prog w=.ok v w):
 (results fn tmps).run Tryz.prog w=.ok v w:=by
 have ht':tmps[p]?.getD undef=.pointer (some a):=by simpa using ht
 simp[results,h,ht',asAddr,hl]
theorem build_fr (x y:Int)(r:Nat→Int)(W:World):(Instr.build 81 #[(0,.int .i64 x),(1,.int .i64 y),(2,.agg (regs r).toArray)]).run Tryz.prog W=.ok (.agg (Value.int .i64 x::.int .i64 y::regs r).toArray) W:=by kernel_rfl
theorem wp_build_fr {o:Oper}{a:Act}{K:Act→World→Prop}{Q:Exit→Act→World→Prop}{w:World}(i j k:Operand)(ho:o.op=.build 81 #[(0,i),(1,j),(2,k)])(x y:Int)(r:Nat→Int)(hi:a.eval i=.int .i64 x)(hj:a.eval j=.int .i64 y)(hk:a.eval k=.agg (regs r).toArray)
 (h:K (a.put o.dst (.agg (Value.int .i64 x::.int .i64 y::regs r).toArray)) w):o.wp Tryz.prog a w K Q:=by
 unfold Oper.wp execOp;simp only[ho,List.map_toArray,List.map_cons,List.map_nil,hi,hj,hk,build_fr,Sem.run_bind,Sem.run_pure,Result.andThen_ok];exact h
theorem entered_any (g:Fg)(gb goff gn gc gate:Nat)(sa:Option Addr)(n c:Nat)(A:Nat→Int)(w:World)(hlt:gate<gn)(hgb:gb<w.heap.size)(hgr:w.rangeAt gb (goff+gate*19) g.vals)(hn:n≤15)(hsrc:n=0∨∃sb so,sa=some ⟨sb,so,none⟩∧sb<w.heap.size∧∀j,j<n→w.cell? ⟨sb,so+j,none⟩=some (.int .u64 (A j))):
 Calls Tryz.prog 43 #[.slice (some ⟨gb,goff,none⟩) gn gc,.int .i64 gate,.slice sa n c] w fun x w'=>x=.returned (.agg (Fr.vals ⟨gate,g.e,entR g n A⟩).toArray)∧Gr w w':=by
 have hi:(gate:Int)<(gn:Int):=Int.ofNat_lt.2 hlt;have hsr2:Hz (∀X,Gr w X→n=0∨∃sb so,sa=some ⟨sb,so,none⟩∧∀j,j<n→X.cell? ⟨sb,so+j,none⟩=some (.int .u64 (A j))):=ζ (fun X q=>by
  rcases hsrc with h0|⟨sb,so,e1,e2,e3⟩
  ·exact .inl h0
  ·exact .inr ⟨sb,so,e1,fun j hj=>(T.cell_of_block (q.below.block sb e2) _).trans (e3 j hj)⟩)
 clear hsrc;go_enter Tryz.func43,Tryz.ntmps43;go_upto_region 1 with fail
 refine wp_world (fun X=>At X w.heap.size (List.toArray [Value.int .i64 0,.int .i64 0,.int .u64 0,.int .u64 0,.int .u64 0,.int .u64 0,.int .u64 0,.int .u64 0,.int .u64 0,.int .u64 0,.int .u64 0,.int .u64 0,.int .u64 0,.int .u64 0,.int .u64 0,.int .u64 0,.int .u64 0,.int .u64 0])∧Gr w X) ⟨At.new w _ _,(Gr.refl _).alloc _⟩ ?_;rintro W0 ⟨hAr,G⟩;have hgr1:Hz (W0.rangeAt gb (goff+gate*19) g.vals):=ζ (fun j v q=>(T.cell_of_block (G.below.block gb hgb) _).trans (hgr j v q));have hnr:w.heap.size≤w.heap.size:=Nat.le_refl _;generalize hkr:w.heap.size=kr at hAr hnr ⊢;replace hAr:=ζ hAr;replace hgr:=ζ hgr;refine wp_region_lit ?_;iterate 3 (refine xp fun K hK=>?_;go_simp;with_reducible refine hK _ _ ?_;clear hK K;(try simp only[xap]))
 refine xp fun K hK=>?_
 refine wp_load_mid _ _ rfl _ (goff+gate*19) rfl g.vals _ hgr1.out Tryz.underlying70 rfl (by rw[Fg.len];kernel_rfl) (hK _ _ ?_);clear hK K;try simp only[xap]
 refine xp fun K hK=>?_
 go_simp;with_reducible refine hK _ _ ?_
 clear hK K;try simp only[xap]
 have hA7:At (W0.alloc (.cells (List.toArray [Value.int .i64 0,.int .i64 0,.int .i64 0,.int .u64 0,.int .u64 0,.int .u64 0,.int .u64 0,.int .u64 0,.int .u64 0,.int .u64 0,.int .u64 0,.int .u64 0,.int .u64 0,.int .u64 0,.int .u64 0,.int .u64 0,.int .u64 0,.int .u64 0,.int .u64 0]) 70)) W0.heap.size (List.toArray [Value.int .i64 0,.int .i64 0,.int .i64 0,.int .u64 0,.int .u64 0,.int .u64 0,.int .u64 0,.int .u64 0,.int .u64 0,.int .u64 0,.int .u64 0,.int .u64 0,.int .u64 0,.int .u64 0,.int .u64 0,.int .u64 0,.int .u64 0,.int .u64 0,.int .u64 0]):=At.new W0 _ _;have hth:=ζ (At.there hA7 0 19 (by decide));have hA8:=ζ (At.setAll hA7 g.vals (by rw[Fg.len];rfl));have g8:=ζ (Gr.setCells ((Gr.refl W0).alloc (.cells (List.toArray [Value.int .i64 0,.int .i64 0,.int .i64 0,.int .u64 0,.int .u64 0,.int .u64 0,.int .u64 0,.int .u64 0,.int .u64 0,.int .u64 0,.int .u64 0,.int .u64 0,.int .u64 0,.int .u64 0,.int .u64 0,.int .u64 0,.int .u64 0,.int .u64 0,.int .u64 0]) 70)) W0.heap.size (Nat.le_refl _) g.vals 0)
 clear hA7;refine xp fun K hK=>?_
 refine wp_store_mid _ _ _ rfl _ _ (List.toArray g.vals) rfl rfl (show World.there _ _ _ _ by simpa [Fg.len]using hth.out) (by rw[List.size_toArray,Fg.len];kernel_rfl) (Fg.one _) (hK _ _ ?_);clear hK K;try simp only[Act.put]
 generalize World.setCells _ _ _ _=W1 at*;clear hth;have hs8:W0.heap.size<W1.heap.size:=hA8.out.1;generalize hk9:W0.heap.size=kg at*;have hAg:=hA8;replace hAr:=ζ (hAr.out.gr g8.out);replace G:=G.trans g8.out;clear hA8 g8 hgr1 hs8 hk9;have hkr1:kr<W1.heap.size:=hAr.out.1;have c0:W1.cell? ⟨kg,0,none⟩=some (.int .i64 g.e):=hAg.out.2.1 0;have hrg:Hz (W1.rangeAt kg 3 (regs g.r)):=ζ (fun j v q=>by
  have:=hAg.out.range (3+j) v (by rw[show 3+j=j+1+1+1 by omega];exact q)
  rwa [Nat.zero_add]at this)
 go_upto_region 2 with fail;refine wp_region_lit ?_;iterate 4 (refine xp fun K hK=>?_;go_simp;with_reducible refine hK _ _ ?_;clear hK K;(try simp only[xap]))
 refine xp fun K hK=>?_
 refine wp_load_mid _ _ rfl _ 3 rfl (regs g.r) _ hrg.out Tryz.underlying68 rfl (by rw[regs_len];kernel_rfl) (hK _ _ ?_);clear hK K;try simp only[xap]
 refine xp fun K hK=>?_
 refine wp_build_fr _ _ _ rfl gate g.e g.r (by rfl) (by rfl) (by rfl) ?_;with_reducible refine hK _ _ ?_
 clear hK K;try simp only[xap]
 refine xp fun K hK=>?_
 go_simp;with_reducible refine hK _ _ ?_
 clear hK K;try simp only[xap]
 have hA7:At (W1.alloc (.cells (List.toArray [Value.int .i64 0,.int .i64 0,.int .u64 0,.int .u64 0,.int .u64 0,.int .u64 0,.int .u64 0,.int .u64 0,.int .u64 0,.int .u64 0,.int .u64 0,.int .u64 0,.int .u64 0,.int .u64 0,.int .u64 0,.int .u64 0,.int .u64 0,.int .u64 0]) 81)) W1.heap.size (List.toArray [Value.int .i64 0,.int .i64 0,.int .u64 0,.int .u64 0,.int .u64 0,.int .u64 0,.int .u64 0,.int .u64 0,.int .u64 0,.int .u64 0,.int .u64 0,.int .u64 0,.int .u64 0,.int .u64 0,.int .u64 0,.int .u64 0,.int .u64 0,.int .u64 0]):=At.new W1 _ _;have hth:=ζ (At.there hA7 0 18 (by decide));have hA8:=ζ (At.setAll hA7 (Fr.vals ⟨gate,g.e,g.r⟩) (by rw[Fr.len];rfl));have g8:=ζ (Gr.setCells ((Gr.refl W1).alloc (.cells (List.toArray [Value.int .i64 0,.int .i64 0,.int .u64 0,.int .u64 0,.int .u64 0,.int .u64 0,.int .u64 0,.int .u64 0,.int .u64 0,.int .u64 0,.int .u64 0,.int .u64 0,.int .u64 0,.int .u64 0,.int .u64 0,.int .u64 0,.int .u64 0,.int .u64 0]) 81)) W1.heap.size (Nat.le_refl _) (Fr.vals ⟨gate,g.e,g.r⟩) 0)
 clear hA7;refine xp fun K hK=>?_
 refine wp_store_mid _ _ _ rfl _ _ (List.toArray (Fr.vals ⟨gate,g.e,g.r⟩)) rfl rfl (show World.there _ _ _ _ by simpa [Fr.len]using hth.out) (by rw[List.size_toArray,Fr.len];kernel_rfl) (Fr.one _) (hK _ _ ?_);clear hK K;try simp only[Act.put]
 generalize World.setCells _ _ _ _=W2 at*;clear hth;have hs8:W1.heap.size<W2.heap.size:=hA8.out.1;generalize hk9:W1.heap.size=kf at*;have hAf:=hA8;replace hAr:=ζ (hAr.out.gr g8.out);have G1:=G;replace G:=G.trans g8.out;have hsr3:=ζ (hsr2.out W2 G);have hthf:=ζ (At.there hAf.out 3 n (by rw[Fr.len];omega));have hA9:=ζ (at_ent A hAf.out hn);have hkf:w.heap.size≤kf:=by rw[←hk9];exact G1.below.size
 have hkfr:kr≠kf:=by omega
 have G3:=ζ (Gr.setCells G kf hkf ((List.range n).map fun j=>Value.int .u64 (A j)) 3);have hAr3:=ζ (At.other hAr.out hkfr 3 ((List.range n).map fun j=>Value.int .u64 (A j)));clear hA8 g8 hrg c0 hAg hk9 G1;go_upto_region 3 with fail
 refine wp_region_lit ?_;iterate 3 (refine xp fun K hK=>?_;go_simp;with_reducible refine hK _ _ ?_;clear hK K;(try simp only[xap]))
 refine xp fun K hK=>?_
 refine wp_copy_z _ _ rfl kf 3 15 15 (by rfl) sa n c (by rfl) hn A hsr3.out hthf.out ?_;with_reducible refine hK _ _ ?_
 clear hK K;try simp only[xap]
 clear hAf hAr hsr3 hthf G hsr2;generalize World.setCells _ _ _ _=W3 at*;have hAf:=hA9;have hth2:=ζ (At.there hAr3.out 0 18 (by decide));have hA10:=ζ (At.setAll hAr3.out (Fr.vals ⟨gate,g.e,entR g n A⟩) (by rw[Fr.len];rfl));have G4:=ζ (Gr.setCells G3.out kr (by omega) (Fr.vals ⟨gate,g.e,entR g n A⟩) 0);go_upto_region 4 with fail
 refine wp_region_lit ?_;refine xp fun K hK=>?_
 refine wp_load_mid _ _ rfl _ 0 rfl (Fr.vals ⟨gate,g.e,entR g n A⟩) _ hAf.out.range Tryz.underlying81 rfl (by rw[Fr.len];kernel_rfl) (hK _ _ ?_);clear hK K;try simp only[xap]
 refine xp fun K hK=>?_
 refine wp_store_mid _ _ _ rfl _ _ (List.toArray (Fr.vals ⟨gate,g.e,entR g n A⟩)) rfl rfl (show World.there _ _ _ _ by simpa [Fr.len]using hth2.out) (by rw[List.size_toArray,Fr.len];kernel_rfl) (Fr.one _) (hK _ _ ?_);clear hK K;try simp only[Act.put]
 generalize World.setCells _ _ _ _=W4 at*;have hrun:=ζ (run_loadVar_mid (P:=Tryz.prog) W4 kr 0 81 (Fr.vals ⟨gate,g.e,entR g n A⟩) _ hA10.out.range Tryz.underlying81 rfl (by rw[Fr.len];kernel_rfl));go_wp2_with fail;refine bodyPost_ret (v:=.agg (List.toArray (Fr.vals ⟨gate,g.e,entR g n A⟩))) ?_ rfl ⟨rfl,G4.out⟩;exact results_rowY Tryz.results43 _ _ rfl hrun.out
end Z
end Go.Proofs.YtdidjhillmgccaaGreat
