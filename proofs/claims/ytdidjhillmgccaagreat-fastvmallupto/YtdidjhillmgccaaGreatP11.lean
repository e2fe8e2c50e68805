import Derived.Test.YtdidjhillmgccaaGreatZMac
import Derived.Deep.RegionHeld3
import Derived.BigFrame
namespace Go.Proofs.YtdidjhillmgccaaGreat
set_option maxRecDepth 100000
set_option maxHeartbeats 40000000
namespace Z
open Go.RowKit
open T (Sep Ob Kp Mf FlIn)
theorem kp_set1 {w w1:World}{a:Nat}(h:Kp (fun k=>k=a) w w1)(o:Nat)(v:Value):Kp (fun k=>k=a) w (w1.setCell ⟨a,o,none⟩ v):=h.trans (Kp.set (S:=fun k=>k=a) w1 ⟨a,o,none⟩ v rfl) (fun _ q=>.inl q)
theorem next_any (a:Nat)(x:Fx)(w:World)(h:Bx w a x)(hp:x.p≤1000000):
 Calls Tryz.prog 125 #[.pointer (some ⟨a,0,none⟩)] w fun r w'=>r=.returned (.tuple #[])∧Bo1 a x.next w w':=by
 have c5:w.cell? ⟨a,5,none⟩=some (.int .i64 x.p):=h.at_ 5 (by omega);have f5:=h.fr 5;have hlt:=h.lt;have hn:Bx (w.setCell ⟨a,5,none⟩ (.int .i64 ((x.p:Int)+1))) a x.next:=h.pc (x.p+1);replace h:=ζ h;replace hn:=ζ hn;go_enter Tryz.func125,Tryz.ntmps125;go_wp2_with fail;go_end0;exact⟨rfl,hn.out,kp_set1 (Kp.refl _ w) 5 _⟩
theorem a_any (a:Nat)(x:Fx)(i:Fi)(w:World)(h:Bx w a x)(hi:i.a<16):
 Calls Tryz.prog 127 #[.pointer (some ⟨a,0,none⟩),.agg #[.int .u8 i.op,.int .i64 i.a,.int .i64 i.b,.int .i64 i.c,.int .u64 i.i]] w fun r w'=>r=.returned (.int .u64 (x.r i.a))∧Gr w w':=by
 have hlt:=h.lt;have hI:(i.a:Int)<16:=by omega
 replace h:=ζ h;go_enter Tryz.func127,Tryz.ntmps127;go_upto_region 1 with fail
 refine wp_world (fun W=>At W w.heap.size i.w∧Gr w W) ⟨At.new w _ _,(Gr.refl _).alloc _⟩ ?_;rintro W ⟨hA,G⟩;have c1:W.drew.cell? ⟨w.heap.size,1,none⟩=some (.int .i64 i.a):=(hA.gr ((Gr.refl W).drew)).2.1 1;have c2:W.drew.cell? ⟨a,6+i.a,none⟩=some (.int .u64 (x.r i.a)):=by rw[←Fx.reg x i.a hi];exact((h.out.gr G).gr ((Gr.refl W).drew)).at_ _ (by omega)
 generalize w.heap.size=kb at*;refine wp_region_held_drew (S:=(fun W=>W.cell? ⟨kb,1,none⟩=some (.int .i64 i.a)∧W.cell? ⟨a,6+i.a,none⟩=some (.int .u64 (x.r i.a)))) (by kernel_rfl) (⟨c1,c2⟩) (fun hHeld=>?_);refine xz 0 rfl (h:=xz 1 rfl (h:=xz 2 rfl (h:=xz 3 rfl (h:=xz 4 rfl (h:=xz 5 rfl (h:=xz 6 rfl (h:=xz 7 rfl (h:=xz 8 rfl (h:=?_)))))))));try simp only[xap]
 refine xdn ?_ _;go_wp2_with fail;go_ret;exact⟨rfl,G.drew⟩
theorem b_any (a:Nat)(x:Fx)(i:Fi)(w:World)(h:Bx w a x)(hi:i.b<16):
 Calls Tryz.prog 122 #[.pointer (some ⟨a,0,none⟩),.agg #[.int .u8 i.op,.int .i64 i.a,.int .i64 i.b,.int .i64 i.c,.int .u64 i.i]] w fun r w'=>r=.returned (.int .u64 (x.r i.b))∧Gr w w':=by
 have hlt:=h.lt;have hI:(i.b:Int)<16:=by omega
 replace h:=ζ h;go_enter Tryz.func122,Tryz.ntmps122;go_upto_region 1 with fail
 refine wp_world (fun W=>At W w.heap.size i.w∧Gr w W) ⟨At.new w _ _,(Gr.refl _).alloc _⟩ ?_;rintro W ⟨hA,G⟩;have c1:W.drew.cell? ⟨w.heap.size,2,none⟩=some (.int .i64 i.b):=(hA.gr ((Gr.refl W).drew)).2.1 2;have c2:W.drew.cell? ⟨a,6+i.b,none⟩=some (.int .u64 (x.r i.b)):=by rw[←Fx.reg x i.b hi];exact((h.out.gr G).gr ((Gr.refl W).drew)).at_ _ (by omega)
 generalize w.heap.size=kb at*;refine wp_region_held_drew (S:=(fun W=>W.cell? ⟨kb,2,none⟩=some (.int .i64 i.b)∧W.cell? ⟨a,6+i.b,none⟩=some (.int .u64 (x.r i.b)))) (by kernel_rfl) (⟨c1,c2⟩) (fun hHeld=>?_);refine xz 0 rfl (h:=xz 1 rfl (h:=xz 2 rfl (h:=xz 3 rfl (h:=xz 4 rfl (h:=xz 5 rfl (h:=xz 6 rfl (h:=xz 7 rfl (h:=xz 8 rfl (h:=?_)))))))));try simp only[xap]
 refine xdn ?_ _;go_wp2_with fail;go_ret;exact⟨rfl,G.drew⟩
theorem c_any (a:Nat)(x:Fx)(i:Fi)(w:World)(h:Bx w a x)(hi:i.c<16):
 Calls Tryz.prog 123 #[.pointer (some ⟨a,0,none⟩),.agg #[.int .u8 i.op,.int .i64 i.a,.int .i64 i.b,.int .i64 i.c,.int .u64 i.i]] w fun r w'=>r=.returned (.int .u64 (x.r i.c))∧Gr w w':=by
 have hlt:=h.lt;have hI:(i.c:Int)<16:=by omega
 replace h:=ζ h;go_enter Tryz.func123,Tryz.ntmps123;go_upto_region 1 with fail
 refine wp_world (fun W=>At W w.heap.size i.w∧Gr w W) ⟨At.new w _ _,(Gr.refl _).alloc _⟩ ?_;rintro W ⟨hA,G⟩;have c1:W.drew.cell? ⟨w.heap.size,3,none⟩=some (.int .i64 i.c):=(hA.gr ((Gr.refl W).drew)).2.1 3;have c2:W.drew.cell? ⟨a,6+i.c,none⟩=some (.int .u64 (x.r i.c)):=by rw[←Fx.reg x i.c hi];exact((h.out.gr G).gr ((Gr.refl W).drew)).at_ _ (by omega)
 generalize w.heap.size=kb at*;refine wp_region_held_drew (S:=(fun W=>W.cell? ⟨kb,3,none⟩=some (.int .i64 i.c)∧W.cell? ⟨a,6+i.c,none⟩=some (.int .u64 (x.r i.c)))) (by kernel_rfl) (⟨c1,c2⟩) (fun hHeld=>?_);refine xz 0 rfl (h:=xz 1 rfl (h:=xz 2 rfl (h:=xz 3 rfl (h:=xz 4 rfl (h:=xz 5 rfl (h:=xz 6 rfl (h:=xz 7 rfl (h:=xz 8 rfl (h:=?_)))))))));try simp only[xap]
 refine xdn ?_ _;go_wp2_with fail;go_ret;exact⟨rfl,G.drew⟩
theorem lay_any (a:Nat)(x:Fx)(k:Nat)(n:Int)(w:World)(h:Bx w a x)(hk:k<16)(hp:x.p≤1000000):
 Calls Tryz.prog 121 #[.pointer (some ⟨a,0,none⟩),.int .i64 k,.int .u64 n] w fun r w'=>r=.returned (.tuple #[])∧Bo1 a (x.lay k n) w w':=by
 have c5:w.cell? ⟨a,6+k,none⟩=some (.int .u64 (x.r k)):=by rw[←Fx.reg x k hk];exact h.at_ _ (by omega)
 have f5:=h.fr (6+k);have hlt:=h.lt;have hI:(k:Int)<16:=by omega
 have hN:=next_any a (x.put k n) (w.setCell ⟨a,6+k,none⟩ (.int .u64 n)) (h.reg k hk n) hp;replace h:=ζ h;replace hN:=ζ hN;go_enter Tryz.func121,Tryz.ntmps121;go_wp2_with fail;refine hN.out.mono ?_;rintro r w1 ⟨rfl,hB⟩;replace hB:=ζ hB;go_wp2_with fail;go_end0;exact⟨rfl,hB.out.1,(kp_set1 (Kp.refl _ w) (6+k) (.int .u64 n)).trans hB.out.2 (fun _ q=>.inl q)⟩
theorem finish_any (a:Nat)(x:Fx)(e v:Int)(w:World)(h:Bx w a x):
 Calls Tryz.prog 45 #[.pointer (some ⟨a,0,none⟩),.int .i64 e,.int .u64 v] w fun r w'=>r=.returned (.tuple #[])∧Bo1 a (x.fin e v 0) w w':=by
 have c6:w.cell? ⟨a,26,none⟩=some (.int .i64 x.e):=h.at_ 26 (by omega);have c7:w.cell? ⟨a,27,none⟩=some (.int .u64 x.v):=h.at_ 27 (by omega);have c8:w.cell? ⟨a,28,none⟩=some (.int .i64 x.f):=h.at_ 28 (by omega);have f6:=h.fr 26;have f7:=h.fr 27;have f8:=h.fr 28;have hlt:=h.lt;have hn:=((h.e e).v v).f 0;replace h:=ζ h;replace hn:=ζ hn;go_enter Tryz.func45,Tryz.ntmps45;go_wp2_with fail;go_end0;exact⟨rfl,hn.out,kp_set1 (kp_set1 (kp_set1 (Kp.refl _ w) 26 _) 27 _) 28 _⟩
theorem fail_any (a:Nat)(x:Fx)(ff:Int)(w:World)(h:Bx w a x):
 Calls Tryz.prog 81 #[.pointer (some ⟨a,0,none⟩),.int .i64 ff] w fun r w'=>r=.returned (.tuple #[])∧Bo1 a (x.fin 7 0 ff) w w':=by
 have c6:w.cell? ⟨a,26,none⟩=some (.int .i64 x.e):=h.at_ 26 (by omega);have c7:w.cell? ⟨a,27,none⟩=some (.int .u64 x.v):=h.at_ 27 (by omega);have c8:w.cell? ⟨a,28,none⟩=some (.int .i64 x.f):=h.at_ 28 (by omega);have f6:=h.fr 26;have f7:=h.fr 27;have f8:=h.fr 28;have hlt:=h.lt;have hn:=((h.e 7).v 0).f ff;replace h:=ζ h;replace hn:=ζ hn;go_enter Tryz.func81,Tryz.ntmps81;go_wp2_with fail;go_end0;exact⟨rfl,hn.out,kp_set1 (kp_set1 (kp_set1 (Kp.refl _ w) 26 _) 27 _) 28 _⟩
theorem told_any (b:Bool)(w:World):
 Calls Tryz.prog 124 #[.bool b] w fun r w'=>r=.returned (.int .u64 (if b then 1 else 0))∧w'=w:=by
 cases b
 ·go_enter Tryz.func124,Tryz.ntmps124;go_wp2_with fail;go_ret;exact⟨rfl,rfl⟩
 ·go_enter Tryz.func124,Tryz.ntmps124;go_wp2_with fail;go_ret;exact⟨rfl,rfl⟩
theorem add_op (a:Nat)(x:Fx)(i:Fi)(w:World)(h:Bx w a x)(ha:i.a<16)(hb:i.b<16)(hc:i.c<16)(hp:x.p≤1000000):
 Calls Tryz.prog 87 #[.agg #[.int .u8 i.op,.int .i64 i.a,.int .i64 i.b,.int .i64 i.c,.int .u64 i.i],.pointer (some ⟨a,0,none⟩)] w fun r w'=>r=.returned (.tuple #[])∧Bo1 a (x.lay i.a (IntKind.u64.wrap (x.r i.b+x.r i.c))) w w':=by
 have hne:¬w.heap.size=a:=by have:=h.lt;omega
 have hx:=ζ h;clear h;go_enter Tryz.func87,Tryz.ntmps87;go_upto_region 1 with fail
 refine wp_world (fun W=>At W w.heap.size i.w∧Gr w W) ⟨At.new w _ _,(Gr.refl _).alloc _⟩ ?_;rintro W ⟨hA,G⟩;generalize w.heap.size=kb at*;replace hA:=ζ hA;have KS:=xk1 i kb;have g0:Gr W W.drew:=(Gr.refl W).drew;refine wp_region_held_drew (S:=(fun W=>W.rangeAt kb 0 (Fi.vals i)∧W.cell? ⟨kb,1,none⟩=some (.int .i64 i.a)∧W.cell? ⟨kb,3,none⟩=some (.int .i64 i.c)∧W.cell? ⟨kb,4,none⟩=some (.int .u64 i.i))) (by kernel_rfl) (KS.out _ (hA.out.gr g0)) (fun hHeld=>?_);refine xz 0 rfl (h:=xz 1 rfl (h:=xz 2 rfl (h:=xz 3 rfl (h:=?_))));try simp only[xap]
 refine xtk 4 rfl (yieldsIf_load_mid (by rfl) _ _ rfl _ _ rfl _ _ (fun _ h=>h.1) Tryz.underlying128 rfl (by kernel_rfl)) ?_;try simp only[xap]
 refine xz 6 rfl (h:=?_);try simp only[xap]
 refine xtk 7 rfl (yieldsIf_load_mid (by rfl) _ _ rfl _ _ rfl _ _ (fun _ h=>h.1) Tryz.underlying128 rfl (by kernel_rfl)) ?_;try simp only[xap]
 refine xrd 5 rfl (fun K hK=>?_);go_simp;go_wp2_with(refine(b_any a x i _ ((hx.out.gr G).gr g0) hb).mono ?_;rintro r V1 ⟨rfl,gg⟩;have g1:=g0.trans gg;clear gg g0 hHeld);refine hK.out _ _ (KS.out _ (hA.out.gr g1)) (fun hHeld=>?_);clear hK K;try simp only[xap]
 refine xrd 8 rfl (fun K hK=>?_);go_simp;go_wp2_with(refine(c_any a x i _ ((hx.out.gr G).gr g1) hc).mono ?_;rintro r V2 ⟨rfl,gg⟩;have g2:=g1.trans gg;clear gg g1 hHeld);refine hK.out _ _ (KS.out _ (hA.out.gr g2)) (fun hHeld=>?_);clear hK K;try simp only[xap]
 refine xz 9 rfl (h:=?_);try simp only[xap]
 refine xrd 10 rfl (fun K hK=>?_);go_simp;go_wp2_with(refine(lay_any a x i.a _ _ ((hx.out.gr G).gr g2) ha hp).mono ?_;rintro r V9 ⟨rfl,hB⟩;clear hHeld);refine hK.out _ _ (KS.out _ (T.at_kp (hA.out.gr g2) hB.2 hne)) (fun hHeld=>?_);clear hK K;try simp only[xap]
 refine xdn ?_ _;clear hHeld;go_wp2_with fail
 first|go_end0|((try simp only[Exit.inBlock,Exit.then]);refine xre ?_)
 exact⟨rfl,hB.after (G.trans g2)⟩
theorem sub_op (a:Nat)(x:Fx)(i:Fi)(w:World)(h:Bx w a x)(ha:i.a<16)(hb:i.b<16)(hc:i.c<16)(hp:x.p≤1000000):
 Calls Tryz.prog 88 #[.agg #[.int .u8 i.op,.int .i64 i.a,.int .i64 i.b,.int .i64 i.c,.int .u64 i.i],.pointer (some ⟨a,0,none⟩)] w fun r w'=>r=.returned (.tuple #[])∧Bo1 a (x.lay i.a (IntKind.u64.wrap (x.r i.b - x.r i.c))) w w':=by
 have hne:¬w.heap.size=a:=by have:=h.lt;omega
 have hx:=ζ h;clear h;go_enter Tryz.func88,Tryz.ntmps88;go_upto_region 1 with fail
 refine wp_world (fun W=>At W w.heap.size i.w∧Gr w W) ⟨At.new w _ _,(Gr.refl _).alloc _⟩ ?_;rintro W ⟨hA,G⟩;generalize w.heap.size=kb at*;replace hA:=ζ hA;have KS:=xk1 i kb;have g0:Gr W W.drew:=(Gr.refl W).drew;refine wp_region_held_drew (S:=(fun W=>W.rangeAt kb 0 (Fi.vals i)∧W.cell? ⟨kb,1,none⟩=some (.int .i64 i.a)∧W.cell? ⟨kb,3,none⟩=some (.int .i64 i.c)∧W.cell? ⟨kb,4,none⟩=some (.int .u64 i.i))) (by kernel_rfl) (KS.out _ (hA.out.gr g0)) (fun hHeld=>?_);refine xz 0 rfl (h:=xz 1 rfl (h:=xz 2 rfl (h:=xz 3 rfl (h:=?_))));try simp only[xap]
 refine xtk 4 rfl (yieldsIf_load_mid (by rfl) _ _ rfl _ _ rfl _ _ (fun _ h=>h.1) Tryz.underlying128 rfl (by kernel_rfl)) ?_;try simp only[xap]
 refine xz 6 rfl (h:=?_);try simp only[xap]
 refine xtk 7 rfl (yieldsIf_load_mid (by rfl) _ _ rfl _ _ rfl _ _ (fun _ h=>h.1) Tryz.underlying128 rfl (by kernel_rfl)) ?_;try simp only[xap]
 refine xrd 5 rfl (fun K hK=>?_);go_simp;go_wp2_with(refine(b_any a x i _ ((hx.out.gr G).gr g0) hb).mono ?_;rintro r V1 ⟨rfl,gg⟩;have g1:=g0.trans gg;clear gg g0 hHeld);refine hK.out _ _ (KS.out _ (hA.out.gr g1)) (fun hHeld=>?_);clear hK K;try simp only[xap]
 refine xrd 8 rfl (fun K hK=>?_);go_simp;go_wp2_with(refine(c_any a x i _ ((hx.out.gr G).gr g1) hc).mono ?_;rintro r V2 ⟨rfl,gg⟩;have g2:=g1.trans gg;clear gg g1 hHeld);refine hK.out _ _ (KS.out _ (hA.out.gr g2)) (fun hHeld=>?_);clear hK K;try simp only[xap]
 refine xz 9 rfl (h:=?_);try simp only[xap]
 refine xrd 10 rfl (fun K hK=>?_);go_simp;go_wp2_with(refine(lay_any a x i.a _ _ ((hx.out.gr G).gr g2) ha hp).mono ?_;rintro r V9 ⟨rfl,hB⟩;clear hHeld);refine hK.out _ _ (KS.out _ (T.at_kp (hA.out.gr g2) hB.2 hne)) (fun hHeld=>?_);clear hK K;try simp only[xap]
 refine xdn ?_ _;clear hHeld;go_wp2_with fail
 first|go_end0|((try simp only[Exit.inBlock,Exit.then]);refine xre ?_)
 exact⟨rfl,hB.after (G.trans g2)⟩
theorem mul_op (a:Nat)(x:Fx)(i:Fi)(w:World)(h:Bx w a x)(ha:i.a<16)(hb:i.b<16)(hc:i.c<16)(hp:x.p≤1000000):
 Calls Tryz.prog 89 #[.agg #[.int .u8 i.op,.int .i64 i.a,.int .i64 i.b,.int .i64 i.c,.int .u64 i.i],.pointer (some ⟨a,0,none⟩)] w fun r w'=>r=.returned (.tuple #[])∧Bo1 a (x.lay i.a (IntKind.u64.wrap (x.r i.b*x.r i.c))) w w':=by
 have hne:¬w.heap.size=a:=by have:=h.lt;omega
 have hx:=ζ h;clear h;go_enter Tryz.func89,Tryz.ntmps89;go_upto_region 1 with fail
 refine wp_world (fun W=>At W w.heap.size i.w∧Gr w W) ⟨At.new w _ _,(Gr.refl _).alloc _⟩ ?_;rintro W ⟨hA,G⟩;generalize w.heap.size=kb at*;replace hA:=ζ hA;have KS:=xk1 i kb;have g0:Gr W W.drew:=(Gr.refl W).drew;refine wp_region_held_drew (S:=(fun W=>W.rangeAt kb 0 (Fi.vals i)∧W.cell? ⟨kb,1,none⟩=some (.int .i64 i.a)∧W.cell? ⟨kb,3,none⟩=some (.int .i64 i.c)∧W.cell? ⟨kb,4,none⟩=some (.int .u64 i.i))) (by kernel_rfl) (KS.out _ (hA.out.gr g0)) (fun hHeld=>?_);refine xz 0 rfl (h:=xz 1 rfl (h:=xz 2 rfl (h:=xz 3 rfl (h:=?_))));try simp only[xap]
 refine xtk 4 rfl (yieldsIf_load_mid (by rfl) _ _ rfl _ _ rfl _ _ (fun _ h=>h.1) Tryz.underlying128 rfl (by kernel_rfl)) ?_;try simp only[xap]
 refine xz 6 rfl (h:=?_);try simp only[xap]
 refine xtk 7 rfl (yieldsIf_load_mid (by rfl) _ _ rfl _ _ rfl _ _ (fun _ h=>h.1) Tryz.underlying128 rfl (by kernel_rfl)) ?_;try simp only[xap]
 refine xrd 5 rfl (fun K hK=>?_);go_simp;go_wp2_with(refine(b_any a x i _ ((hx.out.gr G).gr g0) hb).mono ?_;rintro r V1 ⟨rfl,gg⟩;have g1:=g0.trans gg;clear gg g0 hHeld);refine hK.out _ _ (KS.out _ (hA.out.gr g1)) (fun hHeld=>?_);clear hK K;try simp only[xap]
 refine xrd 8 rfl (fun K hK=>?_);go_simp;go_wp2_with(refine(c_any a x i _ ((hx.out.gr G).gr g1) hc).mono ?_;rintro r V2 ⟨rfl,gg⟩;have g2:=g1.trans gg;clear gg g1 hHeld);refine hK.out _ _ (KS.out _ (hA.out.gr g2)) (fun hHeld=>?_);clear hK K;try simp only[xap]
 refine xz 9 rfl (h:=?_);try simp only[xap]
 refine xrd 10 rfl (fun K hK=>?_);go_simp;go_wp2_with(refine(lay_any a x i.a _ _ ((hx.out.gr G).gr g2) ha hp).mono ?_;rintro r V9 ⟨rfl,hB⟩;clear hHeld);refine hK.out _ _ (KS.out _ (T.at_kp (hA.out.gr g2) hB.2 hne)) (fun hHeld=>?_);clear hK K;try simp only[xap]
 refine xdn ?_ _;clear hHeld;go_wp2_with fail
 first|go_end0|((try simp only[Exit.inBlock,Exit.then]);refine xre ?_)
 exact⟨rfl,hB.after (G.trans g2)⟩
theorem and_op (a:Nat)(x:Fx)(i:Fi)(w:World)(h:Bx w a x)(ha:i.a<16)(hb:i.b<16)(hc:i.c<16)(hp:x.p≤1000000):
 Calls Tryz.prog 90 #[.agg #[.int .u8 i.op,.int .i64 i.a,.int .i64 i.b,.int .i64 i.c,.int .u64 i.i],.pointer (some ⟨a,0,none⟩)] w fun r w'=>r=.returned (.tuple #[])∧Bo1 a (x.lay i.a (bits .and .u64 (x.r i.b) (x.r i.c))) w w':=by
 have hne:¬w.heap.size=a:=by have:=h.lt;omega
 have hx:=ζ h;clear h;go_enter Tryz.func90,Tryz.ntmps90;go_upto_region 1 with fail
 refine wp_world (fun W=>At W w.heap.size i.w∧Gr w W) ⟨At.new w _ _,(Gr.refl _).alloc _⟩ ?_;rintro W ⟨hA,G⟩;generalize w.heap.size=kb at*;replace hA:=ζ hA;have KS:=xk1 i kb;have g0:Gr W W.drew:=(Gr.refl W).drew;refine wp_region_held_drew (S:=(fun W=>W.rangeAt kb 0 (Fi.vals i)∧W.cell? ⟨kb,1,none⟩=some (.int .i64 i.a)∧W.cell? ⟨kb,3,none⟩=some (.int .i64 i.c)∧W.cell? ⟨kb,4,none⟩=some (.int .u64 i.i))) (by kernel_rfl) (KS.out _ (hA.out.gr g0)) (fun hHeld=>?_);refine xz 0 rfl (h:=xz 1 rfl (h:=xz 2 rfl (h:=xz 3 rfl (h:=?_))));try simp only[xap]
 refine xtk 4 rfl (yieldsIf_load_mid (by rfl) _ _ rfl _ _ rfl _ _ (fun _ h=>h.1) Tryz.underlying128 rfl (by kernel_rfl)) ?_;try simp only[xap]
 refine xz 6 rfl (h:=?_);try simp only[xap]
 refine xtk 7 rfl (yieldsIf_load_mid (by rfl) _ _ rfl _ _ rfl _ _ (fun _ h=>h.1) Tryz.underlying128 rfl (by kernel_rfl)) ?_;try simp only[xap]
 refine xrd 5 rfl (fun K hK=>?_);go_simp;go_wp2_with(refine(b_any a x i _ ((hx.out.gr G).gr g0) hb).mono ?_;rintro r V1 ⟨rfl,gg⟩;have g1:=g0.trans gg;clear gg g0 hHeld);refine hK.out _ _ (KS.out _ (hA.out.gr g1)) (fun hHeld=>?_);clear hK K;try simp only[xap]
 refine xrd 8 rfl (fun K hK=>?_);go_simp;go_wp2_with(refine(c_any a x i _ ((hx.out.gr G).gr g1) hc).mono ?_;rintro r V2 ⟨rfl,gg⟩;have g2:=g1.trans gg;clear gg g1 hHeld);refine hK.out _ _ (KS.out _ (hA.out.gr g2)) (fun hHeld=>?_);clear hK K;try simp only[xap]
 refine xz 9 rfl (h:=?_);try simp only[xap]
 refine xrd 10 rfl (fun K hK=>?_);go_simp;go_wp2_with(refine(lay_any a x i.a _ _ ((hx.out.gr G).gr g2) ha hp).mono ?_;rintro r V9 ⟨rfl,hB⟩;clear hHeld);refine hK.out _ _ (KS.out _ (T.at_kp (hA.out.gr g2) hB.2 hne)) (fun hHeld=>?_);clear hK K;try simp only[xap]
 refine xdn ?_ _;clear hHeld;go_wp2_with fail
 first|go_end0|((try simp only[Exit.inBlock,Exit.then]);refine xre ?_)
 exact⟨rfl,hB.after (G.trans g2)⟩
theorem or_op (a:Nat)(x:Fx)(i:Fi)(w:World)(h:Bx w a x)(ha:i.a<16)(hb:i.b<16)(hc:i.c<16)(hp:x.p≤1000000):
 Calls Tryz.prog 91 #[.agg #[.int .u8 i.op,.int .i64 i.a,.int .i64 i.b,.int .i64 i.c,.int .u64 i.i],.pointer (some ⟨a,0,none⟩)] w fun r w'=>r=.returned (.tuple #[])∧Bo1 a (x.lay i.a (bits .or .u64 (x.r i.b) (x.r i.c))) w w':=by
 have hne:¬w.heap.size=a:=by have:=h.lt;omega
 have hx:=ζ h;clear h;go_enter Tryz.func91,Tryz.ntmps91;go_upto_region 1 with fail
 refine wp_world (fun W=>At W w.heap.size i.w∧Gr w W) ⟨At.new w _ _,(Gr.refl _).alloc _⟩ ?_;rintro W ⟨hA,G⟩;generalize w.heap.size=kb at*;replace hA:=ζ hA;have KS:=xk1 i kb;have g0:Gr W W.drew:=(Gr.refl W).drew;refine wp_region_held_drew (S:=(fun W=>W.rangeAt kb 0 (Fi.vals i)∧W.cell? ⟨kb,1,none⟩=some (.int .i64 i.a)∧W.cell? ⟨kb,3,none⟩=some (.int .i64 i.c)∧W.cell? ⟨kb,4,none⟩=some (.int .u64 i.i))) (by kernel_rfl) (KS.out _ (hA.out.gr g0)) (fun hHeld=>?_);refine xz 0 rfl (h:=xz 1 rfl (h:=xz 2 rfl (h:=xz 3 rfl (h:=?_))));try simp only[xap]
 refine xtk 4 rfl (yieldsIf_load_mid (by rfl) _ _ rfl _ _ rfl _ _ (fun _ h=>h.1) Tryz.underlying128 rfl (by kernel_rfl)) ?_;try simp only[xap]
 refine xz 6 rfl (h:=?_);try simp only[xap]
 refine xtk 7 rfl (yieldsIf_load_mid (by rfl) _ _ rfl _ _ rfl _ _ (fun _ h=>h.1) Tryz.underlying128 rfl (by kernel_rfl)) ?_;try simp only[xap]
 refine xrd 5 rfl (fun K hK=>?_);go_simp;go_wp2_with(refine(b_any a x i _ ((hx.out.gr G).gr g0) hb).mono ?_;rintro r V1 ⟨rfl,gg⟩;have g1:=g0.trans gg;clear gg g0 hHeld);refine hK.out _ _ (KS.out _ (hA.out.gr g1)) (fun hHeld=>?_);clear hK K;try simp only[xap]
 refine xrd 8 rfl (fun K hK=>?_);go_simp;go_wp2_with(refine(c_any a x i _ ((hx.out.gr G).gr g1) hc).mono ?_;rintro r V2 ⟨rfl,gg⟩;have g2:=g1.trans gg;clear gg g1 hHeld);refine hK.out _ _ (KS.out _ (hA.out.gr g2)) (fun hHeld=>?_);clear hK K;try simp only[xap]
 refine xz 9 rfl (h:=?_);try simp only[xap]
 refine xrd 10 rfl (fun K hK=>?_);go_simp;go_wp2_with(refine(lay_any a x i.a _ _ ((hx.out.gr G).gr g2) ha hp).mono ?_;rintro r V9 ⟨rfl,hB⟩;clear hHeld);refine hK.out _ _ (KS.out _ (T.at_kp (hA.out.gr g2) hB.2 hne)) (fun hHeld=>?_);clear hK K;try simp only[xap]
 refine xdn ?_ _;clear hHeld;go_wp2_with fail
 first|go_end0|((try simp only[Exit.inBlock,Exit.then]);refine xre ?_)
 exact⟨rfl,hB.after (G.trans g2)⟩
theorem xor_op (a:Nat)(x:Fx)(i:Fi)(w:World)(h:Bx w a x)(ha:i.a<16)(hb:i.b<16)(hc:i.c<16)(hp:x.p≤1000000):
 Calls Tryz.prog 92 #[.agg #[.int .u8 i.op,.int .i64 i.a,.int .i64 i.b,.int .i64 i.c,.int .u64 i.i],.pointer (some ⟨a,0,none⟩)] w fun r w'=>r=.returned (.tuple #[])∧Bo1 a (x.lay i.a (bits .xor .u64 (x.r i.b) (x.r i.c))) w w':=by
 have hne:¬w.heap.size=a:=by have:=h.lt;omega
 have hx:=ζ h;clear h;go_enter Tryz.func92,Tryz.ntmps92;go_upto_region 1 with fail
 refine wp_world (fun W=>At W w.heap.size i.w∧Gr w W) ⟨At.new w _ _,(Gr.refl _).alloc _⟩ ?_;rintro W ⟨hA,G⟩;generalize w.heap.size=kb at*;replace hA:=ζ hA;have KS:=xk1 i kb;have g0:Gr W W.drew:=(Gr.refl W).drew;refine wp_region_held_drew (S:=(fun W=>W.rangeAt kb 0 (Fi.vals i)∧W.cell? ⟨kb,1,none⟩=some (.int .i64 i.a)∧W.cell? ⟨kb,3,none⟩=some (.int .i64 i.c)∧W.cell? ⟨kb,4,none⟩=some (.int .u64 i.i))) (by kernel_rfl) (KS.out _ (hA.out.gr g0)) (fun hHeld=>?_);refine xz 0 rfl (h:=xz 1 rfl (h:=xz 2 rfl (h:=xz 3 rfl (h:=?_))));try simp only[xap]
 refine xtk 4 rfl (yieldsIf_load_mid (by rfl) _ _ rfl _ _ rfl _ _ (fun _ h=>h.1) Tryz.underlying128 rfl (by kernel_rfl)) ?_;try simp only[xap]
 refine xz 6 rfl (h:=?_);try simp only[xap]
 refine xtk 7 rfl (yieldsIf_load_mid (by rfl) _ _ rfl _ _ rfl _ _ (fun _ h=>h.1) Tryz.underlying128 rfl (by kernel_rfl)) ?_;try simp only[xap]
 refine xrd 5 rfl (fun K hK=>?_);go_simp;go_wp2_with(refine(b_any a x i _ ((hx.out.gr G).gr g0) hb).mono ?_;rintro r V1 ⟨rfl,gg⟩;have g1:=g0.trans gg;clear gg g0 hHeld);refine hK.out _ _ (KS.out _ (hA.out.gr g1)) (fun hHeld=>?_);clear hK K;try simp only[xap]
 refine xrd 8 rfl (fun K hK=>?_);go_simp;go_wp2_with(refine(c_any a x i _ ((hx.out.gr G).gr g1) hc).mono ?_;rintro r V2 ⟨rfl,gg⟩;have g2:=g1.trans gg;clear gg g1 hHeld);refine hK.out _ _ (KS.out _ (hA.out.gr g2)) (fun hHeld=>?_);clear hK K;try simp only[xap]
 refine xz 9 rfl (h:=?_);try simp only[xap]
 refine xrd 10 rfl (fun K hK=>?_);go_simp;go_wp2_with(refine(lay_any a x i.a _ _ ((hx.out.gr G).gr g2) ha hp).mono ?_;rintro r V9 ⟨rfl,hB⟩;clear hHeld);refine hK.out _ _ (KS.out _ (T.at_kp (hA.out.gr g2) hB.2 hne)) (fun hHeld=>?_);clear hK K;try simp only[xap]
 refine xdn ?_ _;clear hHeld;go_wp2_with fail
 first|go_end0|((try simp only[Exit.inBlock,Exit.then]);refine xre ?_)
 exact⟨rfl,hB.after (G.trans g2)⟩
theorem shl_op (a:Nat)(x:Fx)(i:Fi)(w:World)(h:Bx w a x)(ha:i.a<16)(hb:i.b<16)(hc:i.c<16)(hp:x.p≤1000000)(hn:0≤x.r i.c):
 Calls Tryz.prog 93 #[.agg #[.int .u8 i.op,.int .i64 i.a,.int .i64 i.b,.int .i64 i.c,.int .u64 i.i],.pointer (some ⟨a,0,none⟩)] w fun r w'=>r=.returned (.tuple #[])∧Bo1 a (x.lay i.a (IntKind.u64.wrap (x.r i.b*2^min ((x.r i.c).tmod 64).toNat 64))) w w':=by
 have ht:0≤(x.r i.c).tmod 64:=Int.tmod_nonneg 64 hn;have hne:¬w.heap.size=a:=by have:=h.lt;omega
 have hx:=ζ h;clear h;go_enter Tryz.func93,Tryz.ntmps93;go_upto_region 1 with fail
 refine wp_world (fun W=>At W w.heap.size i.w∧Gr w W) ⟨At.new w _ _,(Gr.refl _).alloc _⟩ ?_;rintro W ⟨hA,G⟩;generalize w.heap.size=kb at*;replace hA:=ζ hA;have KS:=xk1 i kb;have g0:Gr W W.drew:=(Gr.refl W).drew;refine wp_region_held_drew (S:=(fun W=>W.rangeAt kb 0 (Fi.vals i)∧W.cell? ⟨kb,1,none⟩=some (.int .i64 i.a)∧W.cell? ⟨kb,3,none⟩=some (.int .i64 i.c)∧W.cell? ⟨kb,4,none⟩=some (.int .u64 i.i))) (by kernel_rfl) (KS.out _ (hA.out.gr g0)) (fun hHeld=>?_);refine xz 0 rfl (h:=xz 1 rfl (h:=xz 2 rfl (h:=xz 3 rfl (h:=?_))));try simp only[xap]
 refine xtk 4 rfl (yieldsIf_load_mid (by rfl) _ _ rfl _ _ rfl _ _ (fun _ h=>h.1) Tryz.underlying128 rfl (by kernel_rfl)) ?_;try simp only[xap]
 refine xz 6 rfl (h:=?_);try simp only[xap]
 refine xtk 7 rfl (yieldsIf_load_mid (by rfl) _ _ rfl _ _ rfl _ _ (fun _ h=>h.1) Tryz.underlying128 rfl (by kernel_rfl)) ?_;try simp only[xap]
 refine xrd 5 rfl (fun K hK=>?_);go_simp;go_wp2_with(refine(b_any a x i _ ((hx.out.gr G).gr g0) hb).mono ?_;rintro r V1 ⟨rfl,gg⟩;have g1:=g0.trans gg;clear gg g0 hHeld);refine hK.out _ _ (KS.out _ (hA.out.gr g1)) (fun hHeld=>?_);clear hK K;try simp only[xap]
 refine xrd 8 rfl (fun K hK=>?_);go_simp;go_wp2_with(refine(c_any a x i _ ((hx.out.gr G).gr g1) hc).mono ?_;rintro r V2 ⟨rfl,gg⟩;have g2:=g1.trans gg;clear gg g1 hHeld);refine hK.out _ _ (KS.out _ (hA.out.gr g2)) (fun hHeld=>?_);clear hK K;try simp only[xap]
 refine xz 9 rfl (h:=xz 10 rfl (h:=?_));try simp only[xap]
 refine xrd 11 rfl (fun K hK=>?_);go_simp;go_wp2_with(refine(lay_any a x i.a _ _ ((hx.out.gr G).gr g2) ha hp).mono ?_;rintro r V9 ⟨rfl,hB⟩;clear hHeld);refine hK.out _ _ (KS.out _ (T.at_kp (hA.out.gr g2) hB.2 hne)) (fun hHeld=>?_);clear hK K;try simp only[xap]
 refine xdn ?_ _;clear hHeld;go_wp2_with fail
 first|go_end0|((try simp only[Exit.inBlock,Exit.then]);refine xre ?_)
 exact⟨rfl,hB.after (G.trans g2)⟩
theorem shr_op (a:Nat)(x:Fx)(i:Fi)(w:World)(h:Bx w a x)(ha:i.a<16)(hb:i.b<16)(hc:i.c<16)(hp:x.p≤1000000)(hn:0≤x.r i.c):
 Calls Tryz.prog 94 #[.agg #[.int .u8 i.op,.int .i64 i.a,.int .i64 i.b,.int .i64 i.c,.int .u64 i.i],.pointer (some ⟨a,0,none⟩)] w fun r w'=>r=.returned (.tuple #[])∧Bo1 a (x.lay i.a (x.r i.b/2^min ((x.r i.c).tmod 64).toNat 64)) w w':=by
 have ht:0≤(x.r i.c).tmod 64:=Int.tmod_nonneg 64 hn;have hne:¬w.heap.size=a:=by have:=h.lt;omega
 have hx:=ζ h;clear h;go_enter Tryz.func94,Tryz.ntmps94;go_upto_region 1 with fail
 refine wp_world (fun W=>At W w.heap.size i.w∧Gr w W) ⟨At.new w _ _,(Gr.refl _).alloc _⟩ ?_;rintro W ⟨hA,G⟩;generalize w.heap.size=kb at*;replace hA:=ζ hA;have KS:=xk1 i kb;have g0:Gr W W.drew:=(Gr.refl W).drew;refine wp_region_held_drew (S:=(fun W=>W.rangeAt kb 0 (Fi.vals i)∧W.cell? ⟨kb,1,none⟩=some (.int .i64 i.a)∧W.cell? ⟨kb,3,none⟩=some (.int .i64 i.c)∧W.cell? ⟨kb,4,none⟩=some (.int .u64 i.i))) (by kernel_rfl) (KS.out _ (hA.out.gr g0)) (fun hHeld=>?_);refine xz 0 rfl (h:=xz 1 rfl (h:=xz 2 rfl (h:=xz 3 rfl (h:=?_))));try simp only[xap]
 refine xtk 4 rfl (yieldsIf_load_mid (by rfl) _ _ rfl _ _ rfl _ _ (fun _ h=>h.1) Tryz.underlying128 rfl (by kernel_rfl)) ?_;try simp only[xap]
 refine xz 6 rfl (h:=?_);try simp only[xap]
 refine xtk 7 rfl (yieldsIf_load_mid (by rfl) _ _ rfl _ _ rfl _ _ (fun _ h=>h.1) Tryz.underlying128 rfl (by kernel_rfl)) ?_;try simp only[xap]
 refine xrd 5 rfl (fun K hK=>?_);go_simp;go_wp2_with(refine(b_any a x i _ ((hx.out.gr G).gr g0) hb).mono ?_;rintro r V1 ⟨rfl,gg⟩;have g1:=g0.trans gg;clear gg g0 hHeld);refine hK.out _ _ (KS.out _ (hA.out.gr g1)) (fun hHeld=>?_);clear hK K;try simp only[xap]
 refine xrd 8 rfl (fun K hK=>?_);go_simp;go_wp2_with(refine(c_any a x i _ ((hx.out.gr G).gr g1) hc).mono ?_;rintro r V2 ⟨rfl,gg⟩;have g2:=g1.trans gg;clear gg g1 hHeld);refine hK.out _ _ (KS.out _ (hA.out.gr g2)) (fun hHeld=>?_);clear hK K;try simp only[xap]
 refine xz 9 rfl (h:=xz 10 rfl (h:=?_));try simp only[xap]
 refine xrd 11 rfl (fun K hK=>?_);go_simp;go_wp2_with(refine(lay_any a x i.a _ _ ((hx.out.gr G).gr g2) ha hp).mono ?_;rintro r V9 ⟨rfl,hB⟩;clear hHeld);refine hK.out _ _ (KS.out _ (T.at_kp (hA.out.gr g2) hB.2 hne)) (fun hHeld=>?_);clear hK K;try simp only[xap]
 refine xdn ?_ _;clear hHeld;go_wp2_with fail
 first|go_end0|((try simp only[Exit.inBlock,Exit.then]);refine xre ?_)
 exact⟨rfl,hB.after (G.trans g2)⟩
theorem li_op (a:Nat)(x:Fx)(i:Fi)(w:World)(h:Bx w a x)(ha:i.a<16)(hp:x.p≤1000000):
 Calls Tryz.prog 85 #[.agg #[.int .u8 i.op,.int .i64 i.a,.int .i64 i.b,.int .i64 i.c,.int .u64 i.i],.pointer (some ⟨a,0,none⟩)] w fun r w'=>r=.returned (.tuple #[])∧Bo1 a (x.lay i.a (i.i)) w w':=by
 have hne:¬w.heap.size=a:=by have:=h.lt;omega
 have hx:=ζ h;clear h;go_enter Tryz.func85,Tryz.ntmps85;go_upto_region 1 with fail
 refine wp_world (fun W=>At W w.heap.size i.w∧Gr w W) ⟨At.new w _ _,(Gr.refl _).alloc _⟩ ?_;rintro W ⟨hA,G⟩;generalize w.heap.size=kb at*;replace hA:=ζ hA;have KS:=xk1 i kb;have q1:W.cell? ⟨kb,1,none⟩=some (.int .i64 i.a):=hA.out.2.1 1;have q4:W.cell? ⟨kb,4,none⟩=some (.int .u64 i.i):=hA.out.2.1 4;go_wp2_with fail;refine(lay_any a x i.a i.i _ (hx.out.gr G) ha hp).mono ?_;rintro r V9 ⟨rfl,hB⟩;replace hB:=ζ hB;go_wp2_with fail
 first|go_end0|((try simp only[Exit.inBlock,Exit.then]);refine xre ?_)
 exact⟨rfl,hB.out.after G⟩
theorem nop_op (a:Nat)(x:Fx)(i:Fi)(w:World)(h:Bx w a x)(hp:x.p≤1000000):
 Calls Tryz.prog 98 #[.agg #[.int .u8 i.op,.int .i64 i.a,.int .i64 i.b,.int .i64 i.c,.int .u64 i.i],.pointer (some ⟨a,0,none⟩)] w fun r w'=>r=.returned (.tuple #[])∧Bo1 a x.next w w':=by
 have hne:¬w.heap.size=a:=by have:=h.lt;omega
 have hx:=ζ h;clear h;go_enter Tryz.func98,Tryz.ntmps98;go_upto_region 1 with fail
 refine wp_world (fun W=>At W w.heap.size i.w∧Gr w W) ⟨At.new w _ _,(Gr.refl _).alloc _⟩ ?_;rintro W ⟨hA,G⟩;generalize w.heap.size=kb at*;replace hA:=ζ hA;have KS:=xk1 i kb;go_wp2_with fail;refine(next_any a x _ (hx.out.gr G) hp).mono ?_;rintro r V9 ⟨rfl,hB⟩;replace hB:=ζ hB;go_wp2_with fail
 first|go_end0|((try simp only[Exit.inBlock,Exit.then]);refine xre ?_)
 exact⟨rfl,hB.out.after G⟩
theorem slt_op (a:Nat)(x:Fx)(i:Fi)(w:World)(h:Bx w a x)(ha:i.a<16)(hb:i.b<16)(hc:i.c<16)(hp:x.p≤1000000):
 Calls Tryz.prog 96 #[.agg #[.int .u8 i.op,.int .i64 i.a,.int .i64 i.b,.int .i64 i.c,.int .u64 i.i],.pointer (some ⟨a,0,none⟩)] w fun r w'=>r=.returned (.tuple #[])∧Bo1 a (x.lay i.a (if x.r i.b<x.r i.c then 1 else 0)) w w':=by
 by_cases hq:x.r i.b<x.r i.c
 ·rw[if_pos hq];have hne:¬w.heap.size=a:=by have:=h.lt;omega
  have hx:=ζ h;clear h;go_enter Tryz.func96,Tryz.ntmps96;go_upto_region 1 with fail
  refine wp_world (fun W=>At W w.heap.size i.w∧Gr w W) ⟨At.new w _ _,(Gr.refl _).alloc _⟩ ?_;rintro W ⟨hA,G⟩;generalize w.heap.size=kb at*;replace hA:=ζ hA;have KS:=xk1 i kb;have g0:Gr W W.drew:=(Gr.refl W).drew;refine wp_region_held_drew (S:=(fun W=>W.rangeAt kb 0 (Fi.vals i)∧W.cell? ⟨kb,1,none⟩=some (.int .i64 i.a)∧W.cell? ⟨kb,3,none⟩=some (.int .i64 i.c)∧W.cell? ⟨kb,4,none⟩=some (.int .u64 i.i))) (by kernel_rfl) (KS.out _ (hA.out.gr g0)) (fun hHeld=>?_);refine xz 0 rfl (h:=xz 1 rfl (h:=xz 2 rfl (h:=xz 3 rfl (h:=?_))));try simp only[xap]
  refine xtk 4 rfl (yieldsIf_load_mid (by rfl) _ _ rfl _ _ rfl _ _ (fun _ h=>h.1) Tryz.underlying128 rfl (by kernel_rfl)) ?_;try simp only[xap]
  refine xz 6 rfl (h:=?_);try simp only[xap]
  refine xtk 7 rfl (yieldsIf_load_mid (by rfl) _ _ rfl _ _ rfl _ _ (fun _ h=>h.1) Tryz.underlying128 rfl (by kernel_rfl)) ?_;try simp only[xap]
  refine xrd 5 rfl (fun K hK=>?_);go_simp;go_wp2_with(refine(b_any a x i _ ((hx.out.gr G).gr g0) hb).mono ?_;rintro r V1 ⟨rfl,gg⟩;have g1:=g0.trans gg;clear gg g0 hHeld);refine hK.out _ _ (KS.out _ (hA.out.gr g1)) (fun hHeld=>?_);clear hK K;try simp only[xap]
  refine xrd 8 rfl (fun K hK=>?_);go_simp;go_wp2_with(refine(c_any a x i _ ((hx.out.gr G).gr g1) hc).mono ?_;rintro r V2 ⟨rfl,gg⟩;have g2:=g1.trans gg;clear gg g1 hHeld);refine hK.out _ _ (KS.out _ (hA.out.gr g2)) (fun hHeld=>?_);clear hK K;try simp only[xap]
  refine xz 9 rfl (h:=?_);try simp only[xap]
  refine xrd 10 rfl (fun K hK=>?_);go_simp;go_wp2_with(refine(told_any _ _).mono ?_;rintro r V3 ⟨rfl,e1⟩;subst e1;have g3:=g2;clear g2 hHeld);refine hK.out _ _ (KS.out _ (hA.out.gr g3)) (fun hHeld=>?_);clear hK K;try simp only[xap]
  refine xrd 11 rfl (fun K hK=>?_);go_simp;go_wp2_with(refine(lay_any a x i.a _ _ ((hx.out.gr G).gr g3) ha hp).mono ?_;rintro r V9 ⟨rfl,hB⟩;clear hHeld);refine hK.out _ _ (KS.out _ (T.at_kp (hA.out.gr g3) hB.2 hne)) (fun hHeld=>?_);clear hK K;try simp only[xap]
  refine xdn ?_ _;clear hHeld;go_wp2_with fail
  first|go_end0|((try simp only[Exit.inBlock,Exit.then]);refine xre ?_)
  exact⟨rfl,hB.after (G.trans g3)⟩
 ·rw[if_neg hq];have hne:¬w.heap.size=a:=by have:=h.lt;omega
  have hx:=ζ h;clear h;go_enter Tryz.func96,Tryz.ntmps96;go_upto_region 1 with fail
  refine wp_world (fun W=>At W w.heap.size i.w∧Gr w W) ⟨At.new w _ _,(Gr.refl _).alloc _⟩ ?_;rintro W ⟨hA,G⟩;generalize w.heap.size=kb at*;replace hA:=ζ hA;have KS:=xk1 i kb;have g0:Gr W W.drew:=(Gr.refl W).drew;refine wp_region_held_drew (S:=(fun W=>W.rangeAt kb 0 (Fi.vals i)∧W.cell? ⟨kb,1,none⟩=some (.int .i64 i.a)∧W.cell? ⟨kb,3,none⟩=some (.int .i64 i.c)∧W.cell? ⟨kb,4,none⟩=some (.int .u64 i.i))) (by kernel_rfl) (KS.out _ (hA.out.gr g0)) (fun hHeld=>?_);refine xz 0 rfl (h:=xz 1 rfl (h:=xz 2 rfl (h:=xz 3 rfl (h:=?_))));try simp only[xap]
  refine xtk 4 rfl (yieldsIf_load_mid (by rfl) _ _ rfl _ _ rfl _ _ (fun _ h=>h.1) Tryz.underlying128 rfl (by kernel_rfl)) ?_;try simp only[xap]
  refine xz 6 rfl (h:=?_);try simp only[xap]
  refine xtk 7 rfl (yieldsIf_load_mid (by rfl) _ _ rfl _ _ rfl _ _ (fun _ h=>h.1) Tryz.underlying128 rfl (by kernel_rfl)) ?_;try simp only[xap]
  refine xrd 5 rfl (fun K hK=>?_);go_simp;go_wp2_with(refine(b_any a x i _ ((hx.out.gr G).gr g0) hb).mono ?_;rintro r V1 ⟨rfl,gg⟩;have g1:=g0.trans gg;clear gg g0 hHeld);refine hK.out _ _ (KS.out _ (hA.out.gr g1)) (fun hHeld=>?_);clear hK K;try simp only[xap]
  refine xrd 8 rfl (fun K hK=>?_);go_simp;go_wp2_with(refine(c_any a x i _ ((hx.out.gr G).gr g1) hc).mono ?_;rintro r V2 ⟨rfl,gg⟩;have g2:=g1.trans gg;clear gg g1 hHeld);refine hK.out _ _ (KS.out _ (hA.out.gr g2)) (fun hHeld=>?_);clear hK K;try simp only[xap]
  refine xz 9 rfl (h:=?_);try simp only[xap]
  refine xrd 10 rfl (fun K hK=>?_);go_simp;go_wp2_with(refine(told_any _ _).mono ?_;rintro r V3 ⟨rfl,e1⟩;subst e1;have g3:=g2;clear g2 hHeld);refine hK.out _ _ (KS.out _ (hA.out.gr g3)) (fun hHeld=>?_);clear hK K;try simp only[xap]
  refine xrd 11 rfl (fun K hK=>?_);go_simp;go_wp2_with(refine(lay_any a x i.a _ _ ((hx.out.gr G).gr g3) ha hp).mono ?_;rintro r V9 ⟨rfl,hB⟩;clear hHeld);refine hK.out _ _ (KS.out _ (T.at_kp (hA.out.gr g3) hB.2 hne)) (fun hHeld=>?_);clear hK K;try simp only[xap]
  refine xdn ?_ _;clear hHeld;go_wp2_with fail
  first|go_end0|((try simp only[Exit.inBlock,Exit.then]);refine xre ?_)
  exact⟨rfl,hB.after (G.trans g3)⟩
theorem seq_op (a:Nat)(x:Fx)(i:Fi)(w:World)(h:Bx w a x)(ha:i.a<16)(hb:i.b<16)(hc:i.c<16)(hp:x.p≤1000000):
 Calls Tryz.prog 97 #[.agg #[.int .u8 i.op,.int .i64 i.a,.int .i64 i.b,.int .i64 i.c,.int .u64 i.i],.pointer (some ⟨a,0,none⟩)] w fun r w'=>r=.returned (.tuple #[])∧Bo1 a (x.lay i.a (if x.r i.b=x.r i.c then 1 else 0)) w w':=by
 by_cases hq:x.r i.b=x.r i.c
 ·rw[if_pos hq];have hq2:(x.r i.b==x.r i.c)=true:=by simpa using hq
  replace hq:=ζ hq;have hne:¬w.heap.size=a:=by have:=h.lt;omega
  have hx:=ζ h;clear h;go_enter Tryz.func97,Tryz.ntmps97;go_upto_region 1 with fail
  refine wp_world (fun W=>At W w.heap.size i.w∧Gr w W) ⟨At.new w _ _,(Gr.refl _).alloc _⟩ ?_;rintro W ⟨hA,G⟩;generalize w.heap.size=kb at*;replace hA:=ζ hA;have KS:=xk1 i kb;have g0:Gr W W.drew:=(Gr.refl W).drew;refine wp_region_held_drew (S:=(fun W=>W.rangeAt kb 0 (Fi.vals i)∧W.cell? ⟨kb,1,none⟩=some (.int .i64 i.a)∧W.cell? ⟨kb,3,none⟩=some (.int .i64 i.c)∧W.cell? ⟨kb,4,none⟩=some (.int .u64 i.i))) (by kernel_rfl) (KS.out _ (hA.out.gr g0)) (fun hHeld=>?_);refine xz 0 rfl (h:=xz 1 rfl (h:=xz 2 rfl (h:=xz 3 rfl (h:=?_))));try simp only[xap]
  refine xtk 4 rfl (yieldsIf_load_mid (by rfl) _ _ rfl _ _ rfl _ _ (fun _ h=>h.1) Tryz.underlying128 rfl (by kernel_rfl)) ?_;try simp only[xap]
  refine xz 6 rfl (h:=?_);try simp only[xap]
  refine xtk 7 rfl (yieldsIf_load_mid (by rfl) _ _ rfl _ _ rfl _ _ (fun _ h=>h.1) Tryz.underlying128 rfl (by kernel_rfl)) ?_;try simp only[xap]
  refine xrd 5 rfl (fun K hK=>?_);go_simp;go_wp2_with(refine(b_any a x i _ ((hx.out.gr G).gr g0) hb).mono ?_;rintro r V1 ⟨rfl,gg⟩;have g1:=g0.trans gg;clear gg g0 hHeld);refine hK.out _ _ (KS.out _ (hA.out.gr g1)) (fun hHeld=>?_);clear hK K;try simp only[xap]
  refine xrd 8 rfl (fun K hK=>?_);go_simp;go_wp2_with(refine(c_any a x i _ ((hx.out.gr G).gr g1) hc).mono ?_;rintro r V2 ⟨rfl,gg⟩;have g2:=g1.trans gg;clear gg g1 hHeld);refine hK.out _ _ (KS.out _ (hA.out.gr g2)) (fun hHeld=>?_);clear hK K;try simp only[xap]
  refine xz 9 rfl (h:=?_);try simp only[xap]
  refine xrd 10 rfl (fun K hK=>?_);go_simp;go_wp2_with(refine(told_any _ _).mono ?_;rintro r V3 ⟨rfl,e1⟩;subst e1;have g3:=g2;clear g2 hHeld);refine hK.out _ _ (KS.out _ (hA.out.gr g3)) (fun hHeld=>?_);clear hK K;try simp only[xap]
  refine xrd 11 rfl (fun K hK=>?_);go_simp;go_wp2_with(refine(lay_any a x i.a _ _ ((hx.out.gr G).gr g3) ha hp).mono ?_;rintro r V9 ⟨rfl,hB⟩;clear hHeld);refine hK.out _ _ (KS.out _ (T.at_kp (hA.out.gr g3) hB.2 hne)) (fun hHeld=>?_);clear hK K;try simp only[xap]
  refine xdn ?_ _;clear hHeld;go_wp2_with fail
  first|go_end0|((try simp only[Exit.inBlock,Exit.then]);refine xre ?_)
  exact⟨rfl,hB.after (G.trans g3)⟩
 ·rw[if_neg hq];have hq2:(x.r i.b==x.r i.c)=false:=by simpa using hq
  replace hq:=ζ hq;have hne:¬w.heap.size=a:=by have:=h.lt;omega
  have hx:=ζ h;clear h;go_enter Tryz.func97,Tryz.ntmps97;go_upto_region 1 with fail
  refine wp_world (fun W=>At W w.heap.size i.w∧Gr w W) ⟨At.new w _ _,(Gr.refl _).alloc _⟩ ?_;rintro W ⟨hA,G⟩;generalize w.heap.size=kb at*;replace hA:=ζ hA;have KS:=xk1 i kb;have g0:Gr W W.drew:=(Gr.refl W).drew;refine wp_region_held_drew (S:=(fun W=>W.rangeAt kb 0 (Fi.vals i)∧W.cell? ⟨kb,1,none⟩=some (.int .i64 i.a)∧W.cell? ⟨kb,3,none⟩=some (.int .i64 i.c)∧W.cell? ⟨kb,4,none⟩=some (.int .u64 i.i))) (by kernel_rfl) (KS.out _ (hA.out.gr g0)) (fun hHeld=>?_);refine xz 0 rfl (h:=xz 1 rfl (h:=xz 2 rfl (h:=xz 3 rfl (h:=?_))));try simp only[xap]
  refine xtk 4 rfl (yieldsIf_load_mid (by rfl) _ _ rfl _ _ rfl _ _ (fun _ h=>h.1) Tryz.underlying128 rfl (by kernel_rfl)) ?_;try simp only[xap]
  refine xz 6 rfl (h:=?_);try simp only[xap]
  refine xtk 7 rfl (yieldsIf_load_mid (by rfl) _ _ rfl _ _ rfl _ _ (fun _ h=>h.1) Tryz.underlying128 rfl (by kernel_rfl)) ?_;try simp only[xap]
  refine xrd 5 rfl (fun K hK=>?_);go_simp;go_wp2_with(refine(b_any a x i _ ((hx.out.gr G).gr g0) hb).mono ?_;rintro r V1 ⟨rfl,gg⟩;have g1:=g0.trans gg;clear gg g0 hHeld);refine hK.out _ _ (KS.out _ (hA.out.gr g1)) (fun hHeld=>?_);clear hK K;try simp only[xap]
  refine xrd 8 rfl (fun K hK=>?_);go_simp;go_wp2_with(refine(c_any a x i _ ((hx.out.gr G).gr g1) hc).mono ?_;rintro r V2 ⟨rfl,gg⟩;have g2:=g1.trans gg;clear gg g1 hHeld);refine hK.out _ _ (KS.out _ (hA.out.gr g2)) (fun hHeld=>?_);clear hK K;try simp only[xap]
  refine xz 9 rfl (h:=?_);try simp only[xap]
  refine xrd 10 rfl (fun K hK=>?_);go_simp;go_wp2_with(refine(told_any _ _).mono ?_;rintro r V3 ⟨rfl,e1⟩;subst e1;have g3:=g2;clear g2 hHeld);refine hK.out _ _ (KS.out _ (hA.out.gr g3)) (fun hHeld=>?_);clear hK K;try simp only[xap]
  refine xrd 11 rfl (fun K hK=>?_);go_simp;go_wp2_with(refine(lay_any a x i.a _ _ ((hx.out.gr G).gr g3) ha hp).mono ?_;rintro r V9 ⟨rfl,hB⟩;clear hHeld);refine hK.out _ _ (KS.out _ (T.at_kp (hA.out.gr g3) hB.2 hne)) (fun hHeld=>?_);clear hK K;try simp only[xap]
  refine xdn ?_ _;clear hHeld;go_wp2_with fail
  first|go_end0|((try simp only[Exit.inBlock,Exit.then]);refine xre ?_)
  exact⟨rfl,hB.after (G.trans g3)⟩
theorem mov_op (a:Nat)(x:Fx)(i:Fi)(w:World)(h:Bx w a x)(ha:i.a<16)(hb:i.b<16)(hp:x.p≤1000000):
 Calls Tryz.prog 86 #[.agg #[.int .u8 i.op,.int .i64 i.a,.int .i64 i.b,.int .i64 i.c,.int .u64 i.i],.pointer (some ⟨a,0,none⟩)] w fun r w'=>r=.returned (.tuple #[])∧Bo1 a (x.lay i.a (x.r i.b)) w w':=by
 have hne:¬w.heap.size=a:=by have:=h.lt;omega
 have hx:=ζ h;clear h;go_enter Tryz.func86,Tryz.ntmps86;go_upto_region 1 with fail
 refine wp_world (fun W=>At W w.heap.size i.w∧Gr w W) ⟨At.new w _ _,(Gr.refl _).alloc _⟩ ?_;rintro W ⟨hA,G⟩;generalize w.heap.size=kb at*;replace hA:=ζ hA;have KS:=xk1 i kb;have g0:Gr W W.drew:=(Gr.refl W).drew;refine wp_region_held_drew (S:=(fun W=>W.rangeAt kb 0 (Fi.vals i)∧W.cell? ⟨kb,1,none⟩=some (.int .i64 i.a)∧W.cell? ⟨kb,3,none⟩=some (.int .i64 i.c)∧W.cell? ⟨kb,4,none⟩=some (.int .u64 i.i))) (by kernel_rfl) (KS.out _ (hA.out.gr g0)) (fun hHeld=>?_);refine xz 0 rfl (h:=xz 1 rfl (h:=xz 2 rfl (h:=xz 3 rfl (h:=?_))));try simp only[xap]
 refine xtk 4 rfl (yieldsIf_load_mid (by rfl) _ _ rfl _ _ rfl _ _ (fun _ h=>h.1) Tryz.underlying128 rfl (by kernel_rfl)) ?_;try simp only[xap]
 refine xrd 5 rfl (fun K hK=>?_);go_simp;go_wp2_with(refine(b_any a x i _ ((hx.out.gr G).gr g0) hb).mono ?_;rintro r V1 ⟨rfl,gg⟩;have g1:=g0.trans gg;clear gg g0 hHeld);refine hK.out _ _ (KS.out _ (hA.out.gr g1)) (fun hHeld=>?_);clear hK K;try simp only[xap]
 refine xrd 6 rfl (fun K hK=>?_);go_simp;go_wp2_with(refine(lay_any a x i.a _ _ ((hx.out.gr G).gr g1) ha hp).mono ?_;rintro r V9 ⟨rfl,hB⟩;clear hHeld);refine hK.out _ _ (KS.out _ (T.at_kp (hA.out.gr g1) hB.2 hne)) (fun hHeld=>?_);clear hK K;try simp only[xap]
 refine xdn ?_ _;clear hHeld;go_wp2_with fail
 first|go_end0|((try simp only[Exit.inBlock,Exit.then]);refine xre ?_)
 exact⟨rfl,hB.after (G.trans g1)⟩
theorem addi_op (a:Nat)(x:Fx)(i:Fi)(w:World)(h:Bx w a x)(ha:i.a<16)(hb:i.b<16)(hp:x.p≤1000000):
 Calls Tryz.prog 95 #[.agg #[.int .u8 i.op,.int .i64 i.a,.int .i64 i.b,.int .i64 i.c,.int .u64 i.i],.pointer (some ⟨a,0,none⟩)] w fun r w'=>r=.returned (.tuple #[])∧Bo1 a (x.lay i.a (IntKind.u64.wrap (x.r i.b+i.i))) w w':=by
 have hne:¬w.heap.size=a:=by have:=h.lt;omega
 have hx:=ζ h;clear h;go_enter Tryz.func95,Tryz.ntmps95;go_upto_region 1 with fail
 refine wp_world (fun W=>At W w.heap.size i.w∧Gr w W) ⟨At.new w _ _,(Gr.refl _).alloc _⟩ ?_;rintro W ⟨hA,G⟩;generalize w.heap.size=kb at*;replace hA:=ζ hA;have KS:=xk1 i kb;have g0:Gr W W.drew:=(Gr.refl W).drew;refine wp_region_held_drew (S:=(fun W=>W.rangeAt kb 0 (Fi.vals i)∧W.cell? ⟨kb,1,none⟩=some (.int .i64 i.a)∧W.cell? ⟨kb,3,none⟩=some (.int .i64 i.c)∧W.cell? ⟨kb,4,none⟩=some (.int .u64 i.i))) (by kernel_rfl) (KS.out _ (hA.out.gr g0)) (fun hHeld=>?_);refine xz 0 rfl (h:=xz 1 rfl (h:=xz 2 rfl (h:=xz 3 rfl (h:=?_))));try simp only[xap]
 refine xtk 4 rfl (yieldsIf_load_mid (by rfl) _ _ rfl _ _ rfl _ _ (fun _ h=>h.1) Tryz.underlying128 rfl (by kernel_rfl)) ?_;try simp only[xap]
 refine xz 6 rfl (h:=xz 7 rfl (h:=?_));try simp only[xap]
 refine xrd 5 rfl (fun K hK=>?_);go_simp;go_wp2_with(refine(b_any a x i _ ((hx.out.gr G).gr g0) hb).mono ?_;rintro r V1 ⟨rfl,gg⟩;have g1:=g0.trans gg;clear gg g0 hHeld);refine hK.out _ _ (KS.out _ (hA.out.gr g1)) (fun hHeld=>?_);clear hK K;try simp only[xap]
 refine xz 8 rfl (h:=?_);try simp only[xap]
 refine xrd 9 rfl (fun K hK=>?_);go_simp;go_wp2_with(refine(lay_any a x i.a _ _ ((hx.out.gr G).gr g1) ha hp).mono ?_;rintro r V9 ⟨rfl,hB⟩;clear hHeld);refine hK.out _ _ (KS.out _ (T.at_kp (hA.out.gr g1) hB.2 hne)) (fun hHeld=>?_);clear hK K;try simp only[xap]
 refine xdn ?_ _;clear hHeld;go_wp2_with fail
 first|go_end0|((try simp only[Exit.inBlock,Exit.then]);refine xre ?_)
 exact⟨rfl,hB.after (G.trans g1)⟩
theorem trap_op (a:Nat)(x:Fx)(i:Fi)(w:World)(h:Bx w a x):
 Calls Tryz.prog 105 #[.agg #[.int .u8 i.op,.int .i64 i.a,.int .i64 i.b,.int .i64 i.c,.int .u64 i.i],.pointer (some ⟨a,0,none⟩)] w fun r w'=>r=.returned (.tuple #[])∧Bo1 a (x.fin 3 i.i 0) w w':=by
 have hne:¬w.heap.size=a:=by have:=h.lt;omega
 have hx:=ζ h;clear h;go_enter Tryz.func105,Tryz.ntmps105;go_upto_region 1 with fail
 refine wp_world (fun W=>At W w.heap.size i.w∧Gr w W) ⟨At.new w _ _,(Gr.refl _).alloc _⟩ ?_;rintro W ⟨hA,G⟩;generalize w.heap.size=kb at*;replace hA:=ζ hA;have KS:=xk1 i kb;have q4:W.cell? ⟨kb,4,none⟩=some (.int .u64 i.i):=hA.out.2.1 4;go_wp2_with fail;refine(finish_any a x 3 i.i _ (hx.out.gr G)).mono ?_;rintro r V9 ⟨rfl,hB⟩;replace hB:=ζ hB;go_wp2_with fail
 first|go_end0|((try simp only[Exit.inBlock,Exit.then]);refine xre ?_)
 exact⟨rfl,hB.out.after G⟩
theorem halt_op (a:Nat)(x:Fx)(i:Fi)(w:World)(h:Bx w a x)(ha:i.a<16):
 Calls Tryz.prog 104 #[.agg #[.int .u8 i.op,.int .i64 i.a,.int .i64 i.b,.int .i64 i.c,.int .u64 i.i],.pointer (some ⟨a,0,none⟩)] w fun r w'=>r=.returned (.tuple #[])∧Bo1 a (x.fin 1 (x.r i.a) 0) w w':=by
 have hne:¬w.heap.size=a:=by have:=h.lt;omega
 have hx:=ζ h;clear h;go_enter Tryz.func104,Tryz.ntmps104;go_upto_region 1 with fail
 refine wp_world (fun W=>At W w.heap.size i.w∧Gr w W) ⟨At.new w _ _,(Gr.refl _).alloc _⟩ ?_;rintro W ⟨hA,G⟩;generalize w.heap.size=kb at*;replace hA:=ζ hA;have KS:=xk1 i kb;have q0:W.cell? ⟨kb,0,none⟩=some (.int .u8 i.op):=hA.out.2.1 0;have q1:W.cell? ⟨kb,1,none⟩=some (.int .i64 i.a):=hA.out.2.1 1;have q2:W.cell? ⟨kb,2,none⟩=some (.int .i64 i.b):=hA.out.2.1 2;have q3:W.cell? ⟨kb,3,none⟩=some (.int .i64 i.c):=hA.out.2.1 3;have q4:W.cell? ⟨kb,4,none⟩=some (.int .u64 i.i):=hA.out.2.1 4;go_wp2_with fail;refine(a_any a x i _ (hx.out.gr G) ha).mono ?_;rintro r V1 ⟨rfl,g1⟩;go_wp2_with fail;refine(finish_any a x 1 _ _ ((hx.out.gr G).gr g1)).mono ?_;rintro r V9 ⟨rfl,hB⟩;replace hB:=ζ hB;go_wp2_with fail
 first|go_end0|((try simp only[Exit.inBlock,Exit.then]);refine xre ?_)
 exact⟨rfl,hB.out.after (G.trans g1)⟩
theorem demand_any (a:Nat)(x:Fx)(i:Fi)(w:World)(h:Bx w a x)(ok:Bool)(hp:x.p≤1000000):
 Calls Tryz.prog 132 #[.agg #[.int .u8 i.op,.int .i64 i.a,.int .i64 i.b,.int .i64 i.c,.int .u64 i.i],.pointer (some ⟨a,0,none⟩),.bool ok] w fun r w'=>r=.returned (.tuple #[])∧Bo1 a (x.dm ok (IntKind.u64.wrap i.c)) w w':=by
 cases ok
 ·have hne:¬w.heap.size=a:=by have:=h.lt;omega
  have hx:=ζ h;clear h;go_enter Tryz.func132,Tryz.ntmps132;go_upto_region 1 with fail
  refine wp_world (fun W=>At W w.heap.size i.w∧Gr w W) ⟨At.new w _ _,(Gr.refl _).alloc _⟩ ?_;rintro W ⟨hA,G⟩;generalize w.heap.size=kb at*;replace hA:=ζ hA;have KS:=xk1 i kb;have q3:W.cell? ⟨kb,3,none⟩=some (.int .i64 i.c):=hA.out.2.1 3;go_wp2_with fail;refine(finish_any a x 2 _ _ (hx.out.gr G)).mono ?_;rintro r V9 ⟨rfl,hB⟩;replace hB:=ζ hB;go_wp2_with fail
  first|go_end0|((try simp only[Exit.inBlock,Exit.then]);refine xre ?_)
  exact⟨rfl,hB.out.after G⟩
 ·have hne:¬w.heap.size=a:=by have:=h.lt;omega
  have hx:=ζ h;clear h;go_enter Tryz.func132,Tryz.ntmps132;go_upto_region 1 with fail
  refine wp_world (fun W=>At W w.heap.size i.w∧Gr w W) ⟨At.new w _ _,(Gr.refl _).alloc _⟩ ?_;rintro W ⟨hA,G⟩;generalize w.heap.size=kb at*;replace hA:=ζ hA;have KS:=xk1 i kb;go_wp2_with fail;refine(next_any a x _ (hx.out.gr G) hp).mono ?_;rintro r V9 ⟨rfl,hB⟩;replace hB:=ζ hB;go_wp2_with fail
  first|go_end0|((try simp only[Exit.inBlock,Exit.then]);refine xre ?_)
  exact⟨rfl,hB.out.after G⟩
theorem jmp_op (a:Nat)(x:Fx)(i:Fi)(w:World)(h:Bx w a x)(hj:0≤i.i∧i.i<1000):
 Calls Tryz.prog 99 #[.agg #[.int .u8 i.op,.int .i64 i.a,.int .i64 i.b,.int .i64 i.c,.int .u64 i.i],.pointer (some ⟨a,0,none⟩)] w fun r w'=>r=.returned (.tuple #[])∧Bo1 a {x with p:=i.i.toNat} w w':=by
 have hne:¬w.heap.size=a:=by have:=h.lt;omega
 have hx:=ζ h;clear h;go_enter Tryz.func99,Tryz.ntmps99;go_upto_region 1 with fail
 refine wp_world (fun W=>At W w.heap.size i.w∧Gr w W) ⟨At.new w _ _,(Gr.refl _).alloc _⟩ ?_;rintro W ⟨hA,G⟩;generalize w.heap.size=kb at*;replace hA:=ζ hA;have KS:=xk1 i kb;have q4:W.cell? ⟨kb,4,none⟩=some (.int .u64 i.i):=hA.out.2.1 4;have c5:W.cell? ⟨a,5,none⟩=some (.int .i64 x.p):=(hx.out.gr G).at_ 5 (by omega);have f5:=(hx.out.gr G).fr 5;have hlt:=(hx.out.gr G).lt;have e5:wrap64 i.i=i.i:=by unfold wrap64;omega
 have e6:((i.i.toNat:Nat):Int)=i.i:=by omega
 have hn:=ζ ((hx.out.gr G).pc i.i.toNat);rw[e6]at hn;replace e6:=ζ e6;replace hj:=ζ hj;go_wp2_with fail
 first|go_end0|((try simp only[Exit.inBlock,Exit.then]);refine xre ?_)
 exact⟨rfl,hn.out,(kp_set1 (Kp.ofGr G) 5 _)⟩
theorem branch_any (a:Nat)(x:Fx)(i:Fi)(w:World)(h:Bx w a x)(ok:Bool)(hp:x.p≤1000000)(hj:0≤i.i∧i.i<1000):
 Calls Tryz.prog 126 #[.agg #[.int .u8 i.op,.int .i64 i.a,.int .i64 i.b,.int .i64 i.c,.int .u64 i.i],.pointer (some ⟨a,0,none⟩),.bool ok] w fun r w'=>r=.returned (.tuple #[])∧Bo1 a (x.br ok i.i.toNat) w w':=by
 cases ok
 ·skip
  have hne:¬w.heap.size=a:=by have:=h.lt;omega
  have hx:=ζ h;clear h;go_enter Tryz.func126,Tryz.ntmps126;go_upto_region 1 with fail
  refine wp_world (fun W=>At W w.heap.size i.w∧Gr w W) ⟨At.new w _ _,(Gr.refl _).alloc _⟩ ?_;rintro W ⟨hA,G⟩;generalize w.heap.size=kb at*;replace hA:=ζ hA;have KS:=xk1 i kb;replace hj:=ζ hj;go_wp2_with fail;refine(next_any a x _ (hx.out.gr G) hp).mono ?_;rintro r V9 ⟨rfl,hB⟩;replace hB:=ζ hB;go_wp2_with fail
  first|go_end0|((try simp only[Exit.inBlock,Exit.then]);refine xre ?_)
  exact⟨rfl,hB.out.after G⟩
 ·skip
  have hne:¬w.heap.size=a:=by have:=h.lt;omega
  have hx:=ζ h;clear h;go_enter Tryz.func126,Tryz.ntmps126;go_upto_region 1 with fail
  refine wp_world (fun W=>At W w.heap.size i.w∧Gr w W) ⟨At.new w _ _,(Gr.refl _).alloc _⟩ ?_;rintro W ⟨hA,G⟩;generalize w.heap.size=kb at*;replace hA:=ζ hA;have KS:=xk1 i kb;have q0:W.cell? ⟨kb,0,none⟩=some (.int .u8 i.op):=hA.out.2.1 0;have q1:W.cell? ⟨kb,1,none⟩=some (.int .i64 i.a):=hA.out.2.1 1;have q2:W.cell? ⟨kb,2,none⟩=some (.int .i64 i.b):=hA.out.2.1 2;have q3:W.cell? ⟨kb,3,none⟩=some (.int .i64 i.c):=hA.out.2.1 3;have q4:W.cell? ⟨kb,4,none⟩=some (.int .u64 i.i):=hA.out.2.1 4;have hJ:=ζ (jmp_op a x i W (hx.out.gr G) hj);replace hj:=ζ hj;go_wp2_with fail;refine hJ.out.mono ?_;rintro r V9 ⟨rfl,hB⟩;replace hB:=ζ hB;go_wp2_with fail
  first|go_end0|((try simp only[Exit.inBlock,Exit.then]);refine xre ?_)
  exact⟨rfl,hB.out.after G⟩
theorem beq_op (a:Nat)(x:Fx)(i:Fi)(w:World)(h:Bx w a x)(ha:i.a<16)(hb:i.b<16)(hp:x.p≤1000000)(hj:0≤i.i∧i.i<1000):
 Calls Tryz.prog 100 #[.agg #[.int .u8 i.op,.int .i64 i.a,.int .i64 i.b,.int .i64 i.c,.int .u64 i.i],.pointer (some ⟨a,0,none⟩)] w fun r w'=>r=.returned (.tuple #[])∧Bo1 a (x.br ((x.r i.a==x.r i.b)) i.i.toNat) w w':=by
 replace hj:=ζ hj;have hne:¬w.heap.size=a:=by have:=h.lt;omega
 have hx:=ζ h;clear h;go_enter Tryz.func100,Tryz.ntmps100;go_upto_region 1 with fail
 refine wp_world (fun W=>At W w.heap.size i.w∧Gr w W) ⟨At.new w _ _,(Gr.refl _).alloc _⟩ ?_;rintro W ⟨hA,G⟩;generalize w.heap.size=kb at*;replace hA:=ζ hA;have KS:=xk1 i kb;have g0:Gr W W.drew:=(Gr.refl W).drew;refine wp_region_held_drew (S:=(fun W=>W.rangeAt kb 0 (Fi.vals i)∧W.cell? ⟨kb,1,none⟩=some (.int .i64 i.a)∧W.cell? ⟨kb,3,none⟩=some (.int .i64 i.c)∧W.cell? ⟨kb,4,none⟩=some (.int .u64 i.i))) (by kernel_rfl) (KS.out _ (hA.out.gr g0)) (fun hHeld=>?_);refine xtk 0 rfl (yieldsIf_load_mid (by rfl) _ _ rfl _ _ rfl _ _ (fun _ h=>h.1) Tryz.underlying128 rfl (by kernel_rfl)) ?_;try simp only[xap]
 refine xz 1 rfl (h:=xz 2 rfl (h:=?_));try simp only[xap]
 refine xtk 3 rfl (yieldsIf_load_mid (by rfl) _ _ rfl _ _ rfl _ _ (fun _ h=>h.1) Tryz.underlying128 rfl (by kernel_rfl)) ?_;try simp only[xap]
 refine xz 5 rfl (h:=?_);try simp only[xap]
 refine xtk 6 rfl (yieldsIf_load_mid (by rfl) _ _ rfl _ _ rfl _ _ (fun _ h=>h.1) Tryz.underlying128 rfl (by kernel_rfl)) ?_;try simp only[xap]
 refine xrd 4 rfl (fun K hK=>?_);go_simp;go_wp2_with(refine(a_any a x i _ ((hx.out.gr G).gr g0) ha).mono ?_;rintro r V1 ⟨rfl,gg⟩;have g1:=g0.trans gg;clear gg g0 hHeld);refine hK.out _ _ (KS.out _ (hA.out.gr g1)) (fun hHeld=>?_);clear hK K;try simp only[xap]
 refine xrd 7 rfl (fun K hK=>?_);go_simp;go_wp2_with(refine(b_any a x i _ ((hx.out.gr G).gr g1) hb).mono ?_;rintro r V2 ⟨rfl,gg⟩;have g2:=g1.trans gg;clear gg g1 hHeld);refine hK.out _ _ (KS.out _ (hA.out.gr g2)) (fun hHeld=>?_);clear hK K;try simp only[xap]
 refine xz 8 rfl (h:=?_);try simp only[xap]
 refine xrd 9 rfl (fun K hK=>?_);go_simp;go_wp2_with(refine(branch_any a x i _ ((hx.out.gr G).gr g2) _ hp hj.out).mono ?_;rintro r V9 ⟨rfl,hB⟩;clear hHeld);refine hK.out _ _ (KS.out _ (T.at_kp (hA.out.gr g2) hB.2 hne)) (fun hHeld=>?_);clear hK K;try simp only[xap]
 refine xdn ?_ _;clear hHeld;go_wp2_with fail
 first|go_end0|((try simp only[Exit.inBlock,Exit.then]);refine xre ?_)
 exact⟨rfl,hB.after (G.trans g2)⟩
theorem bne_op (a:Nat)(x:Fx)(i:Fi)(w:World)(h:Bx w a x)(ha:i.a<16)(hb:i.b<16)(hp:x.p≤1000000)(hj:0≤i.i∧i.i<1000):
 Calls Tryz.prog 101 #[.agg #[.int .u8 i.op,.int .i64 i.a,.int .i64 i.b,.int .i64 i.c,.int .u64 i.i],.pointer (some ⟨a,0,none⟩)] w fun r w'=>r=.returned (.tuple #[])∧Bo1 a (x.br ((x.r i.a != x.r i.b)) i.i.toNat) w w':=by
 replace hj:=ζ hj;have hne:¬w.heap.size=a:=by have:=h.lt;omega
 have hx:=ζ h;clear h;go_enter Tryz.func101,Tryz.ntmps101;go_upto_region 1 with fail
 refine wp_world (fun W=>At W w.heap.size i.w∧Gr w W) ⟨At.new w _ _,(Gr.refl _).alloc _⟩ ?_;rintro W ⟨hA,G⟩;generalize w.heap.size=kb at*;replace hA:=ζ hA;have KS:=xk1 i kb;have g0:Gr W W.drew:=(Gr.refl W).drew;refine wp_region_held_drew (S:=(fun W=>W.rangeAt kb 0 (Fi.vals i)∧W.cell? ⟨kb,1,none⟩=some (.int .i64 i.a)∧W.cell? ⟨kb,3,none⟩=some (.int .i64 i.c)∧W.cell? ⟨kb,4,none⟩=some (.int .u64 i.i))) (by kernel_rfl) (KS.out _ (hA.out.gr g0)) (fun hHeld=>?_);refine xtk 0 rfl (yieldsIf_load_mid (by rfl) _ _ rfl _ _ rfl _ _ (fun _ h=>h.1) Tryz.underlying128 rfl (by kernel_rfl)) ?_;try simp only[xap]
 refine xz 1 rfl (h:=xz 2 rfl (h:=?_));try simp only[xap]
 refine xtk 3 rfl (yieldsIf_load_mid (by rfl) _ _ rfl _ _ rfl _ _ (fun _ h=>h.1) Tryz.underlying128 rfl (by kernel_rfl)) ?_;try simp only[xap]
 refine xz 5 rfl (h:=?_);try simp only[xap]
 refine xtk 6 rfl (yieldsIf_load_mid (by rfl) _ _ rfl _ _ rfl _ _ (fun _ h=>h.1) Tryz.underlying128 rfl (by kernel_rfl)) ?_;try simp only[xap]
 refine xrd 4 rfl (fun K hK=>?_);go_simp;go_wp2_with(refine(a_any a x i _ ((hx.out.gr G).gr g0) ha).mono ?_;rintro r V1 ⟨rfl,gg⟩;have g1:=g0.trans gg;clear gg g0 hHeld);refine hK.out _ _ (KS.out _ (hA.out.gr g1)) (fun hHeld=>?_);clear hK K;try simp only[xap]
 refine xrd 7 rfl (fun K hK=>?_);go_simp;go_wp2_with(refine(b_any a x i _ ((hx.out.gr G).gr g1) hb).mono ?_;rintro r V2 ⟨rfl,gg⟩;have g2:=g1.trans gg;clear gg g1 hHeld);refine hK.out _ _ (KS.out _ (hA.out.gr g2)) (fun hHeld=>?_);clear hK K;try simp only[xap]
 refine xz 8 rfl (h:=?_);try simp only[xap]
 refine xrd 9 rfl (fun K hK=>?_);go_simp;go_wp2_with(refine(branch_any a x i _ ((hx.out.gr G).gr g2) _ hp hj.out).mono ?_;rintro r V9 ⟨rfl,hB⟩;clear hHeld);refine hK.out _ _ (KS.out _ (T.at_kp (hA.out.gr g2) hB.2 hne)) (fun hHeld=>?_);clear hK K;try simp only[xap]
 refine xdn ?_ _;clear hHeld;go_wp2_with fail
 first|go_end0|((try simp only[Exit.inBlock,Exit.then]);refine xre ?_)
 exact⟨rfl,hB.after (G.trans g2)⟩
theorem blt_op (a:Nat)(x:Fx)(i:Fi)(w:World)(h:Bx w a x)(ha:i.a<16)(hb:i.b<16)(hp:x.p≤1000000)(hj:0≤i.i∧i.i<1000):
 Calls Tryz.prog 102 #[.agg #[.int .u8 i.op,.int .i64 i.a,.int .i64 i.b,.int .i64 i.c,.int .u64 i.i],.pointer (some ⟨a,0,none⟩)] w fun r w'=>r=.returned (.tuple #[])∧Bo1 a (x.br (decide (x.r i.a<x.r i.b)) i.i.toNat) w w':=by
 replace hj:=ζ hj;have hne:¬w.heap.size=a:=by have:=h.lt;omega
 have hx:=ζ h;clear h;go_enter Tryz.func102,Tryz.ntmps102;go_upto_region 1 with fail
 refine wp_world (fun W=>At W w.heap.size i.w∧Gr w W) ⟨At.new w _ _,(Gr.refl _).alloc _⟩ ?_;rintro W ⟨hA,G⟩;generalize w.heap.size=kb at*;replace hA:=ζ hA;have KS:=xk1 i kb;have g0:Gr W W.drew:=(Gr.refl W).drew;refine wp_region_held_drew (S:=(fun W=>W.rangeAt kb 0 (Fi.vals i)∧W.cell? ⟨kb,1,none⟩=some (.int .i64 i.a)∧W.cell? ⟨kb,3,none⟩=some (.int .i64 i.c)∧W.cell? ⟨kb,4,none⟩=some (.int .u64 i.i))) (by kernel_rfl) (KS.out _ (hA.out.gr g0)) (fun hHeld=>?_);refine xtk 0 rfl (yieldsIf_load_mid (by rfl) _ _ rfl _ _ rfl _ _ (fun _ h=>h.1) Tryz.underlying128 rfl (by kernel_rfl)) ?_;try simp only[xap]
 refine xz 1 rfl (h:=xz 2 rfl (h:=?_));try simp only[xap]
 refine xtk 3 rfl (yieldsIf_load_mid (by rfl) _ _ rfl _ _ rfl _ _ (fun _ h=>h.1) Tryz.underlying128 rfl (by kernel_rfl)) ?_;try simp only[xap]
 refine xz 5 rfl (h:=?_);try simp only[xap]
 refine xtk 6 rfl (yieldsIf_load_mid (by rfl) _ _ rfl _ _ rfl _ _ (fun _ h=>h.1) Tryz.underlying128 rfl (by kernel_rfl)) ?_;try simp only[xap]
 refine xrd 4 rfl (fun K hK=>?_);go_simp;go_wp2_with(refine(a_any a x i _ ((hx.out.gr G).gr g0) ha).mono ?_;rintro r V1 ⟨rfl,gg⟩;have g1:=g0.trans gg;clear gg g0 hHeld);refine hK.out _ _ (KS.out _ (hA.out.gr g1)) (fun hHeld=>?_);clear hK K;try simp only[xap]
 refine xrd 7 rfl (fun K hK=>?_);go_simp;go_wp2_with(refine(b_any a x i _ ((hx.out.gr G).gr g1) hb).mono ?_;rintro r V2 ⟨rfl,gg⟩;have g2:=g1.trans gg;clear gg g1 hHeld);refine hK.out _ _ (KS.out _ (hA.out.gr g2)) (fun hHeld=>?_);clear hK K;try simp only[xap]
 refine xz 8 rfl (h:=?_);try simp only[xap]
 refine xrd 9 rfl (fun K hK=>?_);go_simp;go_wp2_with(refine(branch_any a x i _ ((hx.out.gr G).gr g2) _ hp hj.out).mono ?_;rintro r V9 ⟨rfl,hB⟩;clear hHeld);refine hK.out _ _ (KS.out _ (T.at_kp (hA.out.gr g2) hB.2 hne)) (fun hHeld=>?_);clear hK K;try simp only[xap]
 refine xdn ?_ _;clear hHeld;go_wp2_with fail
 first|go_end0|((try simp only[Exit.inBlock,Exit.then]);refine xre ?_)
 exact⟨rfl,hB.after (G.trans g2)⟩
theorem bge_op (a:Nat)(x:Fx)(i:Fi)(w:World)(h:Bx w a x)(ha:i.a<16)(hb:i.b<16)(hp:x.p≤1000000)(hj:0≤i.i∧i.i<1000):
 Calls Tryz.prog 103 #[.agg #[.int .u8 i.op,.int .i64 i.a,.int .i64 i.b,.int .i64 i.c,.int .u64 i.i],.pointer (some ⟨a,0,none⟩)] w fun r w'=>r=.returned (.tuple #[])∧Bo1 a (x.br (decide (x.r i.b≤x.r i.a)) i.i.toNat) w w':=by
 replace hj:=ζ hj;have hne:¬w.heap.size=a:=by have:=h.lt;omega
 have hx:=ζ h;clear h;go_enter Tryz.func103,Tryz.ntmps103;go_upto_region 1 with fail
 refine wp_world (fun W=>At W w.heap.size i.w∧Gr w W) ⟨At.new w _ _,(Gr.refl _).alloc _⟩ ?_;rintro W ⟨hA,G⟩;generalize w.heap.size=kb at*;replace hA:=ζ hA;have KS:=xk1 i kb;have g0:Gr W W.drew:=(Gr.refl W).drew;refine wp_region_held_drew (S:=(fun W=>W.rangeAt kb 0 (Fi.vals i)∧W.cell? ⟨kb,1,none⟩=some (.int .i64 i.a)∧W.cell? ⟨kb,3,none⟩=some (.int .i64 i.c)∧W.cell? ⟨kb,4,none⟩=some (.int .u64 i.i))) (by kernel_rfl) (KS.out _ (hA.out.gr g0)) (fun hHeld=>?_);refine xtk 0 rfl (yieldsIf_load_mid (by rfl) _ _ rfl _ _ rfl _ _ (fun _ h=>h.1) Tryz.underlying128 rfl (by kernel_rfl)) ?_;try simp only[xap]
 refine xz 1 rfl (h:=xz 2 rfl (h:=?_));try simp only[xap]
 refine xtk 3 rfl (yieldsIf_load_mid (by rfl) _ _ rfl _ _ rfl _ _ (fun _ h=>h.1) Tryz.underlying128 rfl (by kernel_rfl)) ?_;try simp only[xap]
 refine xz 5 rfl (h:=?_);try simp only[xap]
 refine xtk 6 rfl (yieldsIf_load_mid (by rfl) _ _ rfl _ _ rfl _ _ (fun _ h=>h.1) Tryz.underlying128 rfl (by kernel_rfl)) ?_;try simp only[xap]
 refine xrd 4 rfl (fun K hK=>?_);go_simp;go_wp2_with(refine(a_any a x i _ ((hx.out.gr G).gr g0) ha).mono ?_;rintro r V1 ⟨rfl,gg⟩;have g1:=g0.trans gg;clear gg g0 hHeld);refine hK.out _ _ (KS.out _ (hA.out.gr g1)) (fun hHeld=>?_);clear hK K;try simp only[xap]
 refine xrd 7 rfl (fun K hK=>?_);go_simp;go_wp2_with(refine(b_any a x i _ ((hx.out.gr G).gr g1) hb).mono ?_;rintro r V2 ⟨rfl,gg⟩;have g2:=g1.trans gg;clear gg g1 hHeld);refine hK.out _ _ (KS.out _ (hA.out.gr g2)) (fun hHeld=>?_);clear hK K;try simp only[xap]
 refine xz 8 rfl (h:=?_);try simp only[xap]
 refine xrd 9 rfl (fun K hK=>?_);go_simp;go_wp2_with(refine(branch_any a x i _ ((hx.out.gr G).gr g2) _ hp hj.out).mono ?_;rintro r V9 ⟨rfl,hB⟩;clear hHeld);refine hK.out _ _ (KS.out _ (T.at_kp (hA.out.gr g2) hB.2 hne)) (fun hHeld=>?_);clear hK K;try simp only[xap]
 refine xdn ?_ _;clear hHeld;go_wp2_with fail
 first|go_end0|((try simp only[Exit.inBlock,Exit.then]);refine xre ?_)
 exact⟨rfl,hB.after (G.trans g2)⟩
theorem guardBelow_op (a:Nat)(x:Fx)(i:Fi)(w:World)(h:Bx w a x)(ha:i.a<16)(hp:x.p≤1000000):
 Calls Tryz.prog 116 #[.agg #[.int .u8 i.op,.int .i64 i.a,.int .i64 i.b,.int .i64 i.c,.int .u64 i.i],.pointer (some ⟨a,0,none⟩)] w fun r w'=>r=.returned (.tuple #[])∧Bo1 a (x.dm (decide (x.r i.a<i.i)) (IntKind.u64.wrap i.c)) w w':=by
 have hne:¬w.heap.size=a:=by have:=h.lt;omega
 have hx:=ζ h;clear h;go_enter Tryz.func116,Tryz.ntmps116;go_upto_region 1 with fail
 refine wp_world (fun W=>At W w.heap.size i.w∧Gr w W) ⟨At.new w _ _,(Gr.refl _).alloc _⟩ ?_;rintro W ⟨hA,G⟩;generalize w.heap.size=kb at*;replace hA:=ζ hA;have KS:=xk1 i kb;have g0:Gr W W.drew:=(Gr.refl W).drew;refine wp_region_held_drew (S:=(fun W=>W.rangeAt kb 0 (Fi.vals i)∧W.cell? ⟨kb,1,none⟩=some (.int .i64 i.a)∧W.cell? ⟨kb,3,none⟩=some (.int .i64 i.c)∧W.cell? ⟨kb,4,none⟩=some (.int .u64 i.i))) (by kernel_rfl) (KS.out _ (hA.out.gr g0)) (fun hHeld=>?_);refine xtk 0 rfl (yieldsIf_load_mid (by rfl) _ _ rfl _ _ rfl _ _ (fun _ h=>h.1) Tryz.underlying128 rfl (by kernel_rfl)) ?_;try simp only[xap]
 refine xz 1 rfl (h:=xz 2 rfl (h:=?_));try simp only[xap]
 refine xtk 3 rfl (yieldsIf_load_mid (by rfl) _ _ rfl _ _ rfl _ _ (fun _ h=>h.1) Tryz.underlying128 rfl (by kernel_rfl)) ?_;try simp only[xap]
 refine xz 5 rfl (h:=xz 6 rfl (h:=?_));try simp only[xap]
 refine xrd 4 rfl (fun K hK=>?_);go_simp;go_wp2_with(refine(a_any a x i _ ((hx.out.gr G).gr g0) ha).mono ?_;rintro r V1 ⟨rfl,gg⟩;have g1:=g0.trans gg;clear gg g0 hHeld);refine hK.out _ _ (KS.out _ (hA.out.gr g1)) (fun hHeld=>?_);clear hK K;try simp only[xap]
 refine xz 7 rfl (h:=?_);try simp only[xap]
 refine xrd 8 rfl (fun K hK=>?_);go_simp;go_wp2_with(refine(demand_any a x i _ ((hx.out.gr G).gr g1) _ hp).mono ?_;rintro r V9 ⟨rfl,hB⟩;clear hHeld);refine hK.out _ _ (KS.out _ (T.at_kp (hA.out.gr g1) hB.2 hne)) (fun hHeld=>?_);clear hK K;try simp only[xap]
 refine xdn ?_ _;clear hHeld;go_wp2_with fail
 first|go_end0|((try simp only[Exit.inBlock,Exit.then]);refine xre ?_)
 exact⟨rfl,hB.after (G.trans g1)⟩
theorem guardNotBelow_op (a:Nat)(x:Fx)(i:Fi)(w:World)(h:Bx w a x)(ha:i.a<16)(hp:x.p≤1000000):
 Calls Tryz.prog 117 #[.agg #[.int .u8 i.op,.int .i64 i.a,.int .i64 i.b,.int .i64 i.c,.int .u64 i.i],.pointer (some ⟨a,0,none⟩)] w fun r w'=>r=.returned (.tuple #[])∧Bo1 a (x.dm (decide (i.i≤x.r i.a)) (IntKind.u64.wrap i.c)) w w':=by
 have hne:¬w.heap.size=a:=by have:=h.lt;omega
 have hx:=ζ h;clear h;go_enter Tryz.func117,Tryz.ntmps117;go_upto_region 1 with fail
 refine wp_world (fun W=>At W w.heap.size i.w∧Gr w W) ⟨At.new w _ _,(Gr.refl _).alloc _⟩ ?_;rintro W ⟨hA,G⟩;generalize w.heap.size=kb at*;replace hA:=ζ hA;have KS:=xk1 i kb;have g0:Gr W W.drew:=(Gr.refl W).drew;refine wp_region_held_drew (S:=(fun W=>W.rangeAt kb 0 (Fi.vals i)∧W.cell? ⟨kb,1,none⟩=some (.int .i64 i.a)∧W.cell? ⟨kb,3,none⟩=some (.int .i64 i.c)∧W.cell? ⟨kb,4,none⟩=some (.int .u64 i.i))) (by kernel_rfl) (KS.out _ (hA.out.gr g0)) (fun hHeld=>?_);refine xtk 0 rfl (yieldsIf_load_mid (by rfl) _ _ rfl _ _ rfl _ _ (fun _ h=>h.1) Tryz.underlying128 rfl (by kernel_rfl)) ?_;try simp only[xap]
 refine xz 1 rfl (h:=xz 2 rfl (h:=?_));try simp only[xap]
 refine xtk 3 rfl (yieldsIf_load_mid (by rfl) _ _ rfl _ _ rfl _ _ (fun _ h=>h.1) Tryz.underlying128 rfl (by kernel_rfl)) ?_;try simp only[xap]
 refine xz 5 rfl (h:=xz 6 rfl (h:=?_));try simp only[xap]
 refine xrd 4 rfl (fun K hK=>?_);go_simp;go_wp2_with(refine(a_any a x i _ ((hx.out.gr G).gr g0) ha).mono ?_;rintro r V1 ⟨rfl,gg⟩;have g1:=g0.trans gg;clear gg g0 hHeld);refine hK.out _ _ (KS.out _ (hA.out.gr g1)) (fun hHeld=>?_);clear hK K;try simp only[xap]
 refine xz 7 rfl (h:=?_);try simp only[xap]
 refine xrd 8 rfl (fun K hK=>?_);go_simp;go_wp2_with(refine(demand_any a x i _ ((hx.out.gr G).gr g1) _ hp).mono ?_;rintro r V9 ⟨rfl,hB⟩;clear hHeld);refine hK.out _ _ (KS.out _ (T.at_kp (hA.out.gr g1) hB.2 hne)) (fun hHeld=>?_);clear hK K;try simp only[xap]
 refine xdn ?_ _;clear hHeld;go_wp2_with fail
 first|go_end0|((try simp only[Exit.inBlock,Exit.then]);refine xre ?_)
 exact⟨rfl,hB.after (G.trans g1)⟩
theorem guard_op (a:Nat)(x:Fx)(i:Fi)(w:World)(h:Bx w a x)(hp:x.p≤1000000):
 Calls Tryz.prog 118 #[.agg #[.int .u8 i.op,.int .i64 i.a,.int .i64 i.b,.int .i64 i.c,.int .u64 i.i],.pointer (some ⟨a,0,none⟩)] w fun r w'=>r=.returned (.tuple #[])∧Bo1 a (x.fin 2 (IntKind.u64.wrap i.c) 0) w w':=by
 have hne:¬w.heap.size=a:=by have:=h.lt;omega
 have hx:=ζ h;clear h;go_enter Tryz.func118,Tryz.ntmps118;go_upto_region 1 with fail
 refine wp_world (fun W=>At W w.heap.size i.w∧Gr w W) ⟨At.new w _ _,(Gr.refl _).alloc _⟩ ?_;rintro W ⟨hA,G⟩;generalize w.heap.size=kb at*;replace hA:=ζ hA;have KS:=xk1 i kb;have q0:W.cell? ⟨kb,0,none⟩=some (.int .u8 i.op):=hA.out.2.1 0;have q1:W.cell? ⟨kb,1,none⟩=some (.int .i64 i.a):=hA.out.2.1 1;have q2:W.cell? ⟨kb,2,none⟩=some (.int .i64 i.b):=hA.out.2.1 2;have q3:W.cell? ⟨kb,3,none⟩=some (.int .i64 i.c):=hA.out.2.1 3;have q4:W.cell? ⟨kb,4,none⟩=some (.int .u64 i.i):=hA.out.2.1 4;go_wp2_with fail;refine(demand_any a x i _ (hx.out.gr G) false hp).mono ?_;rintro r V9 ⟨rfl,hB⟩;replace hB:=ζ hB;go_wp2_with fail
 first|go_end0|((try simp only[Exit.inBlock,Exit.then]);refine xre ?_)
 exact⟨rfl,hB.out.after G⟩
end Z
end Go.Proofs.YtdidjhillmgccaaGreat
