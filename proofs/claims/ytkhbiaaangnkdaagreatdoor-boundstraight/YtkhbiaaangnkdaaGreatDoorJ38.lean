import Derived.Test.YtkhbiaaangnkdaaGreatDoorJ37
namespace Go.Proofs.YtkhbiaaangnkdaaGreatDoor
set_option maxRecDepth 100000
set_option maxHeartbeats 40000000
namespace C
open Go.RowKit
open T (Sep Ob Kp Mf TgIn boxOb Fm Tc Ed Vl Cp Bx tgOb mRow updV flt toldI told_any)
def partF (op:Int)(c:Cp):Int:=if op=50 then c.c else if op=51 then c.b else if op=52 then c.e else if op=53 then IntKind.u64.wrap c.p else IntKind.u64.wrap c.s
theorem part_any (op:Int)(c:Cp)(w:World)(hop:50≤op∧op≤54):Calls Tryz.prog 110 #[.int .u8 op,Cp.val c] w fun x w'=>x=.returned (.int .u64 (partF op c))∧Bl w w':=by
 have ho:op=50∨op=51∨op=52∨op=53∨op=54:=by omega
 unfold Cp.val;rcases ho with rfl|rfl|rfl|rfl|rfl
 ·go_enter Tryz.func110,Tryz.ntmps110;go_wp2_with fail;go_ret;exact⟨rfl,(Bl.refl _).alloc _⟩
 ·go_enter Tryz.func110,Tryz.ntmps110;go_wp2_with fail;go_ret;exact⟨rfl,(Bl.refl _).alloc _⟩
 ·go_enter Tryz.func110,Tryz.ntmps110;go_wp2_with fail;go_ret;exact⟨rfl,(Bl.refl _).alloc _⟩
 ·go_enter Tryz.func110,Tryz.ntmps110;go_wp2_with fail;go_ret;exact⟨rfl,(Bl.refl _).alloc _⟩
 ·go_enter Tryz.func110,Tryz.ntmps110;go_wp2_with fail;go_ret;exact⟨rfl,(Bl.refl _).alloc _⟩
def vlB (v u:Vl):Bool:=(v.g==u.g)&&((v.n==u.n)&&((v.c.b==u.c.b)&&((v.c.e==u.c.e)&&((v.c.c==u.c.c)&&((v.c.p==u.c.p)&&(v.c.s==u.c.s))))))
theorem rg_row {X:World}{a B:Nat}{v:Vl}(h:RgAt X a B v):X.rangeAt a (7+B*7) [Value.bool v.g,.int .u64 v.n,.int .u64 v.c.b,.int .u64 v.c.e,.int .u64 v.c.c,.int .u8 v.c.p,.int .i64 v.c.s]:=fun j u z=>by
 match j,z with
 |0,z=>injection z with z;subst z;exact h.c0
 |1,z=>injection z with z;subst z;exact h.c1
 |2,z=>injection z with z;subst z;exact h.c2
 |3,z=>injection z with z;subst z;exact h.c3
 |4,z=>injection z with z;subst z;exact h.c4
 |5,z=>injection z with z;subst z;exact h.c5
 |6,z=>injection z with z;subst z;exact h.c6
theorem vl_eql (v u:Vl)(X:World):(binOp .eql 75 (.agg (List.toArray [Value.bool v.g,.int .u64 v.n,.int .u64 v.c.b,.int .u64 v.c.e,.int .u64 v.c.c,.int .u8 v.c.p,.int .i64 v.c.s])) (.agg (List.toArray [Value.bool u.g,.int .u64 u.n,.int .u64 u.c.b,.int .u64 u.c.e,.int .u64 u.c.c,.int .u8 u.c.p,.int .i64 u.c.s]))).run Tryz.prog X=.ok (.bool (vlB v u)) X:=by
 go_simp;unfold vlB
 (repeat' split)<;>(simp_all<;>omega)
def askR (op:Int)(v u:Vl):Except Ed Int:=if op=55 then .ok (toldI v.g)else if op=56 then .ok (toldI (v.g&&vlB v u))else if v.g then .ok (partF op v.c)else .error (flt 1)
theorem asked_b (op:Int)(hop:50≤op∧op≤54)(a A B C:Nat)(m:Int)(v u:Vl)(w:World)(hv0:RgAt w a B v)(_hu:RgAt w a C u)(hg:v.g=false):
 Calls Tryz.prog 70 #[.pointer (some ⟨a,0,none⟩),insA op A B C m] w fun x w'=>x=UnV (askR op v u)∧Bl w w':=by
 have er:askR op v u=.error (flt 1):=by unfold askR;rw[if_neg (by omega),if_neg (by omega),hg];rfl
 rw[er];have q55:(op==55)=false:=beq_false_of_ne (by omega);have q56:(op==56)=false:=beq_false_of_ne (by omega);clear er;have hv:=ζ (fun X g=>hv0.bl (W:=X) g);have h1:=ζ (fun X g=>held_badB a B v X (hv0.bl g) hg);simp only[UnV,pan]at h1 ⊢;clear hg hv0;unfold insA;have A0:=ζ (At.new w #[.int .u8 op,.int .i64 A,.int .i64 B,.int .i64 C,.int .i64 m] 29);have g0:Hz (Bl w (w.alloc (.cells #[.int .u8 op,.int .i64 A,.int .i64 B,.int .i64 C,.int .i64 m] 29))):=ζ ((Bl.refl w).alloc _);have hB16:(B:Int)<16:=by have:=(hv.out _ (Bl.refl w)).rl;omega
 go_enter Tryz.func70,Tryz.ntmps70;go_upto_region 1 with fail
 refine wp_world (fun W=>At W w.heap.size #[.int .u8 op,.int .i64 A,.int .i64 B,.int .i64 C,.int .i64 m]∧Bl w W) ⟨A0.out,g0.out⟩ ?_;clear A0 g0;rintro W ⟨A0,g0⟩;replace A0:=ζ ((Bl.refl W).drew.at_ A0);replace g0:=ζ g0.drew;refine wp_region_held_drew (S:=(fun X=>X.cell? ⟨w.heap.size,2,none⟩=some (.int .i64 B)∧X.rangeAt a (7+B*7) [Value.bool v.g,.int .u64 v.n,.int .u64 v.c.b,.int .u64 v.c.e,.int .u64 v.c.c,.int .u8 v.c.p,.int .i64 v.c.s])) (by kernel_rfl) (⟨A0.out.2.1 2,rg_row (hv.out _ g0.out)⟩) (fun hHeld=>?_);generalize W.drew=X0 at*;refine xz 0 rfl (h:=xz 1 rfl (h:=xz 2 rfl (h:=xz 3 rfl (h:=xz 4 rfl (h:=xz 5 rfl (h:=xz 6 rfl (h:=?_)))))));try simp only[xap]
 refine xtk 7 rfl (yieldsIf_load_mid (by rfl) _ _ rfl _ _ rfl _ _ (fun _ h=>h.2) Tryz.underlying75 rfl (by kernel_rfl)) ?_;try simp only[xap]
 refine xrd 8 rfl (fun K hK=>?_);go_simp;have A5:=ζ (At.new X0 (List.toArray [Value.bool false,.int .u64 0,.int .u64 0,.int .u64 0,.int .u64 0,.int .u8 0,.int .i64 0]) 75);have hn5:Hz (w.heap.size≠X0.heap.size):=ζ (by have:=A0.out.1;omega);have hk5:Hz (w.heap.size≤X0.heap.size):=ζ g0.out.size;replace A0:=ζ (A0.out.alloc (.cells (List.toArray [Value.bool false,.int .u64 0,.int .u64 0,.int .u64 0,.int .u64 0,.int .u8 0,.int .i64 0]) 75));replace g0:=ζ (g0.out.alloc (.cells (List.toArray [Value.bool false,.int .u64 0,.int .u64 0,.int .u64 0,.int .u64 0,.int .u8 0,.int .i64 0]) 75));refine hK.out _ _ ⟨A0.out.2.1 2,rg_row (hv.out _ g0.out)⟩ (fun hHeld=>?_);clear hK K;generalize X0.alloc (.cells (List.toArray [Value.bool false,.int .u64 0,.int .u64 0,.int .u64 0,.int .u64 0,.int .u8 0,.int .i64 0]) 75)=X1 at*;generalize X0.heap.size=k5 at*;try simp only[xap]
 refine xrd 9 rfl (fun K hK=>?_);rw[if_pos (by rfl)];refine wp_store_mid _ _ _ rfl _ _ (List.toArray [Value.bool v.g,.int .u64 v.n,.int .u64 v.c.b,.int .u64 v.c.e,.int .u64 v.c.c,.int .u8 v.c.p,.int .i64 v.c.s]) rfl rfl (At.there A5.out 0 7 (by decide)) (by kernel_rfl) (by simp[Value.oneCell']) ?_;replace A0:=ζ (A0.out.other hn5.out 0 [Value.bool v.g,.int .u64 v.n,.int .u64 v.c.b,.int .u64 v.c.e,.int .u64 v.c.c,.int .u8 v.c.p,.int .i64 v.c.s]);replace A5:=ζ (At.setAll (cs:=[Value.bool false,.int .u64 0,.int .u64 0,.int .u64 0,.int .u64 0,.int .u8 0,.int .i64 0]) A5.out [Value.bool v.g,.int .u64 v.n,.int .u64 v.c.b,.int .u64 v.c.e,.int .u64 v.c.c,.int .u8 v.c.p,.int .i64 v.c.s] rfl);replace g0:=ζ (g0.out.sets k5 hk5.out [Value.bool v.g,.int .u64 v.n,.int .u64 v.c.b,.int .u64 v.c.e,.int .u64 v.c.c,.int .u8 v.c.p,.int .i64 v.c.s] 0);refine hK.out _ _ ⟨A0.out.2.1 2,rg_row (hv.out _ g0.out)⟩ (fun hHeld=>?_)
 clear hK K hHeld;try simp only[Act.put]
 refine xdn ?_ _;try simp only[Act.put]
 generalize World.setCells _ _ _ _=Y at*;have c0:Y.cell? ⟨w.heap.size,0,none⟩=some (.int .u8 op):=A0.out.2.1 0;go_upto_region 7 with fail
 clear c0;replace A0:=ζ ((Bl.refl Y).drew.at_ A0.out);replace g0:=ζ g0.out.drew;refine wp_region_held_drew (S:=(fun X=>X.cell? ⟨w.heap.size,0,none⟩=some (.int .u8 op)∧X.cell? ⟨w.heap.size,2,none⟩=some (.int .i64 B))) (by kernel_rfl) (⟨A0.out.2.1 0,A0.out.2.1 2⟩) (fun hHeld=>?_);generalize Y.drew=Yd at*;refine xz 0 rfl (h:=xz 1 rfl (h:=xz 2 rfl (h:=xz 3 rfl (h:=xz 4 rfl (h:=?_)))));try simp only[xap]
 refine xrd 5 rfl (fun K hK=>?_);go_simp;go_wp2_with(refine(h1.out _ g0.out).mono ?_;rintro r Y1 ⟨rfl,e1⟩);exact⟨rfl,rfl,g0.out.trans e1⟩
theorem asked_ok (op:Int)(hop:50≤op∧op≤54)(a A B C:Nat)(m:Int)(v u:Vl)(w:World)(hv0:RgAt w a B v)(_hu:RgAt w a C u)(hg:v.g=true):
 Calls Tryz.prog 70 #[.pointer (some ⟨a,0,none⟩),insA op A B C m] w fun x w'=>x=UnV (askR op v u)∧Bl w w':=by
 have er:askR op v u=.ok (partF op v.c):=by unfold askR;rw[if_neg (by omega),if_neg (by omega),hg];rfl
 rw[er];have q55:(op==55)=false:=beq_false_of_ne (by omega);have q56:(op==56)=false:=beq_false_of_ne (by omega);clear er;have hv:=ζ (fun X g=>hv0.bl (W:=X) g);have h1:=ζ (fun X g=>held_okB a B v X (hv0.bl g) hg);have h2:=ζ (fun X=>part_any op v.c X hop);simp only[UnV];unfold Cp.val at h1 h2;generalize partF op v.c=pf at*;clear hg hv0;unfold insA;have A0:=ζ (At.new w #[.int .u8 op,.int .i64 A,.int .i64 B,.int .i64 C,.int .i64 m] 29);have g0:Hz (Bl w (w.alloc (.cells #[.int .u8 op,.int .i64 A,.int .i64 B,.int .i64 C,.int .i64 m] 29))):=ζ ((Bl.refl w).alloc _);have hB16:(B:Int)<16:=by have:=(hv.out _ (Bl.refl w)).rl;omega
 go_enter Tryz.func70,Tryz.ntmps70;go_upto_region 1 with fail
 refine wp_world (fun W=>At W w.heap.size #[.int .u8 op,.int .i64 A,.int .i64 B,.int .i64 C,.int .i64 m]∧Bl w W) ⟨A0.out,g0.out⟩ ?_;clear A0 g0;rintro W ⟨A0,g0⟩;replace A0:=ζ ((Bl.refl W).drew.at_ A0);replace g0:=ζ g0.drew;refine wp_region_held_drew (S:=(fun X=>X.cell? ⟨w.heap.size,2,none⟩=some (.int .i64 B)∧X.rangeAt a (7+B*7) [Value.bool v.g,.int .u64 v.n,.int .u64 v.c.b,.int .u64 v.c.e,.int .u64 v.c.c,.int .u8 v.c.p,.int .i64 v.c.s])) (by kernel_rfl) (⟨A0.out.2.1 2,rg_row (hv.out _ g0.out)⟩) (fun hHeld=>?_);generalize W.drew=X0 at*;refine xz 0 rfl (h:=xz 1 rfl (h:=xz 2 rfl (h:=xz 3 rfl (h:=xz 4 rfl (h:=xz 5 rfl (h:=xz 6 rfl (h:=?_)))))));try simp only[xap]
 refine xtk 7 rfl (yieldsIf_load_mid (by rfl) _ _ rfl _ _ rfl _ _ (fun _ h=>h.2) Tryz.underlying75 rfl (by kernel_rfl)) ?_;try simp only[xap]
 refine xrd 8 rfl (fun K hK=>?_);go_simp;have A5:=ζ (At.new X0 (List.toArray [Value.bool false,.int .u64 0,.int .u64 0,.int .u64 0,.int .u64 0,.int .u8 0,.int .i64 0]) 75);have hn5:Hz (w.heap.size≠X0.heap.size):=ζ (by have:=A0.out.1;omega);have hk5:Hz (w.heap.size≤X0.heap.size):=ζ g0.out.size;replace A0:=ζ (A0.out.alloc (.cells (List.toArray [Value.bool false,.int .u64 0,.int .u64 0,.int .u64 0,.int .u64 0,.int .u8 0,.int .i64 0]) 75));replace g0:=ζ (g0.out.alloc (.cells (List.toArray [Value.bool false,.int .u64 0,.int .u64 0,.int .u64 0,.int .u64 0,.int .u8 0,.int .i64 0]) 75));refine hK.out _ _ ⟨A0.out.2.1 2,rg_row (hv.out _ g0.out)⟩ (fun hHeld=>?_);clear hK K;generalize X0.alloc (.cells (List.toArray [Value.bool false,.int .u64 0,.int .u64 0,.int .u64 0,.int .u64 0,.int .u8 0,.int .i64 0]) 75)=X1 at*;generalize X0.heap.size=k5 at*;try simp only[xap]
 refine xrd 9 rfl (fun K hK=>?_);rw[if_pos (by rfl)];refine wp_store_mid _ _ _ rfl _ _ (List.toArray [Value.bool v.g,.int .u64 v.n,.int .u64 v.c.b,.int .u64 v.c.e,.int .u64 v.c.c,.int .u8 v.c.p,.int .i64 v.c.s]) rfl rfl (At.there A5.out 0 7 (by decide)) (by kernel_rfl) (by simp[Value.oneCell']) ?_;replace A0:=ζ (A0.out.other hn5.out 0 [Value.bool v.g,.int .u64 v.n,.int .u64 v.c.b,.int .u64 v.c.e,.int .u64 v.c.c,.int .u8 v.c.p,.int .i64 v.c.s]);replace A5:=ζ (At.setAll (cs:=[Value.bool false,.int .u64 0,.int .u64 0,.int .u64 0,.int .u64 0,.int .u8 0,.int .i64 0]) A5.out [Value.bool v.g,.int .u64 v.n,.int .u64 v.c.b,.int .u64 v.c.e,.int .u64 v.c.c,.int .u8 v.c.p,.int .i64 v.c.s] rfl);replace g0:=ζ (g0.out.sets k5 hk5.out [Value.bool v.g,.int .u64 v.n,.int .u64 v.c.b,.int .u64 v.c.e,.int .u64 v.c.c,.int .u8 v.c.p,.int .i64 v.c.s] 0);refine hK.out _ _ ⟨A0.out.2.1 2,rg_row (hv.out _ g0.out)⟩ (fun hHeld=>?_)
 clear hK K hHeld;try simp only[Act.put]
 refine xdn ?_ _;try simp only[Act.put]
 generalize World.setCells _ _ _ _=Y at*;have c0:Y.cell? ⟨w.heap.size,0,none⟩=some (.int .u8 op):=A0.out.2.1 0;go_upto_region 7 with fail
 clear c0;replace A0:=ζ ((Bl.refl Y).drew.at_ A0.out);replace g0:=ζ g0.out.drew;refine wp_region_held_drew (S:=(fun X=>X.cell? ⟨w.heap.size,0,none⟩=some (.int .u8 op)∧X.cell? ⟨w.heap.size,2,none⟩=some (.int .i64 B))) (by kernel_rfl) (⟨A0.out.2.1 0,A0.out.2.1 2⟩) (fun hHeld=>?_);generalize Y.drew=Yd at*;refine xz 0 rfl (h:=xz 1 rfl (h:=xz 2 rfl (h:=xz 3 rfl (h:=xz 4 rfl (h:=?_)))));try simp only[xap]
 refine xrd 5 rfl (fun K hK=>?_);go_simp;go_wp2_with(refine(h1.out _ g0.out).mono ?_;rintro r Y1 ⟨rfl,e1⟩;replace A0:=ζ (e1.at_ A0.out);replace g0:=ζ (g0.out.trans e1);clear e1 hHeld);refine hK.out _ _ ⟨A0.out.2.1 0,A0.out.2.1 2⟩ (fun hHeld=>?_);clear hK K;try simp only[xap]
 refine xrd 6 rfl (fun K hK=>?_);go_simp;go_wp2_with(refine(h2.out _).mono ?_;rintro r Y2 ⟨rfl,e1⟩;replace A0:=ζ (e1.at_ A0.out);replace g0:=ζ (g0.out.trans e1);clear e1 hHeld);refine hK.out _ _ ⟨A0.out.2.1 0,A0.out.2.1 2⟩ (fun hHeld=>?_);clear hK K;try simp only[xap]
 refine xz 7 rfl (h:=?_);try simp only[xap]
 refine xdn ?_ _;clear hHeld;go_wp2_with fail;go_ret;exact⟨rfl,g0.out⟩
theorem asked55 (a A B C:Nat)(m:Int)(v u:Vl)(w:World)(hv0:RgAt w a B v)(_hu:RgAt w a C u):
 Calls Tryz.prog 70 #[.pointer (some ⟨a,0,none⟩),insA 55 A B C m] w fun x w'=>x=UnV (askR 55 v u)∧Bl w w':=by
 have er:askR 55 v u=.ok (toldI v.g):=by rfl
 rw[er];clear er;have hv:=ζ (fun X g=>hv0.bl (W:=X) g);have hT:=ζ (told_any v.g);simp only[UnV];clear hv0;unfold insA;have A0:=ζ (At.new w #[.int .u8 55,.int .i64 A,.int .i64 B,.int .i64 C,.int .i64 m] 29);have g0:Hz (Bl w (w.alloc (.cells #[.int .u8 55,.int .i64 A,.int .i64 B,.int .i64 C,.int .i64 m] 29))):=ζ ((Bl.refl w).alloc _);have hB16:(B:Int)<16:=by have:=(hv.out _ (Bl.refl w)).rl;omega
 go_enter Tryz.func70,Tryz.ntmps70;go_upto_region 1 with fail
 refine wp_world (fun W=>At W w.heap.size #[.int .u8 55,.int .i64 A,.int .i64 B,.int .i64 C,.int .i64 m]∧Bl w W) ⟨A0.out,g0.out⟩ ?_;clear A0 g0;rintro W ⟨A0,g0⟩;replace A0:=ζ ((Bl.refl W).drew.at_ A0);replace g0:=ζ g0.drew;refine wp_region_held_drew (S:=(fun X=>X.cell? ⟨w.heap.size,2,none⟩=some (.int .i64 B)∧X.rangeAt a (7+B*7) [Value.bool v.g,.int .u64 v.n,.int .u64 v.c.b,.int .u64 v.c.e,.int .u64 v.c.c,.int .u8 v.c.p,.int .i64 v.c.s])) (by kernel_rfl) (⟨A0.out.2.1 2,rg_row (hv.out _ g0.out)⟩) (fun hHeld=>?_);generalize W.drew=X0 at*;refine xz 0 rfl (h:=xz 1 rfl (h:=xz 2 rfl (h:=xz 3 rfl (h:=xz 4 rfl (h:=xz 5 rfl (h:=xz 6 rfl (h:=?_)))))));try simp only[xap]
 refine xtk 7 rfl (yieldsIf_load_mid (by rfl) _ _ rfl _ _ rfl _ _ (fun _ h=>h.2) Tryz.underlying75 rfl (by kernel_rfl)) ?_;try simp only[xap]
 refine xrd 8 rfl (fun K hK=>?_);go_simp;have A5:=ζ (At.new X0 (List.toArray [Value.bool false,.int .u64 0,.int .u64 0,.int .u64 0,.int .u64 0,.int .u8 0,.int .i64 0]) 75);have hn5:Hz (w.heap.size≠X0.heap.size):=ζ (by have:=A0.out.1;omega);have hk5:Hz (w.heap.size≤X0.heap.size):=ζ g0.out.size;replace A0:=ζ (A0.out.alloc (.cells (List.toArray [Value.bool false,.int .u64 0,.int .u64 0,.int .u64 0,.int .u64 0,.int .u8 0,.int .i64 0]) 75));replace g0:=ζ (g0.out.alloc (.cells (List.toArray [Value.bool false,.int .u64 0,.int .u64 0,.int .u64 0,.int .u64 0,.int .u8 0,.int .i64 0]) 75));refine hK.out _ _ ⟨A0.out.2.1 2,rg_row (hv.out _ g0.out)⟩ (fun hHeld=>?_);clear hK K;generalize X0.alloc (.cells (List.toArray [Value.bool false,.int .u64 0,.int .u64 0,.int .u64 0,.int .u64 0,.int .u8 0,.int .i64 0]) 75)=X1 at*;generalize X0.heap.size=k5 at*;try simp only[xap]
 refine xrd 9 rfl (fun K hK=>?_);rw[if_pos (by rfl)];refine wp_store_mid _ _ _ rfl _ _ (List.toArray [Value.bool v.g,.int .u64 v.n,.int .u64 v.c.b,.int .u64 v.c.e,.int .u64 v.c.c,.int .u8 v.c.p,.int .i64 v.c.s]) rfl rfl (At.there A5.out 0 7 (by decide)) (by kernel_rfl) (by simp[Value.oneCell']) ?_;replace A0:=ζ (A0.out.other hn5.out 0 [Value.bool v.g,.int .u64 v.n,.int .u64 v.c.b,.int .u64 v.c.e,.int .u64 v.c.c,.int .u8 v.c.p,.int .i64 v.c.s]);replace A5:=ζ (At.setAll (cs:=[Value.bool false,.int .u64 0,.int .u64 0,.int .u64 0,.int .u64 0,.int .u8 0,.int .i64 0]) A5.out [Value.bool v.g,.int .u64 v.n,.int .u64 v.c.b,.int .u64 v.c.e,.int .u64 v.c.c,.int .u8 v.c.p,.int .i64 v.c.s] rfl);replace g0:=ζ (g0.out.sets k5 hk5.out [Value.bool v.g,.int .u64 v.n,.int .u64 v.c.b,.int .u64 v.c.e,.int .u64 v.c.c,.int .u8 v.c.p,.int .i64 v.c.s] 0);refine hK.out _ _ ⟨A0.out.2.1 2,rg_row (hv.out _ g0.out)⟩ (fun hHeld=>?_)
 clear hK K hHeld;try simp only[Act.put]
 refine xdn ?_ _;try simp only[Act.put]
 generalize World.setCells _ _ _ _=Y at*;have c0:Y.cell? ⟨w.heap.size,0,none⟩=some (.int .u8 55):=A0.out.2.1 0;go_upto_region 4 with fail
 clear c0;have⟨_,p5,_⟩:=A5.out;go_wp2_with fail;refine(hT.out _).mono ?_;rintro r Y1 ⟨rfl,rfl⟩;go_wp2_with fail;go_ret;exact⟨rfl,g0.out⟩
theorem asked56_f (a A B C:Nat)(m:Int)(v u:Vl)(w:World)(hv0:RgAt w a B v)(hu0:RgAt w a C u)(hg:v.g=false):
 Calls Tryz.prog 70 #[.pointer (some ⟨a,0,none⟩),insA 56 A B C m] w fun x w'=>x=UnV (askR 56 v u)∧Bl w w':=by
 have er:askR 56 v u=.ok (toldI (false)):=by unfold askR;rw[hg];rfl
 rw[er];clear er;have hv:=ζ (fun X g=>hv0.bl (W:=X) g);have hu:=ζ (fun X g=>hu0.bl (W:=X) g);have hC16:(C:Int)<16:=by have:=hu0.rl;omega
 have hT:=ζ (told_any (false));simp only[UnV];replace hg:=ζ hg;clear hv0 hu0;unfold insA;have A0:=ζ (At.new w #[.int .u8 56,.int .i64 A,.int .i64 B,.int .i64 C,.int .i64 m] 29);have g0:Hz (Bl w (w.alloc (.cells #[.int .u8 56,.int .i64 A,.int .i64 B,.int .i64 C,.int .i64 m] 29))):=ζ ((Bl.refl w).alloc _);have hB16:(B:Int)<16:=by have:=(hv.out _ (Bl.refl w)).rl;omega
 go_enter Tryz.func70,Tryz.ntmps70;go_upto_region 1 with fail
 refine wp_world (fun W=>At W w.heap.size #[.int .u8 56,.int .i64 A,.int .i64 B,.int .i64 C,.int .i64 m]∧Bl w W) ⟨A0.out,g0.out⟩ ?_;clear A0 g0;rintro W ⟨A0,g0⟩;replace A0:=ζ ((Bl.refl W).drew.at_ A0);replace g0:=ζ g0.drew;refine wp_region_held_drew (S:=(fun X=>X.cell? ⟨w.heap.size,2,none⟩=some (.int .i64 B)∧X.rangeAt a (7+B*7) [Value.bool v.g,.int .u64 v.n,.int .u64 v.c.b,.int .u64 v.c.e,.int .u64 v.c.c,.int .u8 v.c.p,.int .i64 v.c.s])) (by kernel_rfl) (⟨A0.out.2.1 2,rg_row (hv.out _ g0.out)⟩) (fun hHeld=>?_);generalize W.drew=X0 at*;refine xz 0 rfl (h:=xz 1 rfl (h:=xz 2 rfl (h:=xz 3 rfl (h:=xz 4 rfl (h:=xz 5 rfl (h:=xz 6 rfl (h:=?_)))))));try simp only[xap]
 refine xtk 7 rfl (yieldsIf_load_mid (by rfl) _ _ rfl _ _ rfl _ _ (fun _ h=>h.2) Tryz.underlying75 rfl (by kernel_rfl)) ?_;try simp only[xap]
 refine xrd 8 rfl (fun K hK=>?_);go_simp;have A5:=ζ (At.new X0 (List.toArray [Value.bool false,.int .u64 0,.int .u64 0,.int .u64 0,.int .u64 0,.int .u8 0,.int .i64 0]) 75);have hn5:Hz (w.heap.size≠X0.heap.size):=ζ (by have:=A0.out.1;omega);have hk5:Hz (w.heap.size≤X0.heap.size):=ζ g0.out.size;replace A0:=ζ (A0.out.alloc (.cells (List.toArray [Value.bool false,.int .u64 0,.int .u64 0,.int .u64 0,.int .u64 0,.int .u8 0,.int .i64 0]) 75));replace g0:=ζ (g0.out.alloc (.cells (List.toArray [Value.bool false,.int .u64 0,.int .u64 0,.int .u64 0,.int .u64 0,.int .u8 0,.int .i64 0]) 75));refine hK.out _ _ ⟨A0.out.2.1 2,rg_row (hv.out _ g0.out)⟩ (fun hHeld=>?_);clear hK K;generalize X0.alloc (.cells (List.toArray [Value.bool false,.int .u64 0,.int .u64 0,.int .u64 0,.int .u64 0,.int .u8 0,.int .i64 0]) 75)=X1 at*;generalize X0.heap.size=k5 at*;try simp only[xap]
 refine xrd 9 rfl (fun K hK=>?_);rw[if_pos (by rfl)];refine wp_store_mid _ _ _ rfl _ _ (List.toArray [Value.bool v.g,.int .u64 v.n,.int .u64 v.c.b,.int .u64 v.c.e,.int .u64 v.c.c,.int .u8 v.c.p,.int .i64 v.c.s]) rfl rfl (At.there A5.out 0 7 (by decide)) (by kernel_rfl) (by simp[Value.oneCell']) ?_;replace A0:=ζ (A0.out.other hn5.out 0 [Value.bool v.g,.int .u64 v.n,.int .u64 v.c.b,.int .u64 v.c.e,.int .u64 v.c.c,.int .u8 v.c.p,.int .i64 v.c.s]);replace A5:=ζ (At.setAll (cs:=[Value.bool false,.int .u64 0,.int .u64 0,.int .u64 0,.int .u64 0,.int .u8 0,.int .i64 0]) A5.out [Value.bool v.g,.int .u64 v.n,.int .u64 v.c.b,.int .u64 v.c.e,.int .u64 v.c.c,.int .u8 v.c.p,.int .i64 v.c.s] rfl);replace g0:=ζ (g0.out.sets k5 hk5.out [Value.bool v.g,.int .u64 v.n,.int .u64 v.c.b,.int .u64 v.c.e,.int .u64 v.c.c,.int .u8 v.c.p,.int .i64 v.c.s] 0);refine hK.out _ _ ⟨A0.out.2.1 2,rg_row (hv.out _ g0.out)⟩ (fun hHeld=>?_)
 clear hK K hHeld;try simp only[Act.put]
 refine xdn ?_ _;try simp only[Act.put]
 generalize World.setCells _ _ _ _=Y at*;have c0:Y.cell? ⟨w.heap.size,0,none⟩=some (.int .u8 56):=A0.out.2.1 0;go_upto_region 6 with fail
 clear c0;replace A0:=ζ ((Bl.refl Y).drew.at_ A0.out);replace A5:=ζ ((Bl.refl Y).drew.at_ A5.out);replace g0:=ζ g0.out.drew;refine wp_region_held_drew (S:=(fun X=>X.cell? ⟨k5,0,none⟩=some (.bool false)∧X.rangeAt k5 0 [Value.bool v.g,.int .u64 v.n,.int .u64 v.c.b,.int .u64 v.c.e,.int .u64 v.c.c,.int .u8 v.c.p,.int .i64 v.c.s]∧X.cell? ⟨w.heap.size,3,none⟩=some (.int .i64 C)∧X.rangeAt a (7+C*7) [Value.bool u.g,.int .u64 u.n,.int .u64 u.c.b,.int .u64 u.c.e,.int .u64 u.c.c,.int .u8 u.c.p,.int .i64 u.c.s])) (by kernel_rfl) (⟨(A5.out.2.1 0).trans (by simp[hg.out]),(fun j x q=>by rw[Nat.zero_add];exact(A5.out.2.1 j).trans (by simpa using q)),A0.out.2.1 3,rg_row (hu.out _ g0.out)⟩) (fun hHeld=>?_);generalize Y.drew=Yd at*;refine xz 0 rfl (h:=xz 1 rfl (h:=xz 2 rfl (h:=?_)));try simp only[xap]
 refine xtk 3 (v:=undef) rfl (Or.inr ⟨by rfl,rfl⟩) ?_;try simp only[xap]
 refine xtk 4 (v:=undef) rfl (Or.inr ⟨by rfl,rfl⟩) ?_;try simp only[xap]
 refine xtk 5 (v:=undef) rfl (Or.inr ⟨by rfl,rfl⟩) ?_;try simp only[xap]
 refine xtk 6 (v:=undef) rfl (Or.inr ⟨by rfl,rfl⟩) ?_;try simp only[xap]
 refine xtk 7 (v:=undef) rfl (Or.inr ⟨by rfl,rfl⟩) ?_;try simp only[xap]
 refine xtk 8 (v:=undef) rfl (Or.inr ⟨by rfl,rfl⟩) ?_;try simp only[xap]
 refine xtk 9 (v:=undef) rfl (Or.inr ⟨by rfl,rfl⟩) ?_;try simp only[xap]
 refine xtk 10 (v:=undef) rfl (Or.inr ⟨by rfl,rfl⟩) ?_;try simp only[xap]
 refine xtk 11 (v:=undef) rfl (Or.inr ⟨by rfl,rfl⟩) ?_;try simp only[xap]
 refine xtk 12 (v:=undef) rfl (Or.inr ⟨by rfl,rfl⟩) ?_;try simp only[xap]
 refine xz 13 rfl (h:=?_);try simp only[xap]
 refine xrd 14 rfl (fun K hK=>?_);go_simp;go_wp2_with(refine(hT.out _).mono ?_;rintro r Y2 ⟨rfl,rfl⟩;clear hHeld);refine hK.out _ _ ⟨(A5.out.2.1 0).trans (by simp[hg.out]),(fun j x q=>by rw[Nat.zero_add];exact(A5.out.2.1 j).trans (by simpa using q)),A0.out.2.1 3,rg_row (hu.out _ g0.out)⟩ (fun hHeld=>?_);clear hK K;try simp only[xap]
 refine xz 15 rfl (h:=?_);try simp only[xap]
 refine xdn ?_ _;clear hHeld;go_wp2_with fail;go_ret;exact⟨rfl,g0.out⟩
theorem asked56_t (a A B C:Nat)(m:Int)(v u:Vl)(w:World)(hv0:RgAt w a B v)(hu0:RgAt w a C u)(hg:v.g=true):
 Calls Tryz.prog 70 #[.pointer (some ⟨a,0,none⟩),insA 56 A B C m] w fun x w'=>x=UnV (askR 56 v u)∧Bl w w':=by
 have er:askR 56 v u=.ok (toldI (vlB v u)):=by unfold askR;rw[hg];rfl
 rw[er];clear er;have hv:=ζ (fun X g=>hv0.bl (W:=X) g);have hu:=ζ (fun X g=>hu0.bl (W:=X) g);have hC16:(C:Int)<16:=by have:=hu0.rl;omega
 have hT:=ζ (told_any (vlB v u));simp only[UnV];replace hg:=ζ hg;have hE:Hz (∀X,(binOp .eql 75 (.agg (List.toArray [Value.bool v.g,.int .u64 v.n,.int .u64 v.c.b,.int .u64 v.c.e,.int .u64 v.c.c,.int .u8 v.c.p,.int .i64 v.c.s])) (.agg (List.toArray [Value.bool u.g,.int .u64 u.n,.int .u64 u.c.b,.int .u64 u.c.e,.int .u64 u.c.c,.int .u8 u.c.p,.int .i64 u.c.s]))).run Tryz.prog X=.ok (.bool (vlB v u)) X):=ζ (fun X=>vl_eql v u X);clear hv0 hu0;unfold insA;have A0:=ζ (At.new w #[.int .u8 56,.int .i64 A,.int .i64 B,.int .i64 C,.int .i64 m] 29);have g0:Hz (Bl w (w.alloc (.cells #[.int .u8 56,.int .i64 A,.int .i64 B,.int .i64 C,.int .i64 m] 29))):=ζ ((Bl.refl w).alloc _);have hB16:(B:Int)<16:=by have:=(hv.out _ (Bl.refl w)).rl;omega
 go_enter Tryz.func70,Tryz.ntmps70;go_upto_region 1 with fail
 refine wp_world (fun W=>At W w.heap.size #[.int .u8 56,.int .i64 A,.int .i64 B,.int .i64 C,.int .i64 m]∧Bl w W) ⟨A0.out,g0.out⟩ ?_;clear A0 g0;rintro W ⟨A0,g0⟩;replace A0:=ζ ((Bl.refl W).drew.at_ A0);replace g0:=ζ g0.drew;refine wp_region_held_drew (S:=(fun X=>X.cell? ⟨w.heap.size,2,none⟩=some (.int .i64 B)∧X.rangeAt a (7+B*7) [Value.bool v.g,.int .u64 v.n,.int .u64 v.c.b,.int .u64 v.c.e,.int .u64 v.c.c,.int .u8 v.c.p,.int .i64 v.c.s])) (by kernel_rfl) (⟨A0.out.2.1 2,rg_row (hv.out _ g0.out)⟩) (fun hHeld=>?_);generalize W.drew=X0 at*;refine xz 0 rfl (h:=xz 1 rfl (h:=xz 2 rfl (h:=xz 3 rfl (h:=xz 4 rfl (h:=xz 5 rfl (h:=xz 6 rfl (h:=?_)))))));try simp only[xap]
 refine xtk 7 rfl (yieldsIf_load_mid (by rfl) _ _ rfl _ _ rfl _ _ (fun _ h=>h.2) Tryz.underlying75 rfl (by kernel_rfl)) ?_;try simp only[xap]
 refine xrd 8 rfl (fun K hK=>?_);go_simp;have A5:=ζ (At.new X0 (List.toArray [Value.bool false,.int .u64 0,.int .u64 0,.int .u64 0,.int .u64 0,.int .u8 0,.int .i64 0]) 75);have hn5:Hz (w.heap.size≠X0.heap.size):=ζ (by have:=A0.out.1;omega);have hk5:Hz (w.heap.size≤X0.heap.size):=ζ g0.out.size;replace A0:=ζ (A0.out.alloc (.cells (List.toArray [Value.bool false,.int .u64 0,.int .u64 0,.int .u64 0,.int .u64 0,.int .u8 0,.int .i64 0]) 75));replace g0:=ζ (g0.out.alloc (.cells (List.toArray [Value.bool false,.int .u64 0,.int .u64 0,.int .u64 0,.int .u64 0,.int .u8 0,.int .i64 0]) 75));refine hK.out _ _ ⟨A0.out.2.1 2,rg_row (hv.out _ g0.out)⟩ (fun hHeld=>?_);clear hK K;generalize X0.alloc (.cells (List.toArray [Value.bool false,.int .u64 0,.int .u64 0,.int .u64 0,.int .u64 0,.int .u8 0,.int .i64 0]) 75)=X1 at*;generalize X0.heap.size=k5 at*;try simp only[xap]
 refine xrd 9 rfl (fun K hK=>?_);rw[if_pos (by rfl)];refine wp_store_mid _ _ _ rfl _ _ (List.toArray [Value.bool v.g,.int .u64 v.n,.int .u64 v.c.b,.int .u64 v.c.e,.int .u64 v.c.c,.int .u8 v.c.p,.int .i64 v.c.s]) rfl rfl (At.there A5.out 0 7 (by decide)) (by kernel_rfl) (by simp[Value.oneCell']) ?_;replace A0:=ζ (A0.out.other hn5.out 0 [Value.bool v.g,.int .u64 v.n,.int .u64 v.c.b,.int .u64 v.c.e,.int .u64 v.c.c,.int .u8 v.c.p,.int .i64 v.c.s]);replace A5:=ζ (At.setAll (cs:=[Value.bool false,.int .u64 0,.int .u64 0,.int .u64 0,.int .u64 0,.int .u8 0,.int .i64 0]) A5.out [Value.bool v.g,.int .u64 v.n,.int .u64 v.c.b,.int .u64 v.c.e,.int .u64 v.c.c,.int .u8 v.c.p,.int .i64 v.c.s] rfl);replace g0:=ζ (g0.out.sets k5 hk5.out [Value.bool v.g,.int .u64 v.n,.int .u64 v.c.b,.int .u64 v.c.e,.int .u64 v.c.c,.int .u8 v.c.p,.int .i64 v.c.s] 0);refine hK.out _ _ ⟨A0.out.2.1 2,rg_row (hv.out _ g0.out)⟩ (fun hHeld=>?_)
 clear hK K hHeld;try simp only[Act.put]
 refine xdn ?_ _;try simp only[Act.put]
 generalize World.setCells _ _ _ _=Y at*;have c0:Y.cell? ⟨w.heap.size,0,none⟩=some (.int .u8 56):=A0.out.2.1 0;go_upto_region 6 with fail
 clear c0;replace A0:=ζ ((Bl.refl Y).drew.at_ A0.out);replace A5:=ζ ((Bl.refl Y).drew.at_ A5.out);replace g0:=ζ g0.out.drew;refine wp_region_held_drew (S:=(fun X=>X.cell? ⟨k5,0,none⟩=some (.bool true)∧X.rangeAt k5 0 [Value.bool v.g,.int .u64 v.n,.int .u64 v.c.b,.int .u64 v.c.e,.int .u64 v.c.c,.int .u8 v.c.p,.int .i64 v.c.s]∧X.cell? ⟨w.heap.size,3,none⟩=some (.int .i64 C)∧X.rangeAt a (7+C*7) [Value.bool u.g,.int .u64 u.n,.int .u64 u.c.b,.int .u64 u.c.e,.int .u64 u.c.c,.int .u8 u.c.p,.int .i64 u.c.s])) (by kernel_rfl) (⟨(A5.out.2.1 0).trans (by simp[hg.out]),(fun j x q=>by rw[Nat.zero_add];exact(A5.out.2.1 j).trans (by simpa using q)),A0.out.2.1 3,rg_row (hu.out _ g0.out)⟩) (fun hHeld=>?_);generalize Y.drew=Yd at*;refine xz 0 rfl (h:=xz 1 rfl (h:=xz 2 rfl (h:=?_)));try simp only[xap]
 refine xtk 3 rfl (yieldsIf_load_mid (by rfl) _ _ rfl _ _ rfl _ _ (fun _ h=>h.2.1) Tryz.underlying75 rfl (by kernel_rfl)) ?_;try simp only[xap]
 refine xz 4 rfl (h:=?_);try simp only[xap]
 refine xz 5 rfl (h:=?_);try simp only[xap]
 refine xz 6 rfl (h:=?_);try simp only[xap]
 refine xz 7 rfl (h:=?_);try simp only[xap]
 refine xz 8 rfl (h:=?_);try simp only[xap]
 refine xz 9 rfl (h:=?_);try simp only[xap]
 refine xz 10 rfl (h:=?_);try simp only[xap]
 refine xtk 11 rfl (yieldsIf_load_mid (by rfl) _ _ rfl _ _ rfl _ _ (fun _ h=>h.2.2.2) Tryz.underlying75 rfl (by kernel_rfl)) ?_;try simp only[xap]
 refine xtk 12 (v:=.bool (vlB v u)) rfl (Or.inl ⟨by rfl,?_⟩) ?_
 ·intro w hSw;(try dsimp only at hSw);go_simp;unfold vlB;(repeat' split)<;>(simp_all<;>omega)
 try simp only[xap]
 refine xz 13 rfl (h:=?_);try simp only[xap]
 refine xrd 14 rfl (fun K hK=>?_);go_simp;go_wp2_with(refine(hT.out _).mono ?_;rintro r Y2 ⟨rfl,rfl⟩;clear hHeld);refine hK.out _ _ ⟨(A5.out.2.1 0).trans (by simp[hg.out]),(fun j x q=>by rw[Nat.zero_add];exact(A5.out.2.1 j).trans (by simpa using q)),A0.out.2.1 3,rg_row (hu.out _ g0.out)⟩ (fun hHeld=>?_);clear hK K;try simp only[xap]
 refine xz 15 rfl (h:=?_);try simp only[xap]
 refine xdn ?_ _;clear hHeld;go_wp2_with fail;go_ret;exact⟨rfl,g0.out⟩
open T (Sep Ob Kp Mf TgIn boxOb Fm Tc Ed Vl Cp Bx tgOb mRow updV flt ofI ofI_agg toldI integer_any capability_any)
theorem asked_any (a:Nat)(op:Int)(A B C:Nat)(m:Int)(v u:Vl)(w:World)(hv:RgAt w a B v)(hu:RgAt w a C u)(hop:50≤op∧op≤56):
 Calls Tryz.prog 70 #[.pointer (some ⟨a,0,none⟩),insA op A B C m] w fun x w'=>x=UnV (askR op v u)∧Bl w w':=by
 have ho:op=50∨op=51∨op=52∨op=53∨op=54∨op=55∨op=56:=by omega
 cases hg:v.g with
 |false=>
  rcases ho with rfl|rfl|rfl|rfl|rfl|rfl|rfl
  ·exact asked_b 50 (by omega) a A B C m v u w hv hu hg
  ·exact asked_b 51 (by omega) a A B C m v u w hv hu hg
  ·exact asked_b 52 (by omega) a A B C m v u w hv hu hg
  ·exact asked_b 53 (by omega) a A B C m v u w hv hu hg
  ·exact asked_b 54 (by omega) a A B C m v u w hv hu hg
  ·exact asked55 a A B C m v u w hv hu
  ·exact asked56_f a A B C m v u w hv hu hg
 |true=>
  rcases ho with rfl|rfl|rfl|rfl|rfl|rfl|rfl
  ·exact asked_ok 50 (by omega) a A B C m v u w hv hu hg
  ·exact asked_ok 51 (by omega) a A B C m v u w hv hu hg
  ·exact asked_ok 52 (by omega) a A B C m v u w hv hu hg
  ·exact asked_ok 53 (by omega) a A B C m v u w hv hu hg
  ·exact asked_ok 54 (by omega) a A B C m v u w hv hu hg
  ·exact asked55 a A B C m v u w hv hu
  ·exact asked56_t a A B C m v u w hv hu hg
def layM (s:Ms)(A:Nat):Except Ed Vl→Except Ed Ms
 |.error e=>.error e
 |.ok v=>.ok (s.put A v).next
theorem do_num (B:Nat)(W0:World)(a:Nat)(P:PImg)(s:Ms)(l:List Ob)(op:Int)(A B_ C_:Nat)(m:Int)(h:MIn B W0 a P s l)(hA:A<16)(hB_:B_<16)(hC_:C_<16)(hp:s.at_.pc<1000000000)(hn:(s.at_.regs C_).n<18446744073709551616)(hop:1≤op∧op≤13):
 Calls Tryz.prog 39 #[.pointer (some ⟨a,0,none⟩),insA op A B_ C_ m] W0 fun x w'=>Dv B W0 a P s l (layM s A (recM s op B_ C_ m)) x w':=by
 have h2:=ζ (h.new #[.int .u8 op,.int .i64 A,.int .i64 B_,.int .i64 C_,.int .i64 m] 29);have h1:=ζ (fun X l' (q:MIn B X a P s l')=>(reckoned_any a op A B_ C_ m s X (q.rg B_ hB_) (q.rg C_ hC_) hn hop).mono (R':=fun x w'=>x=Rv (recM s op B_ C_ m)∧Bl X w') (by rintro x w' ⟨rfl,g⟩;exact⟨rfl,g.below⟩));have d13:decide (op≤13)=true:=by simp;omega
 have d32:decide (op≤32)=true:=by simp;omega
 have d46:decide (op≤46)=true:=by simp;omega
 have d56:decide (op≤56)=true:=by simp;omega
 have d65:decide (op≤65)=true:=by simp;omega
 clear h hop hB_ hC_
 cases hq:recM s op B_ C_ m with
 |error e=>
  rw[hq]at h1;clear hq;unfold insA at*;simp only[Rv,pan]at h1;simp only[layM,Dv,pan];go_enter Tryz.func39,Tryz.ntmps39;go_upto_region 1 with fail
  refine wp_world (fun W=>MIn B W a P s (boxOb W0.heap.size #[.int .u8 op,.int .i64 A,.int .i64 B_,.int .i64 C_,.int .i64 m]::l)∧Below B W0 W) h2.out ?_;clear h2;rintro W ⟨h,hB⟩;generalize W0.heap.size=kb at*;have c0:W.cell? ⟨kb,0,none⟩=some (.int .u8 op):=(h.there (boxOb kb #[.int .u8 op,.int .i64 A,.int .i64 B_,.int .i64 C_,.int .i64 m]) (.head _)).2.1 0;replace hB:=ζ hB;replace h:=ζ h;go_upto_region 4 with fail
  clear c0;replace hB:=ζ (hB.out.trans (h.out.bl (Bl.refl W).drew).2);replace h:=ζ (h.out.bl (Bl.refl W).drew).1;refine wp_region_held_drew (S:=(fun X=>X.cell? ⟨kb,1,none⟩=some (.int .i64 A)∧X.rangeAt kb 0 [Value.int .u8 op,.int .i64 A,.int .i64 B_,.int .i64 C_,.int .i64 m])) (by kernel_rfl) (⟨(h.out.there (boxOb kb #[.int .u8 op,.int .i64 A,.int .i64 B_,.int .i64 C_,.int .i64 m]) (.head _)).2.1 1,fun j x q=>by rw[Nat.zero_add];exact((h.out.there (boxOb kb #[.int .u8 op,.int .i64 A,.int .i64 B_,.int .i64 C_,.int .i64 m]) (.head _)).2.1 j).trans (by simpa using q)⟩) (fun hHeld=>?_);generalize W.drew=X0 at*;refine xz 0 rfl (h:=xz 1 rfl (h:=xz 2 rfl (h:=xz 3 rfl (h:=?_))));try simp only[xap]
  refine xtk 4 rfl (yieldsIf_load_mid (by rfl) _ _ rfl _ _ rfl _ _ (fun _ h=>h.2) Tryz.underlying29 rfl (by kernel_rfl)) ?_;try simp only[xap]
  refine xrd 5 rfl (fun K hK=>?_);go_simp;go_wp2_with(refine(h1.out _ _ h.out).mono ?_;rintro r Y1 ⟨rfl,e1⟩);exact⟨rfl,rfl,(h.out.bl e1).1.drop,hB.out.trans (h.out.bl e1).2⟩
 |ok r0=>
  rw[hq]at h1;have hLy:=ζ (fun X l' (q:MIn B X a P s l')=>lay_any B a A r0 P _ _ X q hA hp);simp only[Rv,Vl.agg]at h1 hLy;clear hq;unfold insA at*;simp only[layM,Dv];go_enter Tryz.func39,Tryz.ntmps39;go_upto_region 1 with fail
  refine wp_world (fun W=>MIn B W a P s (boxOb W0.heap.size #[.int .u8 op,.int .i64 A,.int .i64 B_,.int .i64 C_,.int .i64 m]::l)∧Below B W0 W) h2.out ?_;clear h2;rintro W ⟨h,hB⟩;generalize W0.heap.size=kb at*;have c0:W.cell? ⟨kb,0,none⟩=some (.int .u8 op):=(h.there (boxOb kb #[.int .u8 op,.int .i64 A,.int .i64 B_,.int .i64 C_,.int .i64 m]) (.head _)).2.1 0;replace hB:=ζ hB;replace h:=ζ h;go_upto_region 4 with fail
  clear c0;replace hB:=ζ (hB.out.trans (h.out.bl (Bl.refl W).drew).2);replace h:=ζ (h.out.bl (Bl.refl W).drew).1;refine wp_region_held_drew (S:=(fun X=>X.cell? ⟨kb,1,none⟩=some (.int .i64 A)∧X.rangeAt kb 0 [Value.int .u8 op,.int .i64 A,.int .i64 B_,.int .i64 C_,.int .i64 m])) (by kernel_rfl) (⟨(h.out.there (boxOb kb #[.int .u8 op,.int .i64 A,.int .i64 B_,.int .i64 C_,.int .i64 m]) (.head _)).2.1 1,fun j x q=>by rw[Nat.zero_add];exact((h.out.there (boxOb kb #[.int .u8 op,.int .i64 A,.int .i64 B_,.int .i64 C_,.int .i64 m]) (.head _)).2.1 j).trans (by simpa using q)⟩) (fun hHeld=>?_);generalize W.drew=X0 at*;refine xz 0 rfl (h:=xz 1 rfl (h:=xz 2 rfl (h:=xz 3 rfl (h:=?_))));try simp only[xap]
  refine xtk 4 rfl (yieldsIf_load_mid (by rfl) _ _ rfl _ _ rfl _ _ (fun _ h=>h.2) Tryz.underlying29 rfl (by kernel_rfl)) ?_;try simp only[xap]
  refine xrd 5 rfl (fun K hK=>?_);go_simp;go_wp2_with(refine(h1.out _ _ h.out).mono ?_;rintro r Y1 ⟨rfl,e1⟩;replace hB:=ζ (hB.out.trans (h.out.bl e1).2);replace h:=ζ (h.out.bl e1).1;clear e1 hHeld);refine hK.out _ _ ⟨(h.out.there (boxOb kb #[.int .u8 op,.int .i64 A,.int .i64 B_,.int .i64 C_,.int .i64 m]) (.head _)).2.1 1,fun j x q=>by rw[Nat.zero_add];exact((h.out.there (boxOb kb #[.int .u8 op,.int .i64 A,.int .i64 B_,.int .i64 C_,.int .i64 m]) (.head _)).2.1 j).trans (by simpa using q)⟩ (fun hHeld=>?_);clear hK K;try simp only[xap]
  refine xrd 6 rfl (fun K hK=>?_);go_simp;go_wp2_with(refine(hLy.out _ _ h.out).mono ?_;rintro r Y3 ⟨rfl,h6,hB6⟩;replace hB:=ζ (hB.out.trans hB6);replace h:=ζ h6;clear h6 hB6 hHeld);refine hK.out _ _ ⟨(h.out.there (boxOb kb #[.int .u8 op,.int .i64 A,.int .i64 B_,.int .i64 C_,.int .i64 m]) (.head _)).2.1 1,fun j x q=>by rw[Nat.zero_add];exact((h.out.there (boxOb kb #[.int .u8 op,.int .i64 A,.int .i64 B_,.int .i64 C_,.int .i64 m]) (.head _)).2.1 j).trans (by simpa using q)⟩ (fun hHeld=>?_);clear hK K;try simp only[xap]
  refine xdn ?_ _;clear hHeld;go_wp2_with fail
  first|go_end0|((try simp only[Exit.inBlock,Exit.then]);refine xre ?_)
  exact⟨rfl,h.out.drop,hB.out⟩
theorem do_steer (B:Nat)(W0:World)(a:Nat)(P:PImg)(s:Ms)(l:List Ob)(op:Int)(A B_ C_:Nat)(m:Int)(q:Except Ed Ms)(h:MIn B W0 a P s l)(hop:14≤op∧op≤32)
 (hS:∀X l',MIn B X a P s l'→Calls Tryz.prog 68 #[.pointer (some ⟨a,0,none⟩),insA op A B_ C_ m] X fun x w'=>Dv B X a P s l' q x w'):
 Calls Tryz.prog 39 #[.pointer (some ⟨a,0,none⟩),insA op A B_ C_ m] W0 fun x w'=>Dv B W0 a P s l (q) x w':=by
 have h2:=ζ (h.new #[.int .u8 op,.int .i64 A,.int .i64 B_,.int .i64 C_,.int .i64 m] 29);have hC:=ζ (fun X l' (q:MIn B X a P s l')=>hS X l' q);have d13:decide (op≤13)=false:=by simp;omega
 have d32:decide (op≤32)=true:=by simp;omega
 have d46:decide (op≤46)=true:=by simp;omega
 have d56:decide (op≤56)=true:=by simp;omega
 have d65:decide (op≤65)=true:=by simp;omega
 clear h hS hop;unfold insA at*
 cases q with
 |error e=>
  simp only[Dv,pan]at hC ⊢;go_enter Tryz.func39,Tryz.ntmps39;go_upto_region 1 with fail
  refine wp_world (fun W=>MIn B W a P s (boxOb W0.heap.size #[.int .u8 op,.int .i64 A,.int .i64 B_,.int .i64 C_,.int .i64 m]::l)∧Below B W0 W) h2.out ?_;clear h2;rintro W ⟨h,hB⟩;generalize W0.heap.size=kb at*;have⟨_,p0,_⟩:=h.there (boxOb kb #[.int .u8 op,.int .i64 A,.int .i64 B_,.int .i64 C_,.int .i64 m]) (.head _);replace h:=ζ h;replace hB:=ζ hB;go_wp2_with(refine(hC.out _ _ h.out).mono ?_;rintro x w1 ⟨rfl,h1,hB1⟩);exact⟨rfl,rfl,h1.drop,hB.out.trans hB1⟩
 |ok s'=>
  simp only[Dv]at hC ⊢;go_enter Tryz.func39,Tryz.ntmps39;go_upto_region 1 with fail
  refine wp_world (fun W=>MIn B W a P s (boxOb W0.heap.size #[.int .u8 op,.int .i64 A,.int .i64 B_,.int .i64 C_,.int .i64 m]::l)∧Below B W0 W) h2.out ?_;clear h2;rintro W ⟨h,hB⟩;generalize W0.heap.size=kb at*;have⟨_,p0,_⟩:=h.there (boxOb kb #[.int .u8 op,.int .i64 A,.int .i64 B_,.int .i64 C_,.int .i64 m]) (.head _);replace h:=ζ h;replace hB:=ζ hB;go_wp2_with fail;refine(hC.out _ _ h.out).mono ?_;rintro x w1 ⟨rfl,h1,hB1⟩;replace h1:=ζ h1;replace hB1:=ζ hB1;clear p0;go_wp2_with fail
  first|go_end0|((try simp only[Exit.inBlock,Exit.then]);refine xre ?_)
  exact⟨rfl,h1.out.drop,hB.out.trans hB1.out⟩
theorem do_touch (B:Nat)(W0:World)(a:Nat)(P:PImg)(s:Ms)(l:List Ob)(op:Int)(A B_ C_:Nat)(m:Int)(q:Except Ed Ms)(h:MIn B W0 a P s l)(hop:57≤op∧op≤65)
 (hS:∀X l',MIn B X a P s l'→Calls Tryz.prog 71 #[.pointer (some ⟨a,0,none⟩),insA op A B_ C_ m] X fun x w'=>Dv B X a P s l' q x w'):
 Calls Tryz.prog 39 #[.pointer (some ⟨a,0,none⟩),insA op A B_ C_ m] W0 fun x w'=>Dv B W0 a P s l (q) x w':=by
 have h2:=ζ (h.new #[.int .u8 op,.int .i64 A,.int .i64 B_,.int .i64 C_,.int .i64 m] 29);have hC:=ζ (fun X l' (q:MIn B X a P s l')=>hS X l' q);have d13:decide (op≤13)=false:=by simp;omega
 have d32:decide (op≤32)=false:=by simp;omega
 have d46:decide (op≤46)=false:=by simp;omega
 have d56:decide (op≤56)=false:=by simp;omega
 have d65:decide (op≤65)=true:=by simp;omega
 clear h hS hop;unfold insA at*
 cases q with
 |error e=>
  simp only[Dv,pan]at hC ⊢;go_enter Tryz.func39,Tryz.ntmps39;go_upto_region 1 with fail
  refine wp_world (fun W=>MIn B W a P s (boxOb W0.heap.size #[.int .u8 op,.int .i64 A,.int .i64 B_,.int .i64 C_,.int .i64 m]::l)∧Below B W0 W) h2.out ?_;clear h2;rintro W ⟨h,hB⟩;generalize W0.heap.size=kb at*;have⟨_,p0,_⟩:=h.there (boxOb kb #[.int .u8 op,.int .i64 A,.int .i64 B_,.int .i64 C_,.int .i64 m]) (.head _);replace h:=ζ h;replace hB:=ζ hB;go_wp2_with(refine(hC.out _ _ h.out).mono ?_;rintro x w1 ⟨rfl,h1,hB1⟩);exact⟨rfl,rfl,h1.drop,hB.out.trans hB1⟩
 |ok s'=>
  simp only[Dv]at hC ⊢;go_enter Tryz.func39,Tryz.ntmps39;go_upto_region 1 with fail
  refine wp_world (fun W=>MIn B W a P s (boxOb W0.heap.size #[.int .u8 op,.int .i64 A,.int .i64 B_,.int .i64 C_,.int .i64 m]::l)∧Below B W0 W) h2.out ?_;clear h2;rintro W ⟨h,hB⟩;generalize W0.heap.size=kb at*;have⟨_,p0,_⟩:=h.there (boxOb kb #[.int .u8 op,.int .i64 A,.int .i64 B_,.int .i64 C_,.int .i64 m]) (.head _);replace h:=ζ h;replace hB:=ζ hB;go_wp2_with fail;refine(hC.out _ _ h.out).mono ?_;rintro x w1 ⟨rfl,h1,hB1⟩;replace h1:=ζ h1;replace hB1:=ζ hB1;clear p0;go_wp2_with fail
  first|go_end0|((try simp only[Exit.inBlock,Exit.then]);refine xre ?_)
  exact⟨rfl,h1.out.drop,hB.out.trans hB1.out⟩
theorem do_guard (B:Nat)(W0:World)(a:Nat)(P:PImg)(s:Ms)(l:List Ob)(op:Int)(A B_ C_:Nat)(m:Int)(q:Except Ed Ms)(h:MIn B W0 a P s l)(hop:66≤op∧op≤255)
 (hS:∀X l',MIn B X a P s l'→Calls Tryz.prog 72 #[.pointer (some ⟨a,0,none⟩),insA op A B_ C_ m] X fun x w'=>Dv B X a P s l' q x w'):
 Calls Tryz.prog 39 #[.pointer (some ⟨a,0,none⟩),insA op A B_ C_ m] W0 fun x w'=>Dv B W0 a P s l (q) x w':=by
 have h2:=ζ (h.new #[.int .u8 op,.int .i64 A,.int .i64 B_,.int .i64 C_,.int .i64 m] 29);have hC:=ζ (fun X l' (q:MIn B X a P s l')=>hS X l' q);have d13:decide (op≤13)=false:=by simp;omega
 have d32:decide (op≤32)=false:=by simp;omega
 have d46:decide (op≤46)=false:=by simp;omega
 have d56:decide (op≤56)=false:=by simp;omega
 have d65:decide (op≤65)=false:=by simp;omega
 clear h hS hop;unfold insA at*
 cases q with
 |error e=>
  simp only[Dv,pan]at hC ⊢;go_enter Tryz.func39,Tryz.ntmps39;go_upto_region 1 with fail
  refine wp_world (fun W=>MIn B W a P s (boxOb W0.heap.size #[.int .u8 op,.int .i64 A,.int .i64 B_,.int .i64 C_,.int .i64 m]::l)∧Below B W0 W) h2.out ?_;clear h2;rintro W ⟨h,hB⟩;generalize W0.heap.size=kb at*;have⟨_,p0,_⟩:=h.there (boxOb kb #[.int .u8 op,.int .i64 A,.int .i64 B_,.int .i64 C_,.int .i64 m]) (.head _);replace h:=ζ h;replace hB:=ζ hB;go_wp2_with(refine(hC.out _ _ h.out).mono ?_;rintro x w1 ⟨rfl,h1,hB1⟩);exact⟨rfl,rfl,h1.drop,hB.out.trans hB1⟩
 |ok s'=>
  simp only[Dv]at hC ⊢;go_enter Tryz.func39,Tryz.ntmps39;go_upto_region 1 with fail
  refine wp_world (fun W=>MIn B W a P s (boxOb W0.heap.size #[.int .u8 op,.int .i64 A,.int .i64 B_,.int .i64 C_,.int .i64 m]::l)∧Below B W0 W) h2.out ?_;clear h2;rintro W ⟨h,hB⟩;generalize W0.heap.size=kb at*;have⟨_,p0,_⟩:=h.there (boxOb kb #[.int .u8 op,.int .i64 A,.int .i64 B_,.int .i64 C_,.int .i64 m]) (.head _);replace h:=ζ h;replace hB:=ζ hB;go_wp2_with fail;refine(hC.out _ _ h.out).mono ?_;rintro x w1 ⟨rfl,h1,hB1⟩;replace h1:=ζ h1;replace hB1:=ζ hB1;clear p0;go_wp2_with fail
  first|go_end0|((try simp only[Exit.inBlock,Exit.then]);refine xre ?_)
  exact⟨rfl,h1.out.drop,hB.out.trans hB1.out⟩
open T (Sep Ob Kp Mf TgIn boxOb Fm Tc Ed Vl Cp Bx tgOb mRow updV flt)
theorem steer21 (B:Nat)(W0:World)(a:Nat)(P:PImg)(s:Ms)(l:List Ob)(A B_ C_:Nat)(m:Int)(q:Except Ed Ms)(h:MIn B W0 a P s l)
 (hS:∀X l',MIn B X a P s l'→Calls Tryz.prog 100 #[.pointer (some ⟨a,0,none⟩),insA 21 A B_ C_ m] X fun x w'=>Dv B X a P s l' q x w'):
 Calls Tryz.prog 68 #[.pointer (some ⟨a,0,none⟩),insA 21 A B_ C_ m] W0 fun x w'=>Dv B W0 a P s l (q) x w':=by
 have h2:=ζ (h.new #[.int .u8 21,.int .i64 A,.int .i64 B_,.int .i64 C_,.int .i64 m] 29);have hC:=ζ (fun X l' (q:MIn B X a P s l')=>hS X l' q);clear h hS;unfold insA at*
 cases q with
 |error e=>
  simp only[Dv,pan]at hC ⊢;go_enter Tryz.func68,Tryz.ntmps68;go_upto_region 1 with fail
  refine wp_world (fun W=>MIn B W a P s (boxOb W0.heap.size #[.int .u8 21,.int .i64 A,.int .i64 B_,.int .i64 C_,.int .i64 m]::l)∧Below B W0 W) h2.out ?_;clear h2;rintro W ⟨h,hB⟩;generalize W0.heap.size=kb at*;have⟨_,p0,_⟩:=h.there (boxOb kb #[.int .u8 21,.int .i64 A,.int .i64 B_,.int .i64 C_,.int .i64 m]) (.head _);replace h:=ζ h;replace hB:=ζ hB;go_wp2_with(refine(hC.out _ _ h.out).mono ?_;rintro x w1 ⟨rfl,h1,hB1⟩);exact⟨rfl,rfl,h1.drop,hB.out.trans hB1⟩
 |ok s'=>
  simp only[Dv]at hC ⊢;go_enter Tryz.func68,Tryz.ntmps68;go_upto_region 1 with fail
  refine wp_world (fun W=>MIn B W a P s (boxOb W0.heap.size #[.int .u8 21,.int .i64 A,.int .i64 B_,.int .i64 C_,.int .i64 m]::l)∧Below B W0 W) h2.out ?_;clear h2;rintro W ⟨h,hB⟩;generalize W0.heap.size=kb at*;have⟨_,p0,_⟩:=h.there (boxOb kb #[.int .u8 21,.int .i64 A,.int .i64 B_,.int .i64 C_,.int .i64 m]) (.head _);replace h:=ζ h;replace hB:=ζ hB;go_wp2_with fail;refine(hC.out _ _ h.out).mono ?_;rintro x w1 ⟨rfl,h1,hB1⟩;replace h1:=ζ h1;replace hB1:=ζ hB1;clear p0;go_wp2_with fail
  first|go_end0|((try simp only[Exit.inBlock,Exit.then]);refine xre ?_)
  exact⟨rfl,h1.out.drop,hB.out.trans hB1.out⟩
theorem steer22 (B:Nat)(W0:World)(a:Nat)(P:PImg)(s:Ms)(l:List Ob)(A B_ C_:Nat)(m:Int)(q:Except Ed Ms)(h:MIn B W0 a P s l)
 (hS:∀X l',MIn B X a P s l'→Calls Tryz.prog 100 #[.pointer (some ⟨a,0,none⟩),insA 22 A B_ C_ m] X fun x w'=>Dv B X a P s l' q x w'):
 Calls Tryz.prog 68 #[.pointer (some ⟨a,0,none⟩),insA 22 A B_ C_ m] W0 fun x w'=>Dv B W0 a P s l (q) x w':=by
 have h2:=ζ (h.new #[.int .u8 22,.int .i64 A,.int .i64 B_,.int .i64 C_,.int .i64 m] 29);have hC:=ζ (fun X l' (q:MIn B X a P s l')=>hS X l' q);clear h hS;unfold insA at*
 cases q with
 |error e=>
  simp only[Dv,pan]at hC ⊢;go_enter Tryz.func68,Tryz.ntmps68;go_upto_region 1 with fail
  refine wp_world (fun W=>MIn B W a P s (boxOb W0.heap.size #[.int .u8 22,.int .i64 A,.int .i64 B_,.int .i64 C_,.int .i64 m]::l)∧Below B W0 W) h2.out ?_;clear h2;rintro W ⟨h,hB⟩;generalize W0.heap.size=kb at*;have⟨_,p0,_⟩:=h.there (boxOb kb #[.int .u8 22,.int .i64 A,.int .i64 B_,.int .i64 C_,.int .i64 m]) (.head _);replace h:=ζ h;replace hB:=ζ hB;go_wp2_with(refine(hC.out _ _ h.out).mono ?_;rintro x w1 ⟨rfl,h1,hB1⟩);exact⟨rfl,rfl,h1.drop,hB.out.trans hB1⟩
 |ok s'=>
  simp only[Dv]at hC ⊢;go_enter Tryz.func68,Tryz.ntmps68;go_upto_region 1 with fail
  refine wp_world (fun W=>MIn B W a P s (boxOb W0.heap.size #[.int .u8 22,.int .i64 A,.int .i64 B_,.int .i64 C_,.int .i64 m]::l)∧Below B W0 W) h2.out ?_;clear h2;rintro W ⟨h,hB⟩;generalize W0.heap.size=kb at*;have⟨_,p0,_⟩:=h.there (boxOb kb #[.int .u8 22,.int .i64 A,.int .i64 B_,.int .i64 C_,.int .i64 m]) (.head _);replace h:=ζ h;replace hB:=ζ hB;go_wp2_with fail;refine(hC.out _ _ h.out).mono ?_;rintro x w1 ⟨rfl,h1,hB1⟩;replace h1:=ζ h1;replace hB1:=ζ hB1;clear p0;go_wp2_with fail
  first|go_end0|((try simp only[Exit.inBlock,Exit.then]);refine xre ?_)
  exact⟨rfl,h1.out.drop,hB.out.trans hB1.out⟩
theorem steer23 (B:Nat)(W0:World)(a:Nat)(P:PImg)(s:Ms)(l:List Ob)(A B_ C_:Nat)(m:Int)(q:Except Ed Ms)(h:MIn B W0 a P s l)
 (hS:∀X l',MIn B X a P s l'→Calls Tryz.prog 100 #[.pointer (some ⟨a,0,none⟩),insA 23 A B_ C_ m] X fun x w'=>Dv B X a P s l' q x w'):
 Calls Tryz.prog 68 #[.pointer (some ⟨a,0,none⟩),insA 23 A B_ C_ m] W0 fun x w'=>Dv B W0 a P s l (q) x w':=by
 have h2:=ζ (h.new #[.int .u8 23,.int .i64 A,.int .i64 B_,.int .i64 C_,.int .i64 m] 29);have hC:=ζ (fun X l' (q:MIn B X a P s l')=>hS X l' q);clear h hS;unfold insA at*
 cases q with
 |error e=>
  simp only[Dv,pan]at hC ⊢;go_enter Tryz.func68,Tryz.ntmps68;go_upto_region 1 with fail
  refine wp_world (fun W=>MIn B W a P s (boxOb W0.heap.size #[.int .u8 23,.int .i64 A,.int .i64 B_,.int .i64 C_,.int .i64 m]::l)∧Below B W0 W) h2.out ?_;clear h2;rintro W ⟨h,hB⟩;generalize W0.heap.size=kb at*;have⟨_,p0,_⟩:=h.there (boxOb kb #[.int .u8 23,.int .i64 A,.int .i64 B_,.int .i64 C_,.int .i64 m]) (.head _);replace h:=ζ h;replace hB:=ζ hB;go_wp2_with(refine(hC.out _ _ h.out).mono ?_;rintro x w1 ⟨rfl,h1,hB1⟩);exact⟨rfl,rfl,h1.drop,hB.out.trans hB1⟩
 |ok s'=>
  simp only[Dv]at hC ⊢;go_enter Tryz.func68,Tryz.ntmps68;go_upto_region 1 with fail
  refine wp_world (fun W=>MIn B W a P s (boxOb W0.heap.size #[.int .u8 23,.int .i64 A,.int .i64 B_,.int .i64 C_,.int .i64 m]::l)∧Below B W0 W) h2.out ?_;clear h2;rintro W ⟨h,hB⟩;generalize W0.heap.size=kb at*;have⟨_,p0,_⟩:=h.there (boxOb kb #[.int .u8 23,.int .i64 A,.int .i64 B_,.int .i64 C_,.int .i64 m]) (.head _);replace h:=ζ h;replace hB:=ζ hB;go_wp2_with fail;refine(hC.out _ _ h.out).mono ?_;rintro x w1 ⟨rfl,h1,hB1⟩;replace h1:=ζ h1;replace hB1:=ζ hB1;clear p0;go_wp2_with fail
  first|go_end0|((try simp only[Exit.inBlock,Exit.then]);refine xre ?_)
  exact⟨rfl,h1.out.drop,hB.out.trans hB1.out⟩
theorem steer24 (B:Nat)(W0:World)(a:Nat)(P:PImg)(s:Ms)(l:List Ob)(A B_ C_:Nat)(m:Int)(q:Except Ed Ms)(h:MIn B W0 a P s l)
 (hS:∀X l',MIn B X a P s l'→Calls Tryz.prog 100 #[.pointer (some ⟨a,0,none⟩),insA 24 A B_ C_ m] X fun x w'=>Dv B X a P s l' q x w'):
 Calls Tryz.prog 68 #[.pointer (some ⟨a,0,none⟩),insA 24 A B_ C_ m] W0 fun x w'=>Dv B W0 a P s l (q) x w':=by
 have h2:=ζ (h.new #[.int .u8 24,.int .i64 A,.int .i64 B_,.int .i64 C_,.int .i64 m] 29);have hC:=ζ (fun X l' (q:MIn B X a P s l')=>hS X l' q);clear h hS;unfold insA at*
 cases q with
 |error e=>
  simp only[Dv,pan]at hC ⊢;go_enter Tryz.func68,Tryz.ntmps68;go_upto_region 1 with fail
  refine wp_world (fun W=>MIn B W a P s (boxOb W0.heap.size #[.int .u8 24,.int .i64 A,.int .i64 B_,.int .i64 C_,.int .i64 m]::l)∧Below B W0 W) h2.out ?_;clear h2;rintro W ⟨h,hB⟩;generalize W0.heap.size=kb at*;have⟨_,p0,_⟩:=h.there (boxOb kb #[.int .u8 24,.int .i64 A,.int .i64 B_,.int .i64 C_,.int .i64 m]) (.head _);replace h:=ζ h;replace hB:=ζ hB;go_wp2_with(refine(hC.out _ _ h.out).mono ?_;rintro x w1 ⟨rfl,h1,hB1⟩);exact⟨rfl,rfl,h1.drop,hB.out.trans hB1⟩
 |ok s'=>
  simp only[Dv]at hC ⊢;go_enter Tryz.func68,Tryz.ntmps68;go_upto_region 1 with fail
  refine wp_world (fun W=>MIn B W a P s (boxOb W0.heap.size #[.int .u8 24,.int .i64 A,.int .i64 B_,.int .i64 C_,.int .i64 m]::l)∧Below B W0 W) h2.out ?_;clear h2;rintro W ⟨h,hB⟩;generalize W0.heap.size=kb at*;have⟨_,p0,_⟩:=h.there (boxOb kb #[.int .u8 24,.int .i64 A,.int .i64 B_,.int .i64 C_,.int .i64 m]) (.head _);replace h:=ζ h;replace hB:=ζ hB;go_wp2_with fail;refine(hC.out _ _ h.out).mono ?_;rintro x w1 ⟨rfl,h1,hB1⟩;replace h1:=ζ h1;replace hB1:=ζ hB1;clear p0;go_wp2_with fail
  first|go_end0|((try simp only[Exit.inBlock,Exit.then]);refine xre ?_)
  exact⟨rfl,h1.out.drop,hB.out.trans hB1.out⟩
theorem steer29 (B:Nat)(W0:World)(a:Nat)(P:PImg)(s:Ms)(l:List Ob)(A B_ C_:Nat)(m:Int)(q:Except Ed Ms)(h:MIn B W0 a P s l)
 (hS:∀X l',MIn B X a P s l'→Calls Tryz.prog 104 #[.pointer (some ⟨a,0,none⟩),.int .i64 A] X fun x w'=>Dv B X a P s l' q x w'):
 Calls Tryz.prog 68 #[.pointer (some ⟨a,0,none⟩),insA 29 A B_ C_ m] W0 fun x w'=>Dv B W0 a P s l (q) x w':=by
 have h2:=ζ (h.new #[.int .u8 29,.int .i64 A,.int .i64 B_,.int .i64 C_,.int .i64 m] 29);have hC:=ζ (fun X l' (q:MIn B X a P s l')=>hS X l' q);clear h hS;unfold insA at*
 cases q with
 |error e=>
  simp only[Dv,pan]at hC ⊢;go_enter Tryz.func68,Tryz.ntmps68;go_upto_region 1 with fail
  refine wp_world (fun W=>MIn B W a P s (boxOb W0.heap.size #[.int .u8 29,.int .i64 A,.int .i64 B_,.int .i64 C_,.int .i64 m]::l)∧Below B W0 W) h2.out ?_;clear h2;rintro W ⟨h,hB⟩;generalize W0.heap.size=kb at*;have⟨_,p0,_⟩:=h.there (boxOb kb #[.int .u8 29,.int .i64 A,.int .i64 B_,.int .i64 C_,.int .i64 m]) (.head _);replace h:=ζ h;replace hB:=ζ hB;go_wp2_with(refine(hC.out _ _ h.out).mono ?_;rintro x w1 ⟨rfl,h1,hB1⟩);exact⟨rfl,rfl,h1.drop,hB.out.trans hB1⟩
 |ok s'=>
  simp only[Dv]at hC ⊢;go_enter Tryz.func68,Tryz.ntmps68;go_upto_region 1 with fail
  refine wp_world (fun W=>MIn B W a P s (boxOb W0.heap.size #[.int .u8 29,.int .i64 A,.int .i64 B_,.int .i64 C_,.int .i64 m]::l)∧Below B W0 W) h2.out ?_;clear h2;rintro W ⟨h,hB⟩;generalize W0.heap.size=kb at*;have⟨_,p0,_⟩:=h.there (boxOb kb #[.int .u8 29,.int .i64 A,.int .i64 B_,.int .i64 C_,.int .i64 m]) (.head _);replace h:=ζ h;replace hB:=ζ hB;go_wp2_with fail;refine(hC.out _ _ h.out).mono ?_;rintro x w1 ⟨rfl,h1,hB1⟩;replace h1:=ζ h1;replace hB1:=ζ hB1;clear p0;go_wp2_with fail
  first|go_end0|((try simp only[Exit.inBlock,Exit.then]);refine xre ?_)
  exact⟨rfl,h1.out.drop,hB.out.trans hB1.out⟩
theorem steer31 (B:Nat)(W0:World)(a:Nat)(P:PImg)(s:Ms)(l:List Ob)(A B_ C_:Nat)(m:Int)(q:Except Ed Ms)(h:MIn B W0 a P s l)
 (hS:∀X l',MIn B X a P s l'→Calls Tryz.prog 105 #[.pointer (some ⟨a,0,none⟩),.int .i64 m] X fun x w'=>Dv B X a P s l' q x w'):
 Calls Tryz.prog 68 #[.pointer (some ⟨a,0,none⟩),insA 31 A B_ C_ m] W0 fun x w'=>Dv B W0 a P s l (q) x w':=by
 have h2:=ζ (h.new #[.int .u8 31,.int .i64 A,.int .i64 B_,.int .i64 C_,.int .i64 m] 29);have hC:=ζ (fun X l' (q:MIn B X a P s l')=>hS X l' q);clear h hS;unfold insA at*
 cases q with
 |error e=>
  simp only[Dv,pan]at hC ⊢;go_enter Tryz.func68,Tryz.ntmps68;go_upto_region 1 with fail
  refine wp_world (fun W=>MIn B W a P s (boxOb W0.heap.size #[.int .u8 31,.int .i64 A,.int .i64 B_,.int .i64 C_,.int .i64 m]::l)∧Below B W0 W) h2.out ?_;clear h2;rintro W ⟨h,hB⟩;generalize W0.heap.size=kb at*;have⟨_,p0,_⟩:=h.there (boxOb kb #[.int .u8 31,.int .i64 A,.int .i64 B_,.int .i64 C_,.int .i64 m]) (.head _);replace h:=ζ h;replace hB:=ζ hB;go_wp2_with(refine(hC.out _ _ h.out).mono ?_;rintro x w1 ⟨rfl,h1,hB1⟩);exact⟨rfl,rfl,h1.drop,hB.out.trans hB1⟩
 |ok s'=>
  simp only[Dv]at hC ⊢;go_enter Tryz.func68,Tryz.ntmps68;go_upto_region 1 with fail
  refine wp_world (fun W=>MIn B W a P s (boxOb W0.heap.size #[.int .u8 31,.int .i64 A,.int .i64 B_,.int .i64 C_,.int .i64 m]::l)∧Below B W0 W) h2.out ?_;clear h2;rintro W ⟨h,hB⟩;generalize W0.heap.size=kb at*;have⟨_,p0,_⟩:=h.there (boxOb kb #[.int .u8 31,.int .i64 A,.int .i64 B_,.int .i64 C_,.int .i64 m]) (.head _);replace h:=ζ h;replace hB:=ζ hB;go_wp2_with fail;refine(hC.out _ _ h.out).mono ?_;rintro x w1 ⟨rfl,h1,hB1⟩;replace h1:=ζ h1;replace hB1:=ζ hB1;clear p0;go_wp2_with fail
  first|go_end0|((try simp only[Exit.inBlock,Exit.then]);refine xre ?_)
  exact⟨rfl,h1.out.drop,hB.out.trans hB1.out⟩
theorem steer32 (B:Nat)(W0:World)(a:Nat)(P:PImg)(s:Ms)(l:List Ob)(A B_ C_:Nat)(m:Int)(q:Except Ed Ms)(h:MIn B W0 a P s l)
 (hS:∀X l',MIn B X a P s l'→Calls Tryz.prog 106 #[.pointer (some ⟨a,0,none⟩)] X fun x w'=>Dv B X a P s l' q x w'):
 Calls Tryz.prog 68 #[.pointer (some ⟨a,0,none⟩),insA 32 A B_ C_ m] W0 fun x w'=>Dv B W0 a P s l (q) x w':=by
 have h2:=ζ (h.new #[.int .u8 32,.int .i64 A,.int .i64 B_,.int .i64 C_,.int .i64 m] 29);have hC:=ζ (fun X l' (q:MIn B X a P s l')=>hS X l' q);clear h hS;unfold insA at*
 cases q with
 |error e=>
  simp only[Dv,pan]at hC ⊢;go_enter Tryz.func68,Tryz.ntmps68;go_upto_region 1 with fail
  refine wp_world (fun W=>MIn B W a P s (boxOb W0.heap.size #[.int .u8 32,.int .i64 A,.int .i64 B_,.int .i64 C_,.int .i64 m]::l)∧Below B W0 W) h2.out ?_;clear h2;rintro W ⟨h,hB⟩;generalize W0.heap.size=kb at*;have⟨_,p0,_⟩:=h.there (boxOb kb #[.int .u8 32,.int .i64 A,.int .i64 B_,.int .i64 C_,.int .i64 m]) (.head _);replace h:=ζ h;replace hB:=ζ hB;go_wp2_with(refine(hC.out _ _ h.out).mono ?_;rintro x w1 ⟨rfl,h1,hB1⟩);exact⟨rfl,rfl,h1.drop,hB.out.trans hB1⟩
 |ok s'=>
  simp only[Dv]at hC ⊢;go_enter Tryz.func68,Tryz.ntmps68;go_upto_region 1 with fail
  refine wp_world (fun W=>MIn B W a P s (boxOb W0.heap.size #[.int .u8 32,.int .i64 A,.int .i64 B_,.int .i64 C_,.int .i64 m]::l)∧Below B W0 W) h2.out ?_;clear h2;rintro W ⟨h,hB⟩;generalize W0.heap.size=kb at*;have⟨_,p0,_⟩:=h.there (boxOb kb #[.int .u8 32,.int .i64 A,.int .i64 B_,.int .i64 C_,.int .i64 m]) (.head _);replace h:=ζ h;replace hB:=ζ hB;go_wp2_with fail;refine(hC.out _ _ h.out).mono ?_;rintro x w1 ⟨rfl,h1,hB1⟩;replace h1:=ζ h1;replace hB1:=ζ hB1;clear p0;go_wp2_with fail
  first|go_end0|((try simp only[Exit.inBlock,Exit.then]);refine xre ?_)
  exact⟨rfl,h1.out.drop,hB.out.trans hB1.out⟩
theorem steer20 (B:Nat)(W0:World)(a:Nat)(P:PImg)(s:Ms)(l:List Ob)(A B_ C_:Nat)(k:Nat)(h:MIn B W0 a P s l):
 Calls Tryz.prog 68 #[.pointer (some ⟨a,0,none⟩),insA 20 A B_ C_ k] W0 fun x w'=>Dv B W0 a P s l (.ok (s.goTo k)) x w':=by
 simp only[Dv];have h2:=ζ (h.new #[.int .u8 20,.int .i64 A,.int .i64 B_,.int .i64 C_,.int .i64 (k:Int)] 29);clear h;unfold insA;go_enter Tryz.func68,Tryz.ntmps68;go_upto_region 1 with fail
 refine wp_world (fun W=>MIn B W a P s (boxOb W0.heap.size #[.int .u8 20,.int .i64 A,.int .i64 B_,.int .i64 C_,.int .i64 (k:Int)]::l)∧Below B W0 W) h2.out ?_;clear h2;rintro W ⟨h,hB⟩;generalize W0.heap.size=kb at*;have⟨_,p0,_⟩:=h.there (boxOb kb #[.int .u8 20,.int .i64 A,.int .i64 B_,.int .i64 C_,.int .i64 (k:Int)]) (.head _);replace h:=ζ h;replace hB:=ζ hB;obtain⟨_,c6,_,_,_,fr⟩:=h.out.cell;have hlt:=h.out.alt;have hq:=ζ (h.out.setPc k);go_wp2_with fail
 first|go_end0|((try simp only[Exit.inBlock,Exit.then]);refine xre ?_)
 exact⟨rfl,hq.out.1.drop,hB.out.trans hq.out.2⟩
theorem steer28 (B:Nat)(W0:World)(a:Nat)(P:PImg)(s:Ms)(l:List Ob)(A B_ C_:Nat)(m:Int)(h:MIn B W0 a P s l):
 Calls Tryz.prog 68 #[.pointer (some ⟨a,0,none⟩),insA 28 A B_ C_ m] W0 fun x w'=>Dv B W0 a P s l (.error ⟨3,IntKind.u64.wrap m,0⟩) x w':=by
 simp only[Dv,pan];have h2:=ζ (h.new #[.int .u8 28,.int .i64 A,.int .i64 B_,.int .i64 C_,.int .i64 m] 29);clear h;unfold insA;go_enter Tryz.func68,Tryz.ntmps68;go_upto_region 1 with fail
 refine wp_world (fun W=>MIn B W a P s (boxOb W0.heap.size #[.int .u8 28,.int .i64 A,.int .i64 B_,.int .i64 C_,.int .i64 m]::l)∧Below B W0 W) h2.out ?_;clear h2;rintro W ⟨h,hB⟩;generalize W0.heap.size=kb at*;have⟨_,p0,_⟩:=h.there (boxOb kb #[.int .u8 28,.int .i64 A,.int .i64 B_,.int .i64 C_,.int .i64 m]) (.head _);replace h:=ζ h;replace hB:=ζ hB;go_wp2_with fail;exact⟨rfl,rfl,h.out.drop,hB.out⟩
theorem steer27_b (B:Nat)(W0:World)(a:Nat)(P:PImg)(s:Ms)(l:List Ob)(A B_ C_:Nat)(m:Int)(h:MIn B W0 a P s l)(hA:A<16)(hg:(s.at_.regs A).g=true):
 Calls Tryz.prog 68 #[.pointer (some ⟨a,0,none⟩),insA 27 A B_ C_ m] W0 fun x w'=>Dv B W0 a P s l (.error (flt 2)) x w':=by
 have h1:=ζ (fun X l' (q:MIn B X a P s l')=>number_badB a A (s.at_.regs A) X (q.rg A hA) hg);clear hA hg;simp only[Dv,pan]at h1 ⊢;have h2:=ζ (h.new #[.int .u8 27,.int .i64 A,.int .i64 B_,.int .i64 C_,.int .i64 m] 29);clear h;unfold insA;go_enter Tryz.func68,Tryz.ntmps68;go_upto_region 1 with fail
 refine wp_world (fun W=>MIn B W a P s (boxOb W0.heap.size #[.int .u8 27,.int .i64 A,.int .i64 B_,.int .i64 C_,.int .i64 m]::l)∧Below B W0 W) h2.out ?_;clear h2;rintro W ⟨h,hB⟩;generalize W0.heap.size=kb at*;have⟨_,p0,_⟩:=h.there (boxOb kb #[.int .u8 27,.int .i64 A,.int .i64 B_,.int .i64 C_,.int .i64 m]) (.head _);replace h:=ζ h;replace hB:=ζ hB;go_wp2_with(refine(h1.out _ _ h.out).mono ?_;rintro x w1 ⟨rfl,e1⟩);exact⟨rfl,rfl,(h.out.bl e1).1.drop,hB.out.trans (h.out.bl e1).2⟩
theorem steer27_ok (B:Nat)(W0:World)(a:Nat)(P:PImg)(s:Ms)(l:List Ob)(A B_ C_:Nat)(m:Int)(h:MIn B W0 a P s l)(hA:A<16)(hg:(s.at_.regs A).g=false):
 Calls Tryz.prog 68 #[.pointer (some ⟨a,0,none⟩),insA 27 A B_ C_ m] W0 fun x w'=>Dv B W0 a P s l (.error ⟨1,(s.at_.regs A).n,0⟩) x w':=by
 have h1:=ζ (fun X l' (q:MIn B X a P s l')=>number_okB a A (s.at_.regs A) X (q.rg A hA) hg);clear hA hg;simp only[Dv,pan];have h2:=ζ (h.new #[.int .u8 27,.int .i64 A,.int .i64 B_,.int .i64 C_,.int .i64 m] 29);clear h;unfold insA;go_enter Tryz.func68,Tryz.ntmps68;go_upto_region 1 with fail
 refine wp_world (fun W=>MIn B W a P s (boxOb W0.heap.size #[.int .u8 27,.int .i64 A,.int .i64 B_,.int .i64 C_,.int .i64 m]::l)∧Below B W0 W) h2.out ?_;clear h2;rintro W ⟨h,hB⟩;generalize W0.heap.size=kb at*;have⟨_,p0,_⟩:=h.there (boxOb kb #[.int .u8 27,.int .i64 A,.int .i64 B_,.int .i64 C_,.int .i64 m]) (.head _);replace h:=ζ h;replace hB:=ζ hB;go_wp2_with fail;refine(h1.out _ _ h.out).mono ?_;rintro x w1 ⟨rfl,e1⟩;replace hB:=ζ (hB.out.trans (h.out.bl e1).2);replace h:=ζ (h.out.bl e1).1;clear e1 p0;go_wp2_with fail;exact⟨rfl,rfl,h.out.drop,hB.out⟩
def ofC (c:Cp):Vl:=⟨true,0,c⟩
def capV:Except Ed Cp→Except Ed Vl
 |.ok c=>.ok (ofC c)
 |.error e=>.error e
def nmbV:Except Ed Int→Except Ed Vl
 |.ok n=>.ok (ofI n)
 |.error e=>.error e
theorem do_cap (B:Nat)(W0:World)(a:Nat)(P:PImg)(s:Ms)(l:List Ob)(op:Int)(A B_ C_:Nat)(m:Int)(h:MIn B W0 a P s l)(hA:A<16)(hB_:B_<16)(hC_:C_<16)(hp:s.at_.pc<1000000000)(hs:(s.at_.regs B_).c.s<9223372036854775808)(hop:40≤op∧op≤46):
 Calls Tryz.prog 39 #[.pointer (some ⟨a,0,none⟩),insA op A B_ C_ m] W0 fun x w'=>Dv B W0 a P s l (layM s A (capV (derR op m (s.at_.regs B_) (s.at_.regs C_)))) x w':=by
 have h2:=ζ (h.new #[.int .u8 op,.int .i64 A,.int .i64 B_,.int .i64 C_,.int .i64 m] 29);have h1:=ζ (fun X l' (q:MIn B X a P s l')=>derived_any a op A B_ C_ m _ _ X (q.rg B_ hB_) (q.rg C_ hC_) hs hop);have d13:decide (op≤13)=false:=by simp;omega
 have d32:decide (op≤32)=false:=by simp;omega
 have d46:decide (op≤46)=true:=by simp;omega
 have d56:decide (op≤56)=true:=by simp;omega
 have d65:decide (op≤65)=true:=by simp;omega
 clear h hop hB_ hC_
 cases hq:derR op m (s.at_.regs B_) (s.at_.regs C_)with
 |error e=>
  rw[hq]at h1;clear hq;unfold insA at*;simp only[CpV,pan]at h1;simp only[capV,layM,Dv,pan];go_enter Tryz.func39,Tryz.ntmps39;go_upto_region 1 with fail
  refine wp_world (fun W=>MIn B W a P s (boxOb W0.heap.size #[.int .u8 op,.int .i64 A,.int .i64 B_,.int .i64 C_,.int .i64 m]::l)∧Below B W0 W) h2.out ?_;clear h2;rintro W ⟨h,hB⟩;generalize W0.heap.size=kb at*;have c0:W.cell? ⟨kb,0,none⟩=some (.int .u8 op):=(h.there (boxOb kb #[.int .u8 op,.int .i64 A,.int .i64 B_,.int .i64 C_,.int .i64 m]) (.head _)).2.1 0;replace hB:=ζ hB;replace h:=ζ h;go_upto_region 8 with fail
  clear c0;replace hB:=ζ (hB.out.trans (h.out.bl (Bl.refl W).drew).2);replace h:=ζ (h.out.bl (Bl.refl W).drew).1;refine wp_region_held_drew (S:=(fun X=>X.cell? ⟨kb,1,none⟩=some (.int .i64 A)∧X.rangeAt kb 0 [Value.int .u8 op,.int .i64 A,.int .i64 B_,.int .i64 C_,.int .i64 m])) (by kernel_rfl) (⟨(h.out.there (boxOb kb #[.int .u8 op,.int .i64 A,.int .i64 B_,.int .i64 C_,.int .i64 m]) (.head _)).2.1 1,fun j x q=>by rw[Nat.zero_add];exact((h.out.there (boxOb kb #[.int .u8 op,.int .i64 A,.int .i64 B_,.int .i64 C_,.int .i64 m]) (.head _)).2.1 j).trans (by simpa using q)⟩) (fun hHeld=>?_);generalize W.drew=X0 at*;refine xz 0 rfl (h:=xz 1 rfl (h:=xz 2 rfl (h:=xz 3 rfl (h:=?_))));try simp only[xap]
  refine xtk 4 rfl (yieldsIf_load_mid (by rfl) _ _ rfl _ _ rfl _ _ (fun _ h=>h.2) Tryz.underlying29 rfl (by kernel_rfl)) ?_;try simp only[xap]
  refine xrd 5 rfl (fun K hK=>?_);go_simp;go_wp2_with(refine(h1.out _ _ h.out).mono ?_;rintro r Y1 ⟨rfl,e1⟩);exact⟨rfl,rfl,(h.out.bl e1).1.drop,hB.out.trans (h.out.bl e1).2⟩
 |ok r0=>
  rw[hq]at h1;have hLy:=ζ (fun X l' (q:MIn B X a P s l')=>lay_any B a A (ofC r0) P _ _ X q hA hp);have hc2:=ζ (fun X=>(capability_any r0.b r0.e r0.c r0.p r0.s X).mono (R':=fun x w'=>x=.returned (.agg #[.bool true,.int .u64 0,.int .u64 r0.b,.int .u64 r0.e,.int .u64 r0.c,.int .u8 r0.p,.int .i64 r0.s])∧Bl X w') (by rintro x w' ⟨rfl,rfl⟩;exact⟨rfl,((Bl.refl _).alloc _).alloc _⟩));simp only[CpV,Cp.val]at h1;simp only[Vl.agg,ofC,Int.cast_ofNat_Int]at hLy;clear hq;unfold insA at*;simp only[capV,layM,Dv];go_enter Tryz.func39,Tryz.ntmps39;go_upto_region 1 with fail
  refine wp_world (fun W=>MIn B W a P s (boxOb W0.heap.size #[.int .u8 op,.int .i64 A,.int .i64 B_,.int .i64 C_,.int .i64 m]::l)∧Below B W0 W) h2.out ?_;clear h2;rintro W ⟨h,hB⟩;generalize W0.heap.size=kb at*;have c0:W.cell? ⟨kb,0,none⟩=some (.int .u8 op):=(h.there (boxOb kb #[.int .u8 op,.int .i64 A,.int .i64 B_,.int .i64 C_,.int .i64 m]) (.head _)).2.1 0;replace hB:=ζ hB;replace h:=ζ h;go_upto_region 8 with fail
  clear c0;replace hB:=ζ (hB.out.trans (h.out.bl (Bl.refl W).drew).2);replace h:=ζ (h.out.bl (Bl.refl W).drew).1;refine wp_region_held_drew (S:=(fun X=>X.cell? ⟨kb,1,none⟩=some (.int .i64 A)∧X.rangeAt kb 0 [Value.int .u8 op,.int .i64 A,.int .i64 B_,.int .i64 C_,.int .i64 m])) (by kernel_rfl) (⟨(h.out.there (boxOb kb #[.int .u8 op,.int .i64 A,.int .i64 B_,.int .i64 C_,.int .i64 m]) (.head _)).2.1 1,fun j x q=>by rw[Nat.zero_add];exact((h.out.there (boxOb kb #[.int .u8 op,.int .i64 A,.int .i64 B_,.int .i64 C_,.int .i64 m]) (.head _)).2.1 j).trans (by simpa using q)⟩) (fun hHeld=>?_);generalize W.drew=X0 at*;refine xz 0 rfl (h:=xz 1 rfl (h:=xz 2 rfl (h:=xz 3 rfl (h:=?_))));try simp only[xap]
  refine xtk 4 rfl (yieldsIf_load_mid (by rfl) _ _ rfl _ _ rfl _ _ (fun _ h=>h.2) Tryz.underlying29 rfl (by kernel_rfl)) ?_;try simp only[xap]
  refine xrd 5 rfl (fun K hK=>?_);go_simp;go_wp2_with(refine(h1.out _ _ h.out).mono ?_;rintro r Y1 ⟨rfl,e1⟩;replace hB:=ζ (hB.out.trans (h.out.bl e1).2);replace h:=ζ (h.out.bl e1).1;clear e1 hHeld);refine hK.out _ _ ⟨(h.out.there (boxOb kb #[.int .u8 op,.int .i64 A,.int .i64 B_,.int .i64 C_,.int .i64 m]) (.head _)).2.1 1,fun j x q=>by rw[Nat.zero_add];exact((h.out.there (boxOb kb #[.int .u8 op,.int .i64 A,.int .i64 B_,.int .i64 C_,.int .i64 m]) (.head _)).2.1 j).trans (by simpa using q)⟩ (fun hHeld=>?_);clear hK K;try simp only[xap]
  refine xrd 6 rfl (fun K hK=>?_);go_simp;go_wp2_with(refine(hc2.out _).mono ?_;rintro r Y2 ⟨rfl,e1⟩;replace hB:=ζ (hB.out.trans (h.out.bl e1).2);replace h:=ζ (h.out.bl e1).1;clear e1 hHeld);refine hK.out _ _ ⟨(h.out.there (boxOb kb #[.int .u8 op,.int .i64 A,.int .i64 B_,.int .i64 C_,.int .i64 m]) (.head _)).2.1 1,fun j x q=>by rw[Nat.zero_add];exact((h.out.there (boxOb kb #[.int .u8 op,.int .i64 A,.int .i64 B_,.int .i64 C_,.int .i64 m]) (.head _)).2.1 j).trans (by simpa using q)⟩ (fun hHeld=>?_);clear hK K;try simp only[xap]
  refine xrd 7 rfl (fun K hK=>?_);go_simp;go_wp2_with(refine(hLy.out _ _ h.out).mono ?_;rintro r Y3 ⟨rfl,h6,hB6⟩;replace hB:=ζ (hB.out.trans hB6);replace h:=ζ h6;clear h6 hB6 hHeld);refine hK.out _ _ ⟨(h.out.there (boxOb kb #[.int .u8 op,.int .i64 A,.int .i64 B_,.int .i64 C_,.int .i64 m]) (.head _)).2.1 1,fun j x q=>by rw[Nat.zero_add];exact((h.out.there (boxOb kb #[.int .u8 op,.int .i64 A,.int .i64 B_,.int .i64 C_,.int .i64 m]) (.head _)).2.1 j).trans (by simpa using q)⟩ (fun hHeld=>?_);clear hK K;try simp only[xap]
  refine xdn ?_ _;clear hHeld;go_wp2_with fail
  first|go_end0|((try simp only[Exit.inBlock,Exit.then]);refine xre ?_)
  exact⟨rfl,h.out.drop,hB.out⟩
theorem do_ask (B:Nat)(W0:World)(a:Nat)(P:PImg)(s:Ms)(l:List Ob)(op:Int)(A B_ C_:Nat)(m:Int)(h:MIn B W0 a P s l)(hA:A<16)(hB_:B_<16)(hC_:C_<16)(hp:s.at_.pc<1000000000)(hf:∀n,askR op (s.at_.regs B_) (s.at_.regs C_)=.ok n→0≤n)(hop:50≤op∧op≤56):
 Calls Tryz.prog 39 #[.pointer (some ⟨a,0,none⟩),insA op A B_ C_ m] W0 fun x w'=>Dv B W0 a P s l (layM s A (nmbV (askR op (s.at_.regs B_) (s.at_.regs C_)))) x w':=by
 have h2:=ζ (h.new #[.int .u8 op,.int .i64 A,.int .i64 B_,.int .i64 C_,.int .i64 m] 29);have h1:=ζ (fun X l' (q:MIn B X a P s l')=>asked_any a op A B_ C_ m _ _ X (q.rg B_ hB_) (q.rg C_ hC_) hop);have d13:decide (op≤13)=false:=by simp;omega
 have d32:decide (op≤32)=false:=by simp;omega
 have d46:decide (op≤46)=false:=by simp;omega
 have d56:decide (op≤56)=true:=by simp;omega
 have d65:decide (op≤65)=true:=by simp;omega
 clear h hop hB_ hC_
 cases hq:askR op (s.at_.regs B_) (s.at_.regs C_)with
 |error e=>
  rw[hq]at h1;clear hq hf;unfold insA at*;simp only[UnV,pan]at h1;simp only[nmbV,layM,Dv,pan];go_enter Tryz.func39,Tryz.ntmps39;go_upto_region 1 with fail
  refine wp_world (fun W=>MIn B W a P s (boxOb W0.heap.size #[.int .u8 op,.int .i64 A,.int .i64 B_,.int .i64 C_,.int .i64 m]::l)∧Below B W0 W) h2.out ?_;clear h2;rintro W ⟨h,hB⟩;generalize W0.heap.size=kb at*;have c0:W.cell? ⟨kb,0,none⟩=some (.int .u8 op):=(h.there (boxOb kb #[.int .u8 op,.int .i64 A,.int .i64 B_,.int .i64 C_,.int .i64 m]) (.head _)).2.1 0;replace hB:=ζ hB;replace h:=ζ h;go_upto_region 10 with fail
  clear c0;replace hB:=ζ (hB.out.trans (h.out.bl (Bl.refl W).drew).2);replace h:=ζ (h.out.bl (Bl.refl W).drew).1;refine wp_region_held_drew (S:=(fun X=>X.cell? ⟨kb,1,none⟩=some (.int .i64 A)∧X.rangeAt kb 0 [Value.int .u8 op,.int .i64 A,.int .i64 B_,.int .i64 C_,.int .i64 m])) (by kernel_rfl) (⟨(h.out.there (boxOb kb #[.int .u8 op,.int .i64 A,.int .i64 B_,.int .i64 C_,.int .i64 m]) (.head _)).2.1 1,fun j x q=>by rw[Nat.zero_add];exact((h.out.there (boxOb kb #[.int .u8 op,.int .i64 A,.int .i64 B_,.int .i64 C_,.int .i64 m]) (.head _)).2.1 j).trans (by simpa using q)⟩) (fun hHeld=>?_);generalize W.drew=X0 at*;refine xz 0 rfl (h:=xz 1 rfl (h:=xz 2 rfl (h:=xz 3 rfl (h:=?_))));try simp only[xap]
  refine xtk 4 rfl (yieldsIf_load_mid (by rfl) _ _ rfl _ _ rfl _ _ (fun _ h=>h.2) Tryz.underlying29 rfl (by kernel_rfl)) ?_;try simp only[xap]
  refine xrd 5 rfl (fun K hK=>?_);go_simp;go_wp2_with(refine(h1.out _ _ h.out).mono ?_;rintro r Y1 ⟨rfl,e1⟩);exact⟨rfl,rfl,(h.out.bl e1).1.drop,hB.out.trans (h.out.bl e1).2⟩
 |ok r0=>
  rw[hq]at h1;have hLy:=ζ (fun X l' (q:MIn B X a P s l')=>lay_any B a A (ofI r0) P _ _ X q hA hp);have hc2:=ζ (fun X=>(integer_any r0 X).mono (R':=fun x w'=>x=.returned (.agg #[.bool false,.int .u64 r0,.int .u64 0,.int .u64 0,.int .u64 0,.int .u8 0,.int .i64 0])∧Bl X w') (by rintro x w' ⟨rfl,rfl⟩;exact⟨rfl,(Bl.refl _).alloc _⟩));simp only[UnV]at h1;rw[ofI_agg r0 (hf r0 hq)]at hLy;clear hq hf;unfold insA at*;simp only[nmbV,layM,Dv];go_enter Tryz.func39,Tryz.ntmps39;go_upto_region 1 with fail
  refine wp_world (fun W=>MIn B W a P s (boxOb W0.heap.size #[.int .u8 op,.int .i64 A,.int .i64 B_,.int .i64 C_,.int .i64 m]::l)∧Below B W0 W) h2.out ?_;clear h2;rintro W ⟨h,hB⟩;generalize W0.heap.size=kb at*;have c0:W.cell? ⟨kb,0,none⟩=some (.int .u8 op):=(h.there (boxOb kb #[.int .u8 op,.int .i64 A,.int .i64 B_,.int .i64 C_,.int .i64 m]) (.head _)).2.1 0;replace hB:=ζ hB;replace h:=ζ h;go_upto_region 10 with fail
  clear c0;replace hB:=ζ (hB.out.trans (h.out.bl (Bl.refl W).drew).2);replace h:=ζ (h.out.bl (Bl.refl W).drew).1;refine wp_region_held_drew (S:=(fun X=>X.cell? ⟨kb,1,none⟩=some (.int .i64 A)∧X.rangeAt kb 0 [Value.int .u8 op,.int .i64 A,.int .i64 B_,.int .i64 C_,.int .i64 m])) (by kernel_rfl) (⟨(h.out.there (boxOb kb #[.int .u8 op,.int .i64 A,.int .i64 B_,.int .i64 C_,.int .i64 m]) (.head _)).2.1 1,fun j x q=>by rw[Nat.zero_add];exact((h.out.there (boxOb kb #[.int .u8 op,.int .i64 A,.int .i64 B_,.int .i64 C_,.int .i64 m]) (.head _)).2.1 j).trans (by simpa using q)⟩) (fun hHeld=>?_);generalize W.drew=X0 at*;refine xz 0 rfl (h:=xz 1 rfl (h:=xz 2 rfl (h:=xz 3 rfl (h:=?_))));try simp only[xap]
  refine xtk 4 rfl (yieldsIf_load_mid (by rfl) _ _ rfl _ _ rfl _ _ (fun _ h=>h.2) Tryz.underlying29 rfl (by kernel_rfl)) ?_;try simp only[xap]
  refine xrd 5 rfl (fun K hK=>?_);go_simp;go_wp2_with(refine(h1.out _ _ h.out).mono ?_;rintro r Y1 ⟨rfl,e1⟩;replace hB:=ζ (hB.out.trans (h.out.bl e1).2);replace h:=ζ (h.out.bl e1).1;clear e1 hHeld);refine hK.out _ _ ⟨(h.out.there (boxOb kb #[.int .u8 op,.int .i64 A,.int .i64 B_,.int .i64 C_,.int .i64 m]) (.head _)).2.1 1,fun j x q=>by rw[Nat.zero_add];exact((h.out.there (boxOb kb #[.int .u8 op,.int .i64 A,.int .i64 B_,.int .i64 C_,.int .i64 m]) (.head _)).2.1 j).trans (by simpa using q)⟩ (fun hHeld=>?_);clear hK K;try simp only[xap]
  refine xrd 6 rfl (fun K hK=>?_);go_simp;go_wp2_with(refine(hc2.out _).mono ?_;rintro r Y2 ⟨rfl,e1⟩;replace hB:=ζ (hB.out.trans (h.out.bl e1).2);replace h:=ζ (h.out.bl e1).1;clear e1 hHeld);refine hK.out _ _ ⟨(h.out.there (boxOb kb #[.int .u8 op,.int .i64 A,.int .i64 B_,.int .i64 C_,.int .i64 m]) (.head _)).2.1 1,fun j x q=>by rw[Nat.zero_add];exact((h.out.there (boxOb kb #[.int .u8 op,.int .i64 A,.int .i64 B_,.int .i64 C_,.int .i64 m]) (.head _)).2.1 j).trans (by simpa using q)⟩ (fun hHeld=>?_);clear hK K;try simp only[xap]
  refine xrd 7 rfl (fun K hK=>?_);go_simp;go_wp2_with(refine(hLy.out _ _ h.out).mono ?_;rintro r Y3 ⟨rfl,h6,hB6⟩;replace hB:=ζ (hB.out.trans hB6);replace h:=ζ h6;clear h6 hB6 hHeld);refine hK.out _ _ ⟨(h.out.there (boxOb kb #[.int .u8 op,.int .i64 A,.int .i64 B_,.int .i64 C_,.int .i64 m]) (.head _)).2.1 1,fun j x q=>by rw[Nat.zero_add];exact((h.out.there (boxOb kb #[.int .u8 op,.int .i64 A,.int .i64 B_,.int .i64 C_,.int .i64 m]) (.head _)).2.1 j).trans (by simpa using q)⟩ (fun hHeld=>?_);clear hK K;try simp only[xap]
  refine xdn ?_ _;clear hHeld;go_wp2_with fail
  first|go_end0|((try simp only[Exit.inBlock,Exit.then]);refine xre ?_)
  exact⟨rfl,h.out.drop,hB.out⟩
end C
end Go.Proofs.YtkhbiaaangnkdaaGreatDoor
