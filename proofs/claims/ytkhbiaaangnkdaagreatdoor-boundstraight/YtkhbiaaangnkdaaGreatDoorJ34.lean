import Derived.Test.YtkhbiaaangnkdaaGreatDoorJ33
import Derived.Test.YtkhbiaaangnkdaaGreatDoorJ32
namespace Go.Proofs.YtkhbiaaangnkdaaGreatDoor
set_option maxRecDepth 100000
set_option maxHeartbeats 40000000
namespace C
open Go.RowKit
open T (Sep Ob Kp Mf TgIn boxOb Fm Tc Ed Vl Cp Bx tgOb mRow updV flt accessF)
def BoV:Except Ed Bool→Ending
 |.ok b=>.returned (.bool b)
 |.error e=>pan e
def holR (op m:Int)(v:Vl):Except Ed Bool:=
 if op=70 then(if v.g then .error (flt 2)else .ok (decide ((v.n:Int)<IntKind.u64.wrap m)))
 else if op=71 then(if v.g then .error (flt 2)else .ok (decide (IntKind.u64.wrap m≤(v.n:Int))))
 else if op=72 then .ok v.g
 else if v.g then(if op=73 then .ok (accessF v.c.b v.c.e v.c.c v.c.p v.c.s 0 (IntKind.u64.wrap m) 0==0)else if op=74 then .ok (bits .andNot .u8 (IntKind.u8.wrap m) v.c.p==0)else .ok (v.c.s==m))
 else .error (flt 1)
theorem cwAcc (k:Cp)(off n q:Int)(w:World):Calls Tryz.prog 139 #[Cp.val k,.int .u64 off,.int .u64 n,.int .u8 q] w fun x w'=>x=.returned (.int .i64 (accessF k.b k.e k.c k.p k.s off n q))∧Bl w w':=T.access_any k.b k.e k.c k.p k.s off n q w
theorem hold70_b (a A B C:Nat)(m:Int)(v:Vl)(w:World)(hv:RgAt w a A v)(hg:v.g=true):
 Calls Tryz.prog 115 #[.pointer (some ⟨a,0,none⟩),insA 70 A B C m] w fun x w'=>x=BoV (holR 70 m v)∧Bl w w':=by
 have er:holR 70 m v=.error (flt 2):=by unfold holR;rw[hg];rfl
 rw[er];clear er;have h1:=ζ (fun X g=>number_badB a A v X (hv.bl g) hg);unfold pan at h1;simp only[BoV,pan];clear hg;unfold insA;try unfold Cp.val at*
 have A0:At (w.alloc (.cells #[.int .u8 70,.int .i64 A,.int .i64 B,.int .i64 C,.int .i64 m] 29)) w.heap.size #[.int .u8 70,.int .i64 A,.int .i64 B,.int .i64 C,.int .i64 m]:=At.new w #[.int .u8 70,.int .i64 A,.int .i64 B,.int .i64 C,.int .i64 m] 29;have g0:Bl w (w.alloc (.cells #[.int .u8 70,.int .i64 A,.int .i64 B,.int .i64 C,.int .i64 m] 29)):=(Bl.refl w).alloc _;replace A0:=ζ A0;replace g0:=ζ g0;go_enter Tryz.func115,Tryz.ntmps115;go_upto_region 3 with fail
 refine wp_world (fun W=>At W w.heap.size #[.int .u8 70,.int .i64 A,.int .i64 B,.int .i64 C,.int .i64 m]∧Bl w W) ⟨A0.out,g0.out⟩ ?_;clear A0 g0;rintro W ⟨A0,g0⟩;replace A0:=ζ ((Bl.refl W).drew.at_ A0);replace g0:=ζ g0.drew;refine wp_region_held_drew (S:=(fun X=>X.cell? ⟨w.heap.size,1,none⟩=some (.int .i64 A)∧X.cell? ⟨w.heap.size,4,none⟩=some (.int .i64 m))) (by kernel_rfl) (⟨A0.out.2.1 1,A0.out.2.1 4⟩) (fun hHeld=>?_);refine xz 0 rfl (h:=xz 1 rfl (h:=xz 2 rfl (h:=xz 4 rfl (h:=xz 5 rfl (h:=xz 6 rfl (h:=?_))))));try simp only[xap]
 refine xrd 3 rfl (fun K hK=>?_);go_simp;go_wp2_with(refine(h1.out _ g0.out).mono ?_;rintro r X1 ⟨rfl,e1⟩);exact⟨rfl,rfl,g0.out.trans e1⟩
theorem hold70_ok (a A B C:Nat)(m:Int)(v:Vl)(w:World)(hv:RgAt w a A v)(hg:v.g=false):
 Calls Tryz.prog 115 #[.pointer (some ⟨a,0,none⟩),insA 70 A B C m] w fun x w'=>x=BoV (holR 70 m v)∧Bl w w':=by
 have er:holR 70 m v=.ok (decide ((v.n:Int)<IntKind.u64.wrap m)):=by unfold holR;rw[hg];rfl
 rw[er];clear er;have h1:=ζ (fun X g=>number_okB a A v X (hv.bl g) hg);simp only[BoV];clear hg;unfold insA;try unfold Cp.val at*
 have A0:At (w.alloc (.cells #[.int .u8 70,.int .i64 A,.int .i64 B,.int .i64 C,.int .i64 m] 29)) w.heap.size #[.int .u8 70,.int .i64 A,.int .i64 B,.int .i64 C,.int .i64 m]:=At.new w #[.int .u8 70,.int .i64 A,.int .i64 B,.int .i64 C,.int .i64 m] 29;have g0:Bl w (w.alloc (.cells #[.int .u8 70,.int .i64 A,.int .i64 B,.int .i64 C,.int .i64 m] 29)):=(Bl.refl w).alloc _;replace A0:=ζ A0;replace g0:=ζ g0;go_enter Tryz.func115,Tryz.ntmps115;go_upto_region 3 with fail
 refine wp_world (fun W=>At W w.heap.size #[.int .u8 70,.int .i64 A,.int .i64 B,.int .i64 C,.int .i64 m]∧Bl w W) ⟨A0.out,g0.out⟩ ?_;clear A0 g0;rintro W ⟨A0,g0⟩;replace A0:=ζ ((Bl.refl W).drew.at_ A0);replace g0:=ζ g0.drew;refine wp_region_held_drew (S:=(fun X=>X.cell? ⟨w.heap.size,1,none⟩=some (.int .i64 A)∧X.cell? ⟨w.heap.size,4,none⟩=some (.int .i64 m))) (by kernel_rfl) (⟨A0.out.2.1 1,A0.out.2.1 4⟩) (fun hHeld=>?_);refine xz 0 rfl (h:=xz 1 rfl (h:=xz 2 rfl (h:=xz 4 rfl (h:=xz 5 rfl (h:=xz 6 rfl (h:=?_))))));try simp only[xap]
 refine xrd 3 rfl (fun K hK=>?_);go_simp;go_wp2_with(refine(h1.out _ g0.out).mono ?_;rintro r X1 ⟨rfl,e1⟩;replace A0:=ζ (e1.at_ A0.out);replace g0:=ζ (g0.out.trans e1);clear e1 hHeld);refine hK.out _ _ ⟨A0.out.2.1 1,A0.out.2.1 4⟩ (fun hHeld=>?_);clear hK K;try simp only[xap]
 refine xz 7 rfl (h:=xz 8 rfl (h:=?_));try simp only[xap]
 refine xdn ?_ _;clear hHeld;go_wp2_with fail;go_ret;exact⟨rfl,g0.out⟩
theorem hold71_b (a A B C:Nat)(m:Int)(v:Vl)(w:World)(hv:RgAt w a A v)(hg:v.g=true):
 Calls Tryz.prog 115 #[.pointer (some ⟨a,0,none⟩),insA 71 A B C m] w fun x w'=>x=BoV (holR 71 m v)∧Bl w w':=by
 have er:holR 71 m v=.error (flt 2):=by unfold holR;rw[hg];rfl
 rw[er];clear er;have h1:=ζ (fun X g=>number_badB a A v X (hv.bl g) hg);unfold pan at h1;simp only[BoV,pan];clear hg;unfold insA;try unfold Cp.val at*
 have A0:At (w.alloc (.cells #[.int .u8 71,.int .i64 A,.int .i64 B,.int .i64 C,.int .i64 m] 29)) w.heap.size #[.int .u8 71,.int .i64 A,.int .i64 B,.int .i64 C,.int .i64 m]:=At.new w #[.int .u8 71,.int .i64 A,.int .i64 B,.int .i64 C,.int .i64 m] 29;have g0:Bl w (w.alloc (.cells #[.int .u8 71,.int .i64 A,.int .i64 B,.int .i64 C,.int .i64 m] 29)):=(Bl.refl w).alloc _;replace A0:=ζ A0;replace g0:=ζ g0;go_enter Tryz.func115,Tryz.ntmps115;go_upto_region 5 with fail
 refine wp_world (fun W=>At W w.heap.size #[.int .u8 71,.int .i64 A,.int .i64 B,.int .i64 C,.int .i64 m]∧Bl w W) ⟨A0.out,g0.out⟩ ?_;clear A0 g0;rintro W ⟨A0,g0⟩;replace A0:=ζ ((Bl.refl W).drew.at_ A0);replace g0:=ζ g0.drew;refine wp_region_held_drew (S:=(fun X=>X.cell? ⟨w.heap.size,1,none⟩=some (.int .i64 A)∧X.cell? ⟨w.heap.size,4,none⟩=some (.int .i64 m))) (by kernel_rfl) (⟨A0.out.2.1 1,A0.out.2.1 4⟩) (fun hHeld=>?_);refine xz 0 rfl (h:=xz 1 rfl (h:=xz 2 rfl (h:=xz 4 rfl (h:=xz 5 rfl (h:=xz 6 rfl (h:=?_))))));try simp only[xap]
 refine xrd 3 rfl (fun K hK=>?_);go_simp;go_wp2_with(refine(h1.out _ g0.out).mono ?_;rintro r X1 ⟨rfl,e1⟩);exact⟨rfl,rfl,g0.out.trans e1⟩
theorem hold71_ok (a A B C:Nat)(m:Int)(v:Vl)(w:World)(hv:RgAt w a A v)(hg:v.g=false):
 Calls Tryz.prog 115 #[.pointer (some ⟨a,0,none⟩),insA 71 A B C m] w fun x w'=>x=BoV (holR 71 m v)∧Bl w w':=by
 have er:holR 71 m v=.ok (decide (IntKind.u64.wrap m≤(v.n:Int))):=by unfold holR;rw[hg];rfl
 rw[er];clear er;have h1:=ζ (fun X g=>number_okB a A v X (hv.bl g) hg);simp only[BoV];clear hg;unfold insA;try unfold Cp.val at*
 have A0:At (w.alloc (.cells #[.int .u8 71,.int .i64 A,.int .i64 B,.int .i64 C,.int .i64 m] 29)) w.heap.size #[.int .u8 71,.int .i64 A,.int .i64 B,.int .i64 C,.int .i64 m]:=At.new w #[.int .u8 71,.int .i64 A,.int .i64 B,.int .i64 C,.int .i64 m] 29;have g0:Bl w (w.alloc (.cells #[.int .u8 71,.int .i64 A,.int .i64 B,.int .i64 C,.int .i64 m] 29)):=(Bl.refl w).alloc _;replace A0:=ζ A0;replace g0:=ζ g0;go_enter Tryz.func115,Tryz.ntmps115;go_upto_region 5 with fail
 refine wp_world (fun W=>At W w.heap.size #[.int .u8 71,.int .i64 A,.int .i64 B,.int .i64 C,.int .i64 m]∧Bl w W) ⟨A0.out,g0.out⟩ ?_;clear A0 g0;rintro W ⟨A0,g0⟩;replace A0:=ζ ((Bl.refl W).drew.at_ A0);replace g0:=ζ g0.drew;refine wp_region_held_drew (S:=(fun X=>X.cell? ⟨w.heap.size,1,none⟩=some (.int .i64 A)∧X.cell? ⟨w.heap.size,4,none⟩=some (.int .i64 m))) (by kernel_rfl) (⟨A0.out.2.1 1,A0.out.2.1 4⟩) (fun hHeld=>?_);refine xz 0 rfl (h:=xz 1 rfl (h:=xz 2 rfl (h:=xz 4 rfl (h:=xz 5 rfl (h:=xz 6 rfl (h:=?_))))));try simp only[xap]
 refine xrd 3 rfl (fun K hK=>?_);go_simp;go_wp2_with(refine(h1.out _ g0.out).mono ?_;rintro r X1 ⟨rfl,e1⟩;replace A0:=ζ (e1.at_ A0.out);replace g0:=ζ (g0.out.trans e1);clear e1 hHeld);refine hK.out _ _ ⟨A0.out.2.1 1,A0.out.2.1 4⟩ (fun hHeld=>?_);clear hK K;try simp only[xap]
 refine xz 7 rfl (h:=xz 8 rfl (h:=?_));try simp only[xap]
 refine xdn ?_ _;clear hHeld;go_wp2_with fail;go_ret;exact⟨rfl,g0.out⟩
theorem hold72_ok (a A B C:Nat)(m:Int)(v:Vl)(w:World)(hv:RgAt w a A v):
 Calls Tryz.prog 115 #[.pointer (some ⟨a,0,none⟩),insA 72 A B C m] w fun x w'=>x=BoV (holR 72 m v)∧Bl w w':=by
 have er:holR 72 m v=.ok (v.g):=by rfl
 rw[er];clear er;simp only[BoV];have hvd:=ζ (fun X g=>hv.bl (W:=X) g);unfold insA;try unfold Cp.val at*
 have A0:At (w.alloc (.cells #[.int .u8 72,.int .i64 A,.int .i64 B,.int .i64 C,.int .i64 m] 29)) w.heap.size #[.int .u8 72,.int .i64 A,.int .i64 B,.int .i64 C,.int .i64 m]:=At.new w #[.int .u8 72,.int .i64 A,.int .i64 B,.int .i64 C,.int .i64 m] 29;have g0:Bl w (w.alloc (.cells #[.int .u8 72,.int .i64 A,.int .i64 B,.int .i64 C,.int .i64 m] 29)):=(Bl.refl w).alloc _;replace A0:=ζ A0;replace g0:=ζ g0;go_enter Tryz.func115,Tryz.ntmps115;go_upto_region 7 with fail
 refine wp_world (fun W=>At W w.heap.size #[.int .u8 72,.int .i64 A,.int .i64 B,.int .i64 C,.int .i64 m]∧Bl w W) ⟨A0.out,g0.out⟩ ?_;clear A0 g0;rintro W ⟨A0,g0⟩;replace A0:=ζ ((Bl.refl W).drew.at_ A0);replace g0:=ζ g0.drew;have hA16:(A:Int)<16:=by have:=hv.rl;omega
 refine wp_region_held_drew (S:=(fun X=>X.cell? ⟨w.heap.size,1,none⟩=some (.int .i64 A)∧X.cell? ⟨w.heap.size,4,none⟩=some (.int .i64 m)∧X.cell? ⟨a,7+A*7,none⟩=some (.bool v.g))) (by kernel_rfl) (⟨A0.out.2.1 1,A0.out.2.1 4,(hvd.out _ g0.out).c0⟩) (fun hHeld=>?_);refine xz 0 rfl (h:=xz 1 rfl (h:=xz 2 rfl (h:=xz 3 rfl (h:=xz 4 rfl (h:=xz 5 rfl (h:=xz 6 rfl (h:=xz 7 rfl (h:=xz 8 rfl (h:=xz 9 rfl (h:=?_))))))))));try simp only[xap]
 refine xdn ?_ _;clear hHeld;go_wp2_with fail;go_ret;exact⟨rfl,g0.out⟩
theorem hold73_b (a A B C:Nat)(m:Int)(v:Vl)(w:World)(hv:RgAt w a A v)(hg:v.g=false):
 Calls Tryz.prog 115 #[.pointer (some ⟨a,0,none⟩),insA 73 A B C m] w fun x w'=>x=BoV (holR 73 m v)∧Bl w w':=by
 have er:holR 73 m v=.error (flt 1):=by unfold holR;rw[hg];rfl
 rw[er];clear er;have h1:=ζ (fun X g=>held_badB a A v X (hv.bl g) hg);unfold pan at h1;simp only[BoV,pan];clear hg;unfold insA;try unfold Cp.val at*
 have A0:At (w.alloc (.cells #[.int .u8 73,.int .i64 A,.int .i64 B,.int .i64 C,.int .i64 m] 29)) w.heap.size #[.int .u8 73,.int .i64 A,.int .i64 B,.int .i64 C,.int .i64 m]:=At.new w #[.int .u8 73,.int .i64 A,.int .i64 B,.int .i64 C,.int .i64 m] 29;have g0:Bl w (w.alloc (.cells #[.int .u8 73,.int .i64 A,.int .i64 B,.int .i64 C,.int .i64 m] 29)):=(Bl.refl w).alloc _;replace A0:=ζ A0;replace g0:=ζ g0;go_enter Tryz.func115,Tryz.ntmps115;go_upto_region 9 with fail
 refine wp_world (fun W=>At W w.heap.size #[.int .u8 73,.int .i64 A,.int .i64 B,.int .i64 C,.int .i64 m]∧Bl w W) ⟨A0.out,g0.out⟩ ?_;clear A0 g0;rintro W ⟨A0,g0⟩;replace A0:=ζ ((Bl.refl W).drew.at_ A0);replace g0:=ζ g0.drew;refine wp_region_held_drew (S:=(fun X=>X.cell? ⟨w.heap.size,1,none⟩=some (.int .i64 A)∧X.cell? ⟨w.heap.size,4,none⟩=some (.int .i64 m))) (by kernel_rfl) (⟨A0.out.2.1 1,A0.out.2.1 4⟩) (fun hHeld=>?_);refine xz 0 rfl (h:=xz 1 rfl (h:=xz 2 rfl (h:=xz 4 rfl (h:=xz 5 rfl (h:=xz 6 rfl (h:=?_))))));try simp only[xap]
 refine xrd 3 rfl (fun K hK=>?_);go_simp;go_wp2_with(refine(h1.out _ g0.out).mono ?_;rintro r X1 ⟨rfl,e1⟩);exact⟨rfl,rfl,g0.out.trans e1⟩
theorem hold73_ok (a A B C:Nat)(m:Int)(v:Vl)(w:World)(hv:RgAt w a A v)(hg:v.g=true):
 Calls Tryz.prog 115 #[.pointer (some ⟨a,0,none⟩),insA 73 A B C m] w fun x w'=>x=BoV (holR 73 m v)∧Bl w w':=by
 have er:holR 73 m v=.ok (accessF v.c.b v.c.e v.c.c v.c.p v.c.s 0 (IntKind.u64.wrap m) 0==0):=by unfold holR;rw[hg];rfl
 rw[er];clear er;have h1:=ζ (fun X g=>held_okB a A v X (hv.bl g) hg);simp only[BoV];have h2:=ζ (fun X=>cwAcc v.c 0 (IntKind.u64.wrap m) 0 X);generalize accessF v.c.b v.c.e v.c.c v.c.p v.c.s 0 (IntKind.u64.wrap m) 0=ac at*;clear hg;unfold insA;try unfold Cp.val at*
 have A0:At (w.alloc (.cells #[.int .u8 73,.int .i64 A,.int .i64 B,.int .i64 C,.int .i64 m] 29)) w.heap.size #[.int .u8 73,.int .i64 A,.int .i64 B,.int .i64 C,.int .i64 m]:=At.new w #[.int .u8 73,.int .i64 A,.int .i64 B,.int .i64 C,.int .i64 m] 29;have g0:Bl w (w.alloc (.cells #[.int .u8 73,.int .i64 A,.int .i64 B,.int .i64 C,.int .i64 m] 29)):=(Bl.refl w).alloc _;replace A0:=ζ A0;replace g0:=ζ g0;go_enter Tryz.func115,Tryz.ntmps115;go_upto_region 9 with fail
 refine wp_world (fun W=>At W w.heap.size #[.int .u8 73,.int .i64 A,.int .i64 B,.int .i64 C,.int .i64 m]∧Bl w W) ⟨A0.out,g0.out⟩ ?_;clear A0 g0;rintro W ⟨A0,g0⟩;replace A0:=ζ ((Bl.refl W).drew.at_ A0);replace g0:=ζ g0.drew;refine wp_region_held_drew (S:=(fun X=>X.cell? ⟨w.heap.size,1,none⟩=some (.int .i64 A)∧X.cell? ⟨w.heap.size,4,none⟩=some (.int .i64 m))) (by kernel_rfl) (⟨A0.out.2.1 1,A0.out.2.1 4⟩) (fun hHeld=>?_);refine xz 0 rfl (h:=xz 1 rfl (h:=xz 2 rfl (h:=xz 4 rfl (h:=xz 5 rfl (h:=xz 6 rfl (h:=?_))))));try simp only[xap]
 refine xrd 3 rfl (fun K hK=>?_);go_simp;go_wp2_with(refine(h1.out _ g0.out).mono ?_;rintro r X1 ⟨rfl,e1⟩;replace A0:=ζ (e1.at_ A0.out);replace g0:=ζ (g0.out.trans e1);clear e1 hHeld);refine hK.out _ _ ⟨A0.out.2.1 1,A0.out.2.1 4⟩ (fun hHeld=>?_);clear hK K;try simp only[xap]
 refine xrd 7 rfl (fun K hK=>?_);go_simp;go_wp2_with(refine(h2.out _).mono ?_;rintro r X2 ⟨rfl,e2⟩;replace A0:=ζ (e2.at_ A0.out);replace g0:=ζ (g0.out.trans e2);clear e2 hHeld);refine hK.out _ _ ⟨A0.out.2.1 1,A0.out.2.1 4⟩ (fun hHeld=>?_);clear hK K;try simp only[xap]
 refine xz 8 rfl (h:=xz 9 rfl (h:=?_));try simp only[xap]
 refine xdn ?_ _;clear hHeld;go_wp2_with fail;go_ret;exact⟨rfl,g0.out⟩
theorem hold74_b (a A B C:Nat)(m:Int)(v:Vl)(w:World)(hv:RgAt w a A v)(hg:v.g=false):
 Calls Tryz.prog 115 #[.pointer (some ⟨a,0,none⟩),insA 74 A B C m] w fun x w'=>x=BoV (holR 74 m v)∧Bl w w':=by
 have er:holR 74 m v=.error (flt 1):=by unfold holR;rw[hg];rfl
 rw[er];clear er;have h1:=ζ (fun X g=>held_badB a A v X (hv.bl g) hg);unfold pan at h1;simp only[BoV,pan];clear hg;unfold insA;try unfold Cp.val at*
 have A0:At (w.alloc (.cells #[.int .u8 74,.int .i64 A,.int .i64 B,.int .i64 C,.int .i64 m] 29)) w.heap.size #[.int .u8 74,.int .i64 A,.int .i64 B,.int .i64 C,.int .i64 m]:=At.new w #[.int .u8 74,.int .i64 A,.int .i64 B,.int .i64 C,.int .i64 m] 29;have g0:Bl w (w.alloc (.cells #[.int .u8 74,.int .i64 A,.int .i64 B,.int .i64 C,.int .i64 m] 29)):=(Bl.refl w).alloc _;replace A0:=ζ A0;replace g0:=ζ g0;go_enter Tryz.func115,Tryz.ntmps115;go_upto_region 11 with fail
 refine wp_world (fun W=>At W w.heap.size #[.int .u8 74,.int .i64 A,.int .i64 B,.int .i64 C,.int .i64 m]∧Bl w W) ⟨A0.out,g0.out⟩ ?_;clear A0 g0;rintro W ⟨A0,g0⟩;replace A0:=ζ ((Bl.refl W).drew.at_ A0);replace g0:=ζ g0.drew;refine wp_region_held_drew (S:=(fun X=>X.cell? ⟨w.heap.size,1,none⟩=some (.int .i64 A)∧X.cell? ⟨w.heap.size,4,none⟩=some (.int .i64 m))) (by kernel_rfl) (⟨A0.out.2.1 1,A0.out.2.1 4⟩) (fun hHeld=>?_);refine xz 0 rfl (h:=xz 1 rfl (h:=xz 2 rfl (h:=xz 3 rfl (h:=xz 4 rfl (h:=xz 5 rfl (h:=?_))))));try simp only[xap]
 refine xrd 6 rfl (fun K hK=>?_);go_simp;go_wp2_with(refine(h1.out _ g0.out).mono ?_;rintro r X1 ⟨rfl,e1⟩);exact⟨rfl,rfl,g0.out.trans e1⟩
theorem hold74_ok (a A B C:Nat)(m:Int)(v:Vl)(w:World)(hv:RgAt w a A v)(hg:v.g=true):
 Calls Tryz.prog 115 #[.pointer (some ⟨a,0,none⟩),insA 74 A B C m] w fun x w'=>x=BoV (holR 74 m v)∧Bl w w':=by
 have er:holR 74 m v=.ok (bits .andNot .u8 (IntKind.u8.wrap m) v.c.p==0):=by unfold holR;rw[hg];rfl
 rw[er];clear er;have h1:=ζ (fun X g=>held_okB a A v X (hv.bl g) hg);simp only[BoV];clear hg;unfold insA;try unfold Cp.val at*
 have A0:At (w.alloc (.cells #[.int .u8 74,.int .i64 A,.int .i64 B,.int .i64 C,.int .i64 m] 29)) w.heap.size #[.int .u8 74,.int .i64 A,.int .i64 B,.int .i64 C,.int .i64 m]:=At.new w #[.int .u8 74,.int .i64 A,.int .i64 B,.int .i64 C,.int .i64 m] 29;have g0:Bl w (w.alloc (.cells #[.int .u8 74,.int .i64 A,.int .i64 B,.int .i64 C,.int .i64 m] 29)):=(Bl.refl w).alloc _;replace A0:=ζ A0;replace g0:=ζ g0;go_enter Tryz.func115,Tryz.ntmps115;go_upto_region 11 with fail
 refine wp_world (fun W=>At W w.heap.size #[.int .u8 74,.int .i64 A,.int .i64 B,.int .i64 C,.int .i64 m]∧Bl w W) ⟨A0.out,g0.out⟩ ?_;clear A0 g0;rintro W ⟨A0,g0⟩;replace A0:=ζ ((Bl.refl W).drew.at_ A0);replace g0:=ζ g0.drew;have hfd:Hz (∀X,(Instr.field 73 (.agg #[.int .u64 v.c.b,.int .u64 v.c.e,.int .u64 v.c.c,.int .u8 v.c.p,.int .i64 v.c.s]) 3).run Tryz.prog X=.ok (.int .u8 v.c.p) X):=ζ (fun X=>by kernel_rfl);refine wp_region_held_drew (S:=(fun X=>X.cell? ⟨w.heap.size,1,none⟩=some (.int .i64 A)∧X.cell? ⟨w.heap.size,4,none⟩=some (.int .i64 m))) (by kernel_rfl) (⟨A0.out.2.1 1,A0.out.2.1 4⟩) (fun hHeld=>?_);refine xz 0 rfl (h:=xz 1 rfl (h:=xz 2 rfl (h:=xz 3 rfl (h:=xz 4 rfl (h:=xz 5 rfl (h:=?_))))));try simp only[xap]
 refine xrd 6 rfl (fun K hK=>?_);go_simp;go_wp2_with(refine(h1.out _ g0.out).mono ?_;rintro r X1 ⟨rfl,e1⟩;replace A0:=ζ (e1.at_ A0.out);replace g0:=ζ (g0.out.trans e1);clear e1 hHeld);refine hK.out _ _ ⟨A0.out.2.1 1,A0.out.2.1 4⟩ (fun hHeld=>?_);clear hK K;try simp only[xap]
 refine xtk 7 (v:=.int .u8 v.c.p) rfl (Or.inl ⟨by rfl,?_⟩) ?_
 ·intro w hSw;(try dsimp only at hSw);go_simp;rw[hfd.out];rfl
 try simp only[xap]
 refine xz 8 rfl (h:=xz 9 rfl (h:=xz 10 rfl (h:=?_)));try simp only[xap]
 refine xdn ?_ _;clear hHeld;go_wp2_with fail;go_ret;exact⟨rfl,g0.out⟩
theorem hold75_b (a A B C:Nat)(m:Int)(v:Vl)(w:World)(hv:RgAt w a A v)(hg:v.g=false):
 Calls Tryz.prog 115 #[.pointer (some ⟨a,0,none⟩),insA 75 A B C m] w fun x w'=>x=BoV (holR 75 m v)∧Bl w w':=by
 have er:holR 75 m v=.error (flt 1):=by unfold holR;rw[hg];rfl
 rw[er];clear er;have h1:=ζ (fun X g=>held_badB a A v X (hv.bl g) hg);unfold pan at h1;simp only[BoV,pan];clear hg;unfold insA;try unfold Cp.val at*
 have A0:At (w.alloc (.cells #[.int .u8 75,.int .i64 A,.int .i64 B,.int .i64 C,.int .i64 m] 29)) w.heap.size #[.int .u8 75,.int .i64 A,.int .i64 B,.int .i64 C,.int .i64 m]:=At.new w #[.int .u8 75,.int .i64 A,.int .i64 B,.int .i64 C,.int .i64 m] 29;have g0:Bl w (w.alloc (.cells #[.int .u8 75,.int .i64 A,.int .i64 B,.int .i64 C,.int .i64 m] 29)):=(Bl.refl w).alloc _;replace A0:=ζ A0;replace g0:=ζ g0;go_enter Tryz.func115,Tryz.ntmps115;go_upto_region 12 with fail
 refine wp_world (fun W=>At W w.heap.size #[.int .u8 75,.int .i64 A,.int .i64 B,.int .i64 C,.int .i64 m]∧Bl w W) ⟨A0.out,g0.out⟩ ?_;clear A0 g0;rintro W ⟨A0,g0⟩;replace A0:=ζ ((Bl.refl W).drew.at_ A0);replace g0:=ζ g0.drew;refine wp_region_held_drew (S:=(fun X=>X.cell? ⟨w.heap.size,1,none⟩=some (.int .i64 A)∧X.cell? ⟨w.heap.size,4,none⟩=some (.int .i64 m))) (by kernel_rfl) (⟨A0.out.2.1 1,A0.out.2.1 4⟩) (fun hHeld=>?_);refine xz 0 rfl (h:=xz 1 rfl (h:=xz 2 rfl (h:=xz 5 rfl (h:=xz 6 rfl (h:=?_)))));try simp only[xap]
 refine xrd 3 rfl (fun K hK=>?_);go_simp;go_wp2_with(refine(h1.out _ g0.out).mono ?_;rintro r X1 ⟨rfl,e1⟩);exact⟨rfl,rfl,g0.out.trans e1⟩
theorem hold75_ok (a A B C:Nat)(m:Int)(v:Vl)(w:World)(hv:RgAt w a A v)(hg:v.g=true):
 Calls Tryz.prog 115 #[.pointer (some ⟨a,0,none⟩),insA 75 A B C m] w fun x w'=>x=BoV (holR 75 m v)∧Bl w w':=by
 have er:holR 75 m v=.ok (v.c.s==m):=by unfold holR;rw[hg];rfl
 rw[er];clear er;have h1:=ζ (fun X g=>held_okB a A v X (hv.bl g) hg);simp only[BoV];clear hg;unfold insA;try unfold Cp.val at*
 have A0:At (w.alloc (.cells #[.int .u8 75,.int .i64 A,.int .i64 B,.int .i64 C,.int .i64 m] 29)) w.heap.size #[.int .u8 75,.int .i64 A,.int .i64 B,.int .i64 C,.int .i64 m]:=At.new w #[.int .u8 75,.int .i64 A,.int .i64 B,.int .i64 C,.int .i64 m] 29;have g0:Bl w (w.alloc (.cells #[.int .u8 75,.int .i64 A,.int .i64 B,.int .i64 C,.int .i64 m] 29)):=(Bl.refl w).alloc _;replace A0:=ζ A0;replace g0:=ζ g0;go_enter Tryz.func115,Tryz.ntmps115;go_upto_region 12 with fail
 refine wp_world (fun W=>At W w.heap.size #[.int .u8 75,.int .i64 A,.int .i64 B,.int .i64 C,.int .i64 m]∧Bl w W) ⟨A0.out,g0.out⟩ ?_;clear A0 g0;rintro W ⟨A0,g0⟩;replace A0:=ζ ((Bl.refl W).drew.at_ A0);replace g0:=ζ g0.drew;have hfd:Hz (∀X,(Instr.field 73 (.agg #[.int .u64 v.c.b,.int .u64 v.c.e,.int .u64 v.c.c,.int .u8 v.c.p,.int .i64 v.c.s]) 4).run Tryz.prog X=.ok (.int .i64 v.c.s) X):=ζ (fun X=>by kernel_rfl);refine wp_region_held_drew (S:=(fun X=>X.cell? ⟨w.heap.size,1,none⟩=some (.int .i64 A)∧X.cell? ⟨w.heap.size,4,none⟩=some (.int .i64 m))) (by kernel_rfl) (⟨A0.out.2.1 1,A0.out.2.1 4⟩) (fun hHeld=>?_);refine xz 0 rfl (h:=xz 1 rfl (h:=xz 2 rfl (h:=xz 5 rfl (h:=xz 6 rfl (h:=?_)))));try simp only[xap]
 refine xrd 3 rfl (fun K hK=>?_);go_simp;go_wp2_with(refine(h1.out _ g0.out).mono ?_;rintro r X1 ⟨rfl,e1⟩;replace A0:=ζ (e1.at_ A0.out);replace g0:=ζ (g0.out.trans e1);clear e1 hHeld);refine hK.out _ _ ⟨A0.out.2.1 1,A0.out.2.1 4⟩ (fun hHeld=>?_);clear hK K;try simp only[xap]
 refine xtk 4 (v:=.int .i64 v.c.s) rfl (Or.inl ⟨by rfl,?_⟩) ?_
 ·intro w hSw;(try dsimp only at hSw);go_simp;rw[hfd.out];rfl
 try simp only[xap]
 refine xz 7 rfl (h:=xz 8 rfl (h:=?_));try simp only[xap]
 refine xdn ?_ _;clear hHeld;go_wp2_with fail;go_ret;exact⟨rfl,g0.out⟩
theorem holds_any (a:Nat)(op:Int)(A B C:Nat)(m:Int)(v:Vl)(w:World)(hv:RgAt w a A v)(hop:70≤op∧op≤75):
 Calls Tryz.prog 115 #[.pointer (some ⟨a,0,none⟩),insA op A B C m] w fun x w'=>x=BoV (holR op m v)∧Bl w w':=by
 have ho:op=70∨op=71∨op=72∨op=73∨op=74∨op=75:=by omega
 cases hg:v.g with
 |false=>
  rcases ho with rfl|rfl|rfl|rfl|rfl|rfl
  ·exact hold70_ok a A B C m v w hv hg
  ·exact hold71_ok a A B C m v w hv hg
  ·exact hold72_ok a A B C m v w hv
  ·exact hold73_b a A B C m v w hv hg
  ·exact hold74_b a A B C m v w hv hg
  ·exact hold75_b a A B C m v w hv hg
 |true=>
  rcases ho with rfl|rfl|rfl|rfl|rfl|rfl
  ·exact hold70_b a A B C m v w hv hg
  ·exact hold71_b a A B C m v w hv hg
  ·exact hold72_ok a A B C m v w hv
  ·exact hold73_ok a A B C m v w hv hg
  ·exact hold74_ok a A B C m v w hv hg
  ·exact hold75_ok a A B C m v w hv hg
open T (Sep Ob Kp Mf TgIn boxOb Fm Tc Ed Vl Cp Bx tgOb mRow updV flt)
def Dv (B:Nat)(W0:World)(a:Nat)(P:PImg)(s:Ms)(l:List Ob):Except Ed Ms→Ending→World→Prop
 |.ok s',x,w'=>x=.returned (.tuple #[])∧MIn B w' a P s' l∧Below B W0 w'
 |.error e,x,w'=>x=pan e∧MIn B w' a P s l∧Below B W0 w'
theorem MIn.bl {B:Nat}{W W':World}{a:Nat}{P:PImg}{s:Ms}{l:List Ob}(h:MIn B W a P s l)(g:Bl W W'):MIn B W' a P s l∧Below B W W':=⟨h.gr g,Below.mono g h.le⟩
def grdR (op:Int)(A:Nat)(C_:Nat)(m:Int)(s:Ms):Except Ed Ms:=match holR op m (s.at_.regs A)with
 |.error e=>.error e
 |.ok true=>.ok s.next
 |.ok false=>.error ⟨2,IntKind.u64.wrap C_,0⟩
theorem guard_any (B:Nat)(W0:World)(a:Nat)(P:PImg)(s:Ms)(l:List Ob)(op:Int)(A B_ C_:Nat)(m:Int)(h:MIn B W0 a P s l)(hA:A<16)(hp:s.at_.pc<1000000000)(hop:70≤op∧op≤75):
 Calls Tryz.prog 72 #[.pointer (some ⟨a,0,none⟩),insA op A B_ C_ m] W0 fun x w'=>Dv B W0 a P s l (grdR op A C_ m s) x w':=by
 have hH:=ζ (fun X (q:MIn B X a P s l)=>holds_any a op A B_ C_ m (s.at_.regs A) X (q.rg A hA) hop);have hN:=ζ (fun X (q:MIn B X a P s l)=>next_any B a P s l X q hp);unfold grdR;generalize holR op m (s.at_.regs A)=q at*;unfold insA at*;replace h:=ζ h;clear hA hp hop
 cases q with
 |error e=>
  simp only[BoV,pan]at hH;simp only[Dv,pan];go_enter Tryz.func72,Tryz.ntmps72;go_upto_region 1 with fail
  refine wp_world (fun W=>At W W0.heap.size #[.int .u8 op,.int .i64 A,.int .i64 B_,.int .i64 C_,.int .i64 m]∧MIn B W a P s l∧Below B W0 W) ⟨At.new W0 #[.int .u8 op,.int .i64 A,.int .i64 B_,.int .i64 C_,.int .i64 m] 29,(h.out.new #[.int .u8 op,.int .i64 A,.int .i64 B_,.int .i64 C_,.int .i64 m] 29).1.drop,(h.out.new #[.int .u8 op,.int .i64 A,.int .i64 B_,.int .i64 C_,.int .i64 m] 29).2⟩ ?_;clear h;rintro W ⟨A0,h,hB⟩;have⟨_,p0,_⟩:=A0;replace h:=ζ h;replace hB:=ζ hB;go_wp2_with(refine(hH.out _ h.out).mono ?_;rintro r X1 ⟨rfl,e1⟩);exact⟨rfl,rfl,(h.out.bl e1).1,hB.out.trans (h.out.bl e1).2⟩
 |ok b=>
  simp only[BoV]at hH
  cases b with
  |false=>
   simp only[Dv,pan];go_enter Tryz.func72,Tryz.ntmps72;go_upto_region 1 with fail
   refine wp_world (fun W=>At W W0.heap.size #[.int .u8 op,.int .i64 A,.int .i64 B_,.int .i64 C_,.int .i64 m]∧MIn B W a P s l∧Below B W0 W) ⟨At.new W0 #[.int .u8 op,.int .i64 A,.int .i64 B_,.int .i64 C_,.int .i64 m] 29,(h.out.new #[.int .u8 op,.int .i64 A,.int .i64 B_,.int .i64 C_,.int .i64 m] 29).1.drop,(h.out.new #[.int .u8 op,.int .i64 A,.int .i64 B_,.int .i64 C_,.int .i64 m] 29).2⟩ ?_;clear h;rintro W ⟨A0,h,hB⟩;have⟨_,p0,_⟩:=A0;replace h:=ζ h;replace hB:=ζ hB;go_wp2_with fail;refine(hH.out _ h.out).mono ?_;rintro r X1 ⟨rfl,e1⟩;replace hB:=ζ (hB.out.trans (h.out.bl e1).2);replace h:=ζ (h.out.bl e1).1;clear p0;have⟨_,p0,_⟩:=e1.at_ A0;clear e1 A0 hH hN;go_wp2_with fail;exact⟨rfl,rfl,h.out,hB.out⟩
  |true=>
   simp only[Dv];go_enter Tryz.func72,Tryz.ntmps72;go_upto_region 1 with fail
   refine wp_world (fun W=>At W W0.heap.size #[.int .u8 op,.int .i64 A,.int .i64 B_,.int .i64 C_,.int .i64 m]∧MIn B W a P s l∧Below B W0 W) ⟨At.new W0 #[.int .u8 op,.int .i64 A,.int .i64 B_,.int .i64 C_,.int .i64 m] 29,(h.out.new #[.int .u8 op,.int .i64 A,.int .i64 B_,.int .i64 C_,.int .i64 m] 29).1.drop,(h.out.new #[.int .u8 op,.int .i64 A,.int .i64 B_,.int .i64 C_,.int .i64 m] 29).2⟩ ?_;clear h;rintro W ⟨A0,h,hB⟩;have⟨_,p0,_⟩:=A0;replace h:=ζ h;replace hB:=ζ hB;go_wp2_with fail;refine(hH.out _ h.out).mono ?_;rintro r X1 ⟨rfl,e1⟩;replace hB:=ζ (hB.out.trans (h.out.bl e1).2);replace h:=ζ (h.out.bl e1).1;clear p0 e1 A0 hH;go_wp2_with fail;refine(hN.out _ h.out).mono ?_;rintro r X2 ⟨rfl,h2,hB2⟩;replace hB:=ζ (hB.out.trans hB2);replace h2:=ζ h2;clear hB2 hN h;go_wp2_with fail;go_end0;exact⟨rfl,h2.out,hB.out⟩
def UnV:Except Ed Int→Ending
 |.ok n=>.returned (.int .u64 n)
 |.error e=>pan e
def plcR (m sz p:Int)(v:Vl):Except Ed Int:=
 if v.g then(if accessF v.c.b v.c.e v.c.c v.c.p v.c.s (IntKind.u64.wrap m) sz p=0 then .ok (IntKind.u64.wrap (v.c.c+IntKind.u64.wrap m))else .error (flt (accessF v.c.b v.c.e v.c.c v.c.p v.c.s (IntKind.u64.wrap m) sz p)))else .error (flt 1)
theorem place_b (a:Nat)(op:Int)(A B C:Nat)(m sz p:Int)(v:Vl)(w:World)(hv:RgAt w a B v)(hg:v.g=false):
 Calls Tryz.prog 147 #[.pointer (some ⟨a,0,none⟩),insA op A B C m,.int .u64 sz,.int .u8 p] w fun x w'=>x=UnV (plcR m sz p v)∧Bl w w':=by
 have er:plcR m sz p v=.error (flt 1):=by unfold plcR;rw[hg];rfl
 rw[er];clear er;have h1:=ζ (fun X g=>held_badB a B v X (hv.bl g) hg);unfold pan at h1;simp only[UnV,pan];clear hg hv;unfold insA;try unfold Cp.val at*
 have A0:At (w.alloc (.cells #[.int .u8 op,.int .i64 A,.int .i64 B,.int .i64 C,.int .i64 m] 29)) w.heap.size #[.int .u8 op,.int .i64 A,.int .i64 B,.int .i64 C,.int .i64 m]:=At.new w #[.int .u8 op,.int .i64 A,.int .i64 B,.int .i64 C,.int .i64 m] 29;have g0:Bl w (w.alloc (.cells #[.int .u8 op,.int .i64 A,.int .i64 B,.int .i64 C,.int .i64 m] 29)):=(Bl.refl w).alloc _;replace A0:=ζ A0;replace g0:=ζ g0;go_enter Tryz.func147,Tryz.ntmps147;go_upto_region 1 with fail
 refine wp_world (fun W=>At W w.heap.size #[.int .u8 op,.int .i64 A,.int .i64 B,.int .i64 C,.int .i64 m]∧Bl w W) ⟨A0.out,g0.out⟩ ?_;clear A0 g0;rintro W ⟨A0,g0⟩;replace A0:=ζ ((Bl.refl W).drew.at_ A0);replace g0:=ζ g0.drew;refine wp_region_held_drew (S:=(fun X=>X.cell? ⟨w.heap.size,2,none⟩=some (.int .i64 B)∧X.cell? ⟨w.heap.size,4,none⟩=some (.int .i64 m))) (by kernel_rfl) (⟨A0.out.2.1 2,A0.out.2.1 4⟩) (fun hHeld=>?_);generalize W.drew=X0 at*;refine xz 0 rfl (h:=xz 1 rfl (h:=xz 2 rfl (h:=xz 4 rfl (h:=xz 5 rfl (h:=xz 6 rfl (h:=?_))))));try simp only[xap]
 refine wpAnyH_ready (rs:=[3,7]) (by kernel_rfl) (by simp) ?_;refine(xcn rfl (fun K hK=>?_) (xcn rfl (fun K hK=>?_) AllReadyH.nil))
 ·skip
  go_simp;go_wp2_with(refine(h1.out _ g0.out).mono ?_;rintro r Y1 ⟨rfl,e1⟩);exact⟨rfl,rfl,g0.out.trans e1⟩
 ·skip
  go_simp;have A9:=ζ (At.new X0 (List.toArray [Value.int .u64 0,.int .u64 0,.int .u64 0,.int .u8 0,.int .i64 0]) 73);have hn9:Hz (w.heap.size≠X0.heap.size):=ζ (by have:=A0.out.1;omega);have hk9:Hz (w.heap.size≤X0.heap.size):=ζ g0.out.size;replace A0:=ζ (A0.out.alloc (.cells (List.toArray [Value.int .u64 0,.int .u64 0,.int .u64 0,.int .u8 0,.int .i64 0]) 73));replace g0:=ζ (g0.out.alloc (.cells (List.toArray [Value.int .u64 0,.int .u64 0,.int .u64 0,.int .u8 0,.int .i64 0]) 73));refine hK.out _ _ ⟨A0.out.2.1 2,A0.out.2.1 4⟩ (fun hHeld=>?_);clear hK K;generalize X0.alloc (.cells (List.toArray [Value.int .u64 0,.int .u64 0,.int .u64 0,.int .u8 0,.int .i64 0]) 73)=X1 at*;generalize X0.heap.size=k9 at*;try simp only[xap]
  refine xrd 3 rfl (fun K hK=>?_);go_simp;go_wp2_with(refine(h1.out _ g0.out).mono ?_;rintro r Y1 ⟨rfl,e1⟩);exact⟨rfl,rfl,g0.out.trans e1⟩
theorem place_c (a:Nat)(op:Int)(A B C:Nat)(m sz p:Int)(v:Vl)(w:World)(hv:RgAt w a B v)(hg:v.g=true)(hac:accessF v.c.b v.c.e v.c.c v.c.p v.c.s (IntKind.u64.wrap m) sz p≠0):
 Calls Tryz.prog 147 #[.pointer (some ⟨a,0,none⟩),insA op A B C m,.int .u64 sz,.int .u8 p] w fun x w'=>x=UnV (plcR m sz p v)∧Bl w w':=by
 have er:plcR m sz p v=.error (flt (accessF v.c.b v.c.e v.c.c v.c.p v.c.s (IntKind.u64.wrap m) sz p)):=by unfold plcR;rw[hg,if_pos rfl,if_neg hac]
 rw[er];clear er;have h1:=ζ (fun X g=>held_okB a B v X (hv.bl g) hg);have h2:=ζ (fun X=>cwAcc v.c (IntKind.u64.wrap m) sz p X);have h3:=ζ (fun X=>allow_bad _ X hac);generalize accessF v.c.b v.c.e v.c.c v.c.p v.c.s (IntKind.u64.wrap m) sz p=ac at*;simp only[UnV,pan]at h3 ⊢;clear hg hv hac;unfold insA;try unfold Cp.val at*
 have A0:At (w.alloc (.cells #[.int .u8 op,.int .i64 A,.int .i64 B,.int .i64 C,.int .i64 m] 29)) w.heap.size #[.int .u8 op,.int .i64 A,.int .i64 B,.int .i64 C,.int .i64 m]:=At.new w #[.int .u8 op,.int .i64 A,.int .i64 B,.int .i64 C,.int .i64 m] 29;have g0:Bl w (w.alloc (.cells #[.int .u8 op,.int .i64 A,.int .i64 B,.int .i64 C,.int .i64 m] 29)):=(Bl.refl w).alloc _;replace A0:=ζ A0;replace g0:=ζ g0;go_enter Tryz.func147,Tryz.ntmps147;go_upto_region 1 with fail
 refine wp_world (fun W=>At W w.heap.size #[.int .u8 op,.int .i64 A,.int .i64 B,.int .i64 C,.int .i64 m]∧Bl w W) ⟨A0.out,g0.out⟩ ?_;clear A0 g0;rintro W ⟨A0,g0⟩;replace A0:=ζ ((Bl.refl W).drew.at_ A0);replace g0:=ζ g0.drew;refine wp_region_held_drew (S:=(fun X=>X.cell? ⟨w.heap.size,2,none⟩=some (.int .i64 B)∧X.cell? ⟨w.heap.size,4,none⟩=some (.int .i64 m))) (by kernel_rfl) (⟨A0.out.2.1 2,A0.out.2.1 4⟩) (fun hHeld=>?_);generalize W.drew=X0 at*;refine xz 0 rfl (h:=xz 1 rfl (h:=xz 2 rfl (h:=xz 4 rfl (h:=xz 5 rfl (h:=xz 6 rfl (h:=?_))))));try simp only[xap]
 refine wpAnyH_ready (rs:=[3,7]) (by kernel_rfl) (by simp) ?_;refine(xcn rfl (fun K hK=>?_) (xcn rfl (fun K hK=>?_) AllReadyH.nil))
 ·skip
  go_simp;go_wp2_with(refine(h1.out _ g0.out).mono ?_;rintro r X1 ⟨rfl,e1⟩;replace A0:=ζ (e1.at_ A0.out);replace g0:=ζ (g0.out.trans e1);clear e1 hHeld);refine hK.out _ _ ⟨A0.out.2.1 2,A0.out.2.1 4⟩ (fun hHeld=>?_);clear hK K;try simp only[xap]
  refine xrd 7 rfl (fun K hK=>?_);go_simp;have A9:=ζ (At.new X1 (List.toArray [Value.int .u64 0,.int .u64 0,.int .u64 0,.int .u8 0,.int .i64 0]) 73);have hn9:Hz (w.heap.size≠X1.heap.size):=ζ (by have:=A0.out.1;omega);have hk9:Hz (w.heap.size≤X1.heap.size):=ζ g0.out.size;replace A0:=ζ (A0.out.alloc (.cells (List.toArray [Value.int .u64 0,.int .u64 0,.int .u64 0,.int .u8 0,.int .i64 0]) 73));replace g0:=ζ (g0.out.alloc (.cells (List.toArray [Value.int .u64 0,.int .u64 0,.int .u64 0,.int .u8 0,.int .i64 0]) 73));refine hK.out _ _ ⟨A0.out.2.1 2,A0.out.2.1 4⟩ (fun hHeld=>?_);clear hK K;generalize X1.alloc (.cells (List.toArray [Value.int .u64 0,.int .u64 0,.int .u64 0,.int .u8 0,.int .i64 0]) 73)=X2 at*;generalize X1.heap.size=k9 at*;try simp only[xap]
  refine xrd 8 rfl (fun K hK=>?_);rw[if_pos (by rfl)];refine wp_store_mid _ _ _ rfl _ _ (List.toArray [Value.int .u64 v.c.b,.int .u64 v.c.e,.int .u64 v.c.c,.int .u8 v.c.p,.int .i64 v.c.s]) rfl rfl (At.there A9.out 0 5 (by decide)) (by kernel_rfl) (by simp[Value.oneCell']) ?_;replace A0:=ζ (A0.out.other hn9.out 0 [Value.int .u64 v.c.b,.int .u64 v.c.e,.int .u64 v.c.c,.int .u8 v.c.p,.int .i64 v.c.s]);replace A9:=ζ (At.setAll (cs:=[Value.int .u64 0,.int .u64 0,.int .u64 0,.int .u8 0,.int .i64 0]) A9.out [Value.int .u64 v.c.b,.int .u64 v.c.e,.int .u64 v.c.c,.int .u8 v.c.p,.int .i64 v.c.s] rfl);replace g0:=ζ (g0.out.sets k9 hk9.out [Value.int .u64 v.c.b,.int .u64 v.c.e,.int .u64 v.c.c,.int .u8 v.c.p,.int .i64 v.c.s] 0);refine hK.out _ _ ⟨A0.out.2.1 2,A0.out.2.1 4⟩ (fun hHeld=>?_);clear hK K;generalize World.setCells _ _ _ _=X3 at*;try simp only[Act.put]
  refine xz 9 rfl (h:=?_);try simp only[xap]
  refine xdn ?_ _;clear hHeld;have⟨_,p9,_⟩:=A9.out;go_wp2_with fail;refine(h2.out _).mono ?_;rintro r Y1 ⟨rfl,e1⟩;replace g0:=ζ (g0.out.trans e1);replace A9:=ζ (e1.at_ A9.out);clear e1 p9;go_wp2_with(refine(h3.out _).mono ?_;rintro r Y2 ⟨rfl,rfl⟩);exact⟨rfl,rfl,g0.out⟩
 ·skip
  go_simp;have A9:=ζ (At.new X0 (List.toArray [Value.int .u64 0,.int .u64 0,.int .u64 0,.int .u8 0,.int .i64 0]) 73);have hn9:Hz (w.heap.size≠X0.heap.size):=ζ (by have:=A0.out.1;omega);have hk9:Hz (w.heap.size≤X0.heap.size):=ζ g0.out.size;replace A0:=ζ (A0.out.alloc (.cells (List.toArray [Value.int .u64 0,.int .u64 0,.int .u64 0,.int .u8 0,.int .i64 0]) 73));replace g0:=ζ (g0.out.alloc (.cells (List.toArray [Value.int .u64 0,.int .u64 0,.int .u64 0,.int .u8 0,.int .i64 0]) 73));refine hK.out _ _ ⟨A0.out.2.1 2,A0.out.2.1 4⟩ (fun hHeld=>?_);clear hK K;generalize X0.alloc (.cells (List.toArray [Value.int .u64 0,.int .u64 0,.int .u64 0,.int .u8 0,.int .i64 0]) 73)=X1 at*;generalize X0.heap.size=k9 at*;try simp only[xap]
  refine xrd 3 rfl (fun K hK=>?_);go_simp;go_wp2_with(refine(h1.out _ g0.out).mono ?_;rintro r X2 ⟨rfl,e1⟩;replace A0:=ζ (e1.at_ A0.out);replace g0:=ζ (g0.out.trans e1);replace A9:=ζ (e1.at_ A9.out);clear e1 hHeld);refine hK.out _ _ ⟨A0.out.2.1 2,A0.out.2.1 4⟩ (fun hHeld=>?_);clear hK K;try simp only[xap]
  refine xrd 8 rfl (fun K hK=>?_);rw[if_pos (by rfl)];refine wp_store_mid _ _ _ rfl _ _ (List.toArray [Value.int .u64 v.c.b,.int .u64 v.c.e,.int .u64 v.c.c,.int .u8 v.c.p,.int .i64 v.c.s]) rfl rfl (At.there A9.out 0 5 (by decide)) (by kernel_rfl) (by simp[Value.oneCell']) ?_;replace A0:=ζ (A0.out.other hn9.out 0 [Value.int .u64 v.c.b,.int .u64 v.c.e,.int .u64 v.c.c,.int .u8 v.c.p,.int .i64 v.c.s]);replace A9:=ζ (At.setAll (cs:=[Value.int .u64 0,.int .u64 0,.int .u64 0,.int .u8 0,.int .i64 0]) A9.out [Value.int .u64 v.c.b,.int .u64 v.c.e,.int .u64 v.c.c,.int .u8 v.c.p,.int .i64 v.c.s] rfl);replace g0:=ζ (g0.out.sets k9 hk9.out [Value.int .u64 v.c.b,.int .u64 v.c.e,.int .u64 v.c.c,.int .u8 v.c.p,.int .i64 v.c.s] 0);refine hK.out _ _ ⟨A0.out.2.1 2,A0.out.2.1 4⟩ (fun hHeld=>?_);clear hK K;generalize World.setCells _ _ _ _=X3 at*;try simp only[Act.put]
  refine xz 9 rfl (h:=?_);try simp only[xap]
  refine xdn ?_ _;clear hHeld;have⟨_,p9,_⟩:=A9.out;go_wp2_with fail;refine(h2.out _).mono ?_;rintro r Y1 ⟨rfl,e1⟩;replace g0:=ζ (g0.out.trans e1);replace A9:=ζ (e1.at_ A9.out);clear e1 p9;go_wp2_with(refine(h3.out _).mono ?_;rintro r Y2 ⟨rfl,rfl⟩);exact⟨rfl,rfl,g0.out⟩
theorem place_ok (a:Nat)(op:Int)(A B C:Nat)(m sz p:Int)(v:Vl)(w:World)(hv:RgAt w a B v)(hg:v.g=true)(hac:accessF v.c.b v.c.e v.c.c v.c.p v.c.s (IntKind.u64.wrap m) sz p=0):
 Calls Tryz.prog 147 #[.pointer (some ⟨a,0,none⟩),insA op A B C m,.int .u64 sz,.int .u8 p] w fun x w'=>x=UnV (plcR m sz p v)∧Bl w w':=by
 have er:plcR m sz p v=.ok (IntKind.u64.wrap (v.c.c+IntKind.u64.wrap m)):=by unfold plcR;rw[hg,if_pos rfl,if_pos hac]
 rw[er];clear er;have h1:=ζ (fun X g=>held_okB a B v X (hv.bl g) hg);have h2:=ζ (fun X=>cwAcc v.c (IntKind.u64.wrap m) sz p X);rw[hac]at h2;have h3:=ζ allow_ok;simp only[UnV];clear hg hv hac;unfold insA;try unfold Cp.val at*
 have A0:At (w.alloc (.cells #[.int .u8 op,.int .i64 A,.int .i64 B,.int .i64 C,.int .i64 m] 29)) w.heap.size #[.int .u8 op,.int .i64 A,.int .i64 B,.int .i64 C,.int .i64 m]:=At.new w #[.int .u8 op,.int .i64 A,.int .i64 B,.int .i64 C,.int .i64 m] 29;have g0:Bl w (w.alloc (.cells #[.int .u8 op,.int .i64 A,.int .i64 B,.int .i64 C,.int .i64 m] 29)):=(Bl.refl w).alloc _;replace A0:=ζ A0;replace g0:=ζ g0;go_enter Tryz.func147,Tryz.ntmps147;go_upto_region 1 with fail
 refine wp_world (fun W=>At W w.heap.size #[.int .u8 op,.int .i64 A,.int .i64 B,.int .i64 C,.int .i64 m]∧Bl w W) ⟨A0.out,g0.out⟩ ?_;clear A0 g0;rintro W ⟨A0,g0⟩;replace A0:=ζ ((Bl.refl W).drew.at_ A0);replace g0:=ζ g0.drew;refine wp_region_held_drew (S:=(fun X=>X.cell? ⟨w.heap.size,2,none⟩=some (.int .i64 B)∧X.cell? ⟨w.heap.size,4,none⟩=some (.int .i64 m))) (by kernel_rfl) (⟨A0.out.2.1 2,A0.out.2.1 4⟩) (fun hHeld=>?_);generalize W.drew=X0 at*;refine xz 0 rfl (h:=xz 1 rfl (h:=xz 2 rfl (h:=xz 4 rfl (h:=xz 5 rfl (h:=xz 6 rfl (h:=?_))))));try simp only[xap]
 refine wpAnyH_ready (rs:=[3,7]) (by kernel_rfl) (by simp) ?_;refine(xcn rfl (fun K hK=>?_) (xcn rfl (fun K hK=>?_) AllReadyH.nil))
 ·skip
  go_simp;go_wp2_with(refine(h1.out _ g0.out).mono ?_;rintro r X1 ⟨rfl,e1⟩;replace A0:=ζ (e1.at_ A0.out);replace g0:=ζ (g0.out.trans e1);clear e1 hHeld);refine hK.out _ _ ⟨A0.out.2.1 2,A0.out.2.1 4⟩ (fun hHeld=>?_);clear hK K;try simp only[xap]
  refine xrd 7 rfl (fun K hK=>?_);go_simp;have A9:=ζ (At.new X1 (List.toArray [Value.int .u64 0,.int .u64 0,.int .u64 0,.int .u8 0,.int .i64 0]) 73);have hn9:Hz (w.heap.size≠X1.heap.size):=ζ (by have:=A0.out.1;omega);have hk9:Hz (w.heap.size≤X1.heap.size):=ζ g0.out.size;replace A0:=ζ (A0.out.alloc (.cells (List.toArray [Value.int .u64 0,.int .u64 0,.int .u64 0,.int .u8 0,.int .i64 0]) 73));replace g0:=ζ (g0.out.alloc (.cells (List.toArray [Value.int .u64 0,.int .u64 0,.int .u64 0,.int .u8 0,.int .i64 0]) 73));refine hK.out _ _ ⟨A0.out.2.1 2,A0.out.2.1 4⟩ (fun hHeld=>?_);clear hK K;generalize X1.alloc (.cells (List.toArray [Value.int .u64 0,.int .u64 0,.int .u64 0,.int .u8 0,.int .i64 0]) 73)=X2 at*;generalize X1.heap.size=k9 at*;try simp only[xap]
  refine xrd 8 rfl (fun K hK=>?_);rw[if_pos (by rfl)];refine wp_store_mid _ _ _ rfl _ _ (List.toArray [Value.int .u64 v.c.b,.int .u64 v.c.e,.int .u64 v.c.c,.int .u8 v.c.p,.int .i64 v.c.s]) rfl rfl (At.there A9.out 0 5 (by decide)) (by kernel_rfl) (by simp[Value.oneCell']) ?_;replace A0:=ζ (A0.out.other hn9.out 0 [Value.int .u64 v.c.b,.int .u64 v.c.e,.int .u64 v.c.c,.int .u8 v.c.p,.int .i64 v.c.s]);replace A9:=ζ (At.setAll (cs:=[Value.int .u64 0,.int .u64 0,.int .u64 0,.int .u8 0,.int .i64 0]) A9.out [Value.int .u64 v.c.b,.int .u64 v.c.e,.int .u64 v.c.c,.int .u8 v.c.p,.int .i64 v.c.s] rfl);replace g0:=ζ (g0.out.sets k9 hk9.out [Value.int .u64 v.c.b,.int .u64 v.c.e,.int .u64 v.c.c,.int .u8 v.c.p,.int .i64 v.c.s] 0);refine hK.out _ _ ⟨A0.out.2.1 2,A0.out.2.1 4⟩ (fun hHeld=>?_);clear hK K;generalize World.setCells _ _ _ _=X3 at*;try simp only[Act.put]
  refine xz 9 rfl (h:=?_);try simp only[xap]
  refine xdn ?_ _;clear hHeld;have⟨_,p9,_⟩:=A9.out;go_wp2_with fail;refine(h2.out _).mono ?_;rintro r Y1 ⟨rfl,e1⟩;replace g0:=ζ (g0.out.trans e1);replace A9:=ζ (e1.at_ A9.out);clear e1 p9;go_wp2_with fail;refine(h3.out _).mono ?_;rintro r Y2 ⟨rfl,rfl⟩;have⟨_,p9,_⟩:=A9.out;go_wp2_with fail;go_ret;exact⟨rfl,g0.out⟩
 ·skip
  go_simp;have A9:=ζ (At.new X0 (List.toArray [Value.int .u64 0,.int .u64 0,.int .u64 0,.int .u8 0,.int .i64 0]) 73);have hn9:Hz (w.heap.size≠X0.heap.size):=ζ (by have:=A0.out.1;omega);have hk9:Hz (w.heap.size≤X0.heap.size):=ζ g0.out.size;replace A0:=ζ (A0.out.alloc (.cells (List.toArray [Value.int .u64 0,.int .u64 0,.int .u64 0,.int .u8 0,.int .i64 0]) 73));replace g0:=ζ (g0.out.alloc (.cells (List.toArray [Value.int .u64 0,.int .u64 0,.int .u64 0,.int .u8 0,.int .i64 0]) 73));refine hK.out _ _ ⟨A0.out.2.1 2,A0.out.2.1 4⟩ (fun hHeld=>?_);clear hK K;generalize X0.alloc (.cells (List.toArray [Value.int .u64 0,.int .u64 0,.int .u64 0,.int .u8 0,.int .i64 0]) 73)=X1 at*;generalize X0.heap.size=k9 at*;try simp only[xap]
  refine xrd 3 rfl (fun K hK=>?_);go_simp;go_wp2_with(refine(h1.out _ g0.out).mono ?_;rintro r X2 ⟨rfl,e1⟩;replace A0:=ζ (e1.at_ A0.out);replace g0:=ζ (g0.out.trans e1);replace A9:=ζ (e1.at_ A9.out);clear e1 hHeld);refine hK.out _ _ ⟨A0.out.2.1 2,A0.out.2.1 4⟩ (fun hHeld=>?_);clear hK K;try simp only[xap]
  refine xrd 8 rfl (fun K hK=>?_);rw[if_pos (by rfl)];refine wp_store_mid _ _ _ rfl _ _ (List.toArray [Value.int .u64 v.c.b,.int .u64 v.c.e,.int .u64 v.c.c,.int .u8 v.c.p,.int .i64 v.c.s]) rfl rfl (At.there A9.out 0 5 (by decide)) (by kernel_rfl) (by simp[Value.oneCell']) ?_;replace A0:=ζ (A0.out.other hn9.out 0 [Value.int .u64 v.c.b,.int .u64 v.c.e,.int .u64 v.c.c,.int .u8 v.c.p,.int .i64 v.c.s]);replace A9:=ζ (At.setAll (cs:=[Value.int .u64 0,.int .u64 0,.int .u64 0,.int .u8 0,.int .i64 0]) A9.out [Value.int .u64 v.c.b,.int .u64 v.c.e,.int .u64 v.c.c,.int .u8 v.c.p,.int .i64 v.c.s] rfl);replace g0:=ζ (g0.out.sets k9 hk9.out [Value.int .u64 v.c.b,.int .u64 v.c.e,.int .u64 v.c.c,.int .u8 v.c.p,.int .i64 v.c.s] 0);refine hK.out _ _ ⟨A0.out.2.1 2,A0.out.2.1 4⟩ (fun hHeld=>?_);clear hK K;generalize World.setCells _ _ _ _=X3 at*;try simp only[Act.put]
  refine xz 9 rfl (h:=?_);try simp only[xap]
  refine xdn ?_ _;clear hHeld;have⟨_,p9,_⟩:=A9.out;go_wp2_with fail;refine(h2.out _).mono ?_;rintro r Y1 ⟨rfl,e1⟩;replace g0:=ζ (g0.out.trans e1);replace A9:=ζ (e1.at_ A9.out);clear e1 p9;go_wp2_with fail;refine(h3.out _).mono ?_;rintro r Y2 ⟨rfl,rfl⟩;have⟨_,p9,_⟩:=A9.out;go_wp2_with fail;go_ret;exact⟨rfl,g0.out⟩
theorem place_any (a:Nat)(op:Int)(A B C:Nat)(m sz p:Int)(v:Vl)(w:World)(hv:RgAt w a B v):
 Calls Tryz.prog 147 #[.pointer (some ⟨a,0,none⟩),insA op A B C m,.int .u64 sz,.int .u8 p] w fun x w'=>x=UnV (plcR m sz p v)∧Bl w w':=by
 cases hg:v.g with
 |false=>exact place_b a op A B C m sz p v w hv hg
 |true=>
  by_cases hac:accessF v.c.b v.c.e v.c.c v.c.p v.c.s (IntKind.u64.wrap m) sz p=0
  ·exact place_ok a op A B C m sz p v w hv hg hac
  ·exact place_c a op A B C m sz p v w hv hg hac
end C
namespace T
open Go.RowKit
end T
end Go.Proofs.YtkhbiaaangnkdaaGreatDoor
