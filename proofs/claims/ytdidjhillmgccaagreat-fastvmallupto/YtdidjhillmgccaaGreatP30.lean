import Derived.Test.YtdidjhillmgccaaGreatP28
import Derived.Test.YtdidjhillmgccaaGreatP24
import Derived.ArgAppend
import Derived.Deep.AppendSrc
import Derived.Test.YtdidjhillmgccaaGreatP26
import Derived.Test.YtdidjhillmgccaaGreatP23
import Derived.Test.YtdidjhillmgccaaGreatZDNum
namespace Go.Proofs.YtdidjhillmgccaaGreat
set_option maxRecDepth 100000
set_option maxHeartbeats 40000000
namespace Z
open Go.RowKit
open T (Sep Ob Kp Mf FlIn)
theorem djmp20 (a:Nat)(x:Dx)(ia ib ic:Nat)(imm:Int)(w:World)(h:DBx w a x)(ha:ia<16)(hb:ib<16)(hp:x.p≤1000000)(tg:Nat)(ht:imm=(tg:Int))(ht2:tg≤1000000):
 Calls Tryz.prog 55 #[.pointer (some ⟨a,0,none⟩),.agg #[.int .u8 20,.int .i64 ia,.int .i64 ib,.int .i64 ic,.int .u64 imm]] w fun r w'=>r=.returned (.tuple #[])∧DB1 a ({x with p:=tg}) w w':=by
 replace ht:=ζ ht;have hne:¬w.heap.size=a:=by have:=h.lt;omega
 have hx:=ζ h;clear h;go_enter Tryz.func55,Tryz.ntmps55;go_upto_region 1 with fail
 refine wp_world (fun W=>At W w.heap.size #[.int .u8 20,.int .i64 ia,.int .i64 ib,.int .i64 ic,.int .u64 imm]∧Gr w W) ⟨At.new w _ _,(Gr.refl _).alloc _⟩ ?_;rintro W ⟨hA,G⟩;generalize w.heap.size=kb at*;replace hA:=ζ hA;replace hx:=ζ (hx.out.gr G);have hkp:Hz (Kp (fun k=>k=a) w W):=ζ (Kp.ofGr G);clear G;have KS:=xk2 20 ia ib ic imm kb;have hxd:=hx.out.gr ((Gr.refl W).drew);have rr:W.drew.cell? ⟨a,6+ia,none⟩=some (.int .u64 (x.r ia)):=(hxd.at_ (6+ia) (by omega)).trans (congrArg some (Dx.reg x ia ha));have ri:(ia:Int)<16:=by omega
 refine wp_region_held_drew (S:=(fun W=>W.cell? ⟨kb,0,none⟩=some (.int .u8 20)∧W.cell? ⟨kb,1,none⟩=some (.int .i64 ia)∧W.cell? ⟨kb,2,none⟩=some (.int .i64 ib)∧W.cell? ⟨kb,3,none⟩=some (.int .i64 ic)∧W.cell? ⟨kb,4,none⟩=some (.int .u64 imm))) (by kernel_rfl) (KS.out _ (hA.out.gr ((Gr.refl W).drew))) (fun hHeld=>?_);refine xz 0 rfl (h:=xz 1 rfl (h:=xz 2 rfl (h:=xz 3 rfl (h:=xz 4 rfl (h:=xz 5 rfl (h:=?_))))));try simp only[xap]
 refine xrd 6 rfl (fun K hK=>?_);go_simp;refine hK.out _ _ (KS.out _ (hA.out.gr ((Gr.refl W).drew))) (fun hHeld=>?_);clear hK K;try simp only[xap]
 refine xz 7 rfl (h:=?_);try simp only[xap]
 refine xdn ?_ _;clear hHeld rr ri;replace hA:=ζ (hA.out.gr ((Gr.refl W).drew));replace hkp:=ζ (hkp.out.trans (Kp.ofGr ((Gr.refl W).drew)) (fun _ q=>.inl q));replace hx:=ζ hxd;clear hxd;generalize W.drew=W2 at*;go_upto_region 2 with fail
 have hxd:=hx.out.gr ((Gr.refl W2).drew);have rr:W2.drew.cell? ⟨a,6+ib,none⟩=some (.int .u64 (x.r ib)):=(hxd.at_ (6+ib) (by omega)).trans (congrArg some (Dx.reg x ib hb));have ri:(ib:Int)<16:=by omega
 refine wp_region_held_drew (S:=(fun W=>W.cell? ⟨kb,0,none⟩=some (.int .u8 20)∧W.cell? ⟨kb,1,none⟩=some (.int .i64 ia)∧W.cell? ⟨kb,2,none⟩=some (.int .i64 ib)∧W.cell? ⟨kb,3,none⟩=some (.int .i64 ic)∧W.cell? ⟨kb,4,none⟩=some (.int .u64 imm))) (by kernel_rfl) (KS.out _ (hA.out.gr ((Gr.refl W2).drew))) (fun hHeld=>?_);refine xz 0 rfl (h:=xz 1 rfl (h:=xz 2 rfl (h:=xz 3 rfl (h:=xz 4 rfl (h:=xz 5 rfl (h:=?_))))));try simp only[xap]
 refine xrd 6 rfl (fun K hK=>?_);go_simp;refine hK.out _ _ (KS.out _ (hA.out.gr ((Gr.refl W2).drew))) (fun hHeld=>?_);clear hK K;try simp only[xap]
 refine xz 7 rfl (h:=?_);try simp only[xap]
 refine xdn ?_ _;clear hHeld rr ri;replace hA:=ζ (hA.out.gr ((Gr.refl W2).drew));replace hkp:=ζ (hkp.out.trans (Kp.ofGr ((Gr.refl W2).drew)) (fun _ q=>.inl q));replace hx:=ζ hxd;clear hxd;generalize W2.drew=V0 at*;have k0:V0.cell? ⟨kb,0,none⟩=some (.int .u8 20):=hA.out.2.1 0;have c5:V0.cell? ⟨a,5,none⟩=some (.int .i64 x.p):=hx.out.at_ 5 (by omega);have f5:=hx.out.fr 5;have hlt:=hx.out.lt;have hw5:wrap64 ((x.p:Int)+1)=(x.p:Int)+1:=by unfold wrap64;omega
 go_upto_region 5 with fail;clear c5 f5 hlt hw5;replace hx:=ζ (show DBx (V0.setCell ⟨a,5,none⟩ (.int .i64 ((x.p:Int)+1))) a x.next from hx.out.p_ (x.p+1));replace hA:=ζ (show At (V0.setCell ⟨a,5,none⟩ (.int .i64 ((x.p:Int)+1))) kb #[.int .u8 20,.int .i64 ia,.int .i64 ib,.int .i64 ic,.int .u64 imm]from T.at_kp hA.out (kp_set1 (Kp.refl (fun k=>k=a) V0) 5 _) hne);replace hkp:=ζ (show Kp (fun k=>k=a) w (V0.setCell ⟨a,5,none⟩ (.int .i64 ((x.p:Int)+1)))from hkp.out.trans (kp_set1 (Kp.refl _ V0) 5 _) (fun _ q=>.inl q));generalize V0.setCell ⟨a,5,none⟩ (.int .i64 ((x.p:Int)+1))=V at*;have k4:V.cell? ⟨kb,4,none⟩=some (.int .u64 imm):=hA.out.2.1 4;have hcv:IntKind.i64.wrap imm=(tg:Int):=by rw[IntKind.wrap_i64];have:=ht.out;omega
 have c5:V.cell? ⟨a,5,none⟩=some (.int .i64 ((x.p:Int)+1)):=hx.out.at_ 5 (by omega);have f5:=hx.out.fr 5;have hlt:=hx.out.lt;have hfin:Hz (DB1 a {x with p:=tg} w (V.setCell ⟨a,5,none⟩ (.int .i64 tg))):=ζ ⟨hx.out.p_ tg,hkp.out.trans (kp_set1 (Kp.refl _ V) 5 _) (fun _ q=>.inl q)⟩;go_wp2_with fail
 first|go_end0|((try simp only[Exit.inBlock,Exit.then]);refine xre ?_)
 exact⟨rfl,hfin.out⟩
theorem djmp21y (a:Nat)(x:Dx)(ia ib ic:Nat)(imm:Int)(w:World)(h:DBx w a x)(ha:ia<16)(hb:ib<16)(hp:x.p≤1000000)(hq:x.r ia=x.r ib)(tg:Nat)(ht:imm=(tg:Int))(ht2:tg≤1000000):
 Calls Tryz.prog 55 #[.pointer (some ⟨a,0,none⟩),.agg #[.int .u8 21,.int .i64 ia,.int .i64 ib,.int .i64 ic,.int .u64 imm]] w fun r w'=>r=.returned (.tuple #[])∧DB1 a ({x with p:=tg}) w w':=by
 replace ht:=ζ ht;have hne:¬w.heap.size=a:=by have:=h.lt;omega
 have hx:=ζ h;clear h;go_enter Tryz.func55,Tryz.ntmps55;go_upto_region 1 with fail
 refine wp_world (fun W=>At W w.heap.size #[.int .u8 21,.int .i64 ia,.int .i64 ib,.int .i64 ic,.int .u64 imm]∧Gr w W) ⟨At.new w _ _,(Gr.refl _).alloc _⟩ ?_;rintro W ⟨hA,G⟩;generalize w.heap.size=kb at*;replace hA:=ζ hA;replace hx:=ζ (hx.out.gr G);have hkp:Hz (Kp (fun k=>k=a) w W):=ζ (Kp.ofGr G);clear G;have KS:=xk2 21 ia ib ic imm kb;have hxd:=hx.out.gr ((Gr.refl W).drew);have rr:W.drew.cell? ⟨a,6+ia,none⟩=some (.int .u64 (x.r ia)):=(hxd.at_ (6+ia) (by omega)).trans (congrArg some (Dx.reg x ia ha));have ri:(ia:Int)<16:=by omega
 refine wp_region_held_drew (S:=(fun W=>W.cell? ⟨kb,0,none⟩=some (.int .u8 21)∧W.cell? ⟨kb,1,none⟩=some (.int .i64 ia)∧W.cell? ⟨kb,2,none⟩=some (.int .i64 ib)∧W.cell? ⟨kb,3,none⟩=some (.int .i64 ic)∧W.cell? ⟨kb,4,none⟩=some (.int .u64 imm))) (by kernel_rfl) (KS.out _ (hA.out.gr ((Gr.refl W).drew))) (fun hHeld=>?_);refine xz 0 rfl (h:=xz 1 rfl (h:=xz 2 rfl (h:=xz 3 rfl (h:=xz 4 rfl (h:=xz 5 rfl (h:=?_))))));try simp only[xap]
 refine xrd 6 rfl (fun K hK=>?_);go_simp;refine hK.out _ _ (KS.out _ (hA.out.gr ((Gr.refl W).drew))) (fun hHeld=>?_);clear hK K;try simp only[xap]
 refine xz 7 rfl (h:=?_);try simp only[xap]
 refine xdn ?_ _;clear hHeld rr ri;replace hA:=ζ (hA.out.gr ((Gr.refl W).drew));replace hkp:=ζ (hkp.out.trans (Kp.ofGr ((Gr.refl W).drew)) (fun _ q=>.inl q));replace hx:=ζ hxd;clear hxd;generalize W.drew=W2 at*;go_upto_region 2 with fail
 have hxd:=hx.out.gr ((Gr.refl W2).drew);have rr:W2.drew.cell? ⟨a,6+ib,none⟩=some (.int .u64 (x.r ib)):=(hxd.at_ (6+ib) (by omega)).trans (congrArg some (Dx.reg x ib hb));have ri:(ib:Int)<16:=by omega
 refine wp_region_held_drew (S:=(fun W=>W.cell? ⟨kb,0,none⟩=some (.int .u8 21)∧W.cell? ⟨kb,1,none⟩=some (.int .i64 ia)∧W.cell? ⟨kb,2,none⟩=some (.int .i64 ib)∧W.cell? ⟨kb,3,none⟩=some (.int .i64 ic)∧W.cell? ⟨kb,4,none⟩=some (.int .u64 imm))) (by kernel_rfl) (KS.out _ (hA.out.gr ((Gr.refl W2).drew))) (fun hHeld=>?_);refine xz 0 rfl (h:=xz 1 rfl (h:=xz 2 rfl (h:=xz 3 rfl (h:=xz 4 rfl (h:=xz 5 rfl (h:=?_))))));try simp only[xap]
 refine xrd 6 rfl (fun K hK=>?_);go_simp;refine hK.out _ _ (KS.out _ (hA.out.gr ((Gr.refl W2).drew))) (fun hHeld=>?_);clear hK K;try simp only[xap]
 refine xz 7 rfl (h:=?_);try simp only[xap]
 refine xdn ?_ _;clear hHeld rr ri;replace hA:=ζ (hA.out.gr ((Gr.refl W2).drew));replace hkp:=ζ (hkp.out.trans (Kp.ofGr ((Gr.refl W2).drew)) (fun _ q=>.inl q));replace hx:=ζ hxd;clear hxd;generalize W2.drew=V0 at*;have k0:V0.cell? ⟨kb,0,none⟩=some (.int .u8 21):=hA.out.2.1 0;have hq2:(x.r ia==x.r ib)=true:=by simpa using hq
 have c5:V0.cell? ⟨a,5,none⟩=some (.int .i64 x.p):=hx.out.at_ 5 (by omega);have f5:=hx.out.fr 5;have hlt:=hx.out.lt;have hw5:wrap64 ((x.p:Int)+1)=(x.p:Int)+1:=by unfold wrap64;omega
 go_upto_region 5 with fail;clear c5 f5 hlt hw5;replace hx:=ζ (show DBx (V0.setCell ⟨a,5,none⟩ (.int .i64 ((x.p:Int)+1))) a x.next from hx.out.p_ (x.p+1));replace hA:=ζ (show At (V0.setCell ⟨a,5,none⟩ (.int .i64 ((x.p:Int)+1))) kb #[.int .u8 21,.int .i64 ia,.int .i64 ib,.int .i64 ic,.int .u64 imm]from T.at_kp hA.out (kp_set1 (Kp.refl (fun k=>k=a) V0) 5 _) hne);replace hkp:=ζ (show Kp (fun k=>k=a) w (V0.setCell ⟨a,5,none⟩ (.int .i64 ((x.p:Int)+1)))from hkp.out.trans (kp_set1 (Kp.refl _ V0) 5 _) (fun _ q=>.inl q));generalize V0.setCell ⟨a,5,none⟩ (.int .i64 ((x.p:Int)+1))=V at*;have k4:V.cell? ⟨kb,4,none⟩=some (.int .u64 imm):=hA.out.2.1 4;have hcv:IntKind.i64.wrap imm=(tg:Int):=by rw[IntKind.wrap_i64];have:=ht.out;omega
 have c5:V.cell? ⟨a,5,none⟩=some (.int .i64 ((x.p:Int)+1)):=hx.out.at_ 5 (by omega);have f5:=hx.out.fr 5;have hlt:=hx.out.lt;have hfin:Hz (DB1 a {x with p:=tg} w (V.setCell ⟨a,5,none⟩ (.int .i64 tg))):=ζ ⟨hx.out.p_ tg,hkp.out.trans (kp_set1 (Kp.refl _ V) 5 _) (fun _ q=>.inl q)⟩;go_wp2_with fail
 first|go_end0|((try simp only[Exit.inBlock,Exit.then]);refine xre ?_)
 exact⟨rfl,hfin.out⟩
theorem djmp21n (a:Nat)(x:Dx)(ia ib ic:Nat)(imm:Int)(w:World)(h:DBx w a x)(ha:ia<16)(hb:ib<16)(hp:x.p≤1000000)(hq:¬x.r ia=x.r ib):
 Calls Tryz.prog 55 #[.pointer (some ⟨a,0,none⟩),.agg #[.int .u8 21,.int .i64 ia,.int .i64 ib,.int .i64 ic,.int .u64 imm]] w fun r w'=>r=.returned (.tuple #[])∧DB1 a (x.next) w w':=by
 have hne:¬w.heap.size=a:=by have:=h.lt;omega
 have hx:=ζ h;clear h;go_enter Tryz.func55,Tryz.ntmps55;go_upto_region 1 with fail
 refine wp_world (fun W=>At W w.heap.size #[.int .u8 21,.int .i64 ia,.int .i64 ib,.int .i64 ic,.int .u64 imm]∧Gr w W) ⟨At.new w _ _,(Gr.refl _).alloc _⟩ ?_;rintro W ⟨hA,G⟩;generalize w.heap.size=kb at*;replace hA:=ζ hA;replace hx:=ζ (hx.out.gr G);have hkp:Hz (Kp (fun k=>k=a) w W):=ζ (Kp.ofGr G);clear G;have KS:=xk2 21 ia ib ic imm kb;have hxd:=hx.out.gr ((Gr.refl W).drew);have rr:W.drew.cell? ⟨a,6+ia,none⟩=some (.int .u64 (x.r ia)):=(hxd.at_ (6+ia) (by omega)).trans (congrArg some (Dx.reg x ia ha));have ri:(ia:Int)<16:=by omega
 refine wp_region_held_drew (S:=(fun W=>W.cell? ⟨kb,0,none⟩=some (.int .u8 21)∧W.cell? ⟨kb,1,none⟩=some (.int .i64 ia)∧W.cell? ⟨kb,2,none⟩=some (.int .i64 ib)∧W.cell? ⟨kb,3,none⟩=some (.int .i64 ic)∧W.cell? ⟨kb,4,none⟩=some (.int .u64 imm))) (by kernel_rfl) (KS.out _ (hA.out.gr ((Gr.refl W).drew))) (fun hHeld=>?_);refine xz 0 rfl (h:=xz 1 rfl (h:=xz 2 rfl (h:=xz 3 rfl (h:=xz 4 rfl (h:=xz 5 rfl (h:=?_))))));try simp only[xap]
 refine xrd 6 rfl (fun K hK=>?_);go_simp;refine hK.out _ _ (KS.out _ (hA.out.gr ((Gr.refl W).drew))) (fun hHeld=>?_);clear hK K;try simp only[xap]
 refine xz 7 rfl (h:=?_);try simp only[xap]
 refine xdn ?_ _;clear hHeld rr ri;replace hA:=ζ (hA.out.gr ((Gr.refl W).drew));replace hkp:=ζ (hkp.out.trans (Kp.ofGr ((Gr.refl W).drew)) (fun _ q=>.inl q));replace hx:=ζ hxd;clear hxd;generalize W.drew=W2 at*;go_upto_region 2 with fail
 have hxd:=hx.out.gr ((Gr.refl W2).drew);have rr:W2.drew.cell? ⟨a,6+ib,none⟩=some (.int .u64 (x.r ib)):=(hxd.at_ (6+ib) (by omega)).trans (congrArg some (Dx.reg x ib hb));have ri:(ib:Int)<16:=by omega
 refine wp_region_held_drew (S:=(fun W=>W.cell? ⟨kb,0,none⟩=some (.int .u8 21)∧W.cell? ⟨kb,1,none⟩=some (.int .i64 ia)∧W.cell? ⟨kb,2,none⟩=some (.int .i64 ib)∧W.cell? ⟨kb,3,none⟩=some (.int .i64 ic)∧W.cell? ⟨kb,4,none⟩=some (.int .u64 imm))) (by kernel_rfl) (KS.out _ (hA.out.gr ((Gr.refl W2).drew))) (fun hHeld=>?_);refine xz 0 rfl (h:=xz 1 rfl (h:=xz 2 rfl (h:=xz 3 rfl (h:=xz 4 rfl (h:=xz 5 rfl (h:=?_))))));try simp only[xap]
 refine xrd 6 rfl (fun K hK=>?_);go_simp;refine hK.out _ _ (KS.out _ (hA.out.gr ((Gr.refl W2).drew))) (fun hHeld=>?_);clear hK K;try simp only[xap]
 refine xz 7 rfl (h:=?_);try simp only[xap]
 refine xdn ?_ _;clear hHeld rr ri;replace hA:=ζ (hA.out.gr ((Gr.refl W2).drew));replace hkp:=ζ (hkp.out.trans (Kp.ofGr ((Gr.refl W2).drew)) (fun _ q=>.inl q));replace hx:=ζ hxd;clear hxd;generalize W2.drew=V0 at*;have k0:V0.cell? ⟨kb,0,none⟩=some (.int .u8 21):=hA.out.2.1 0;have hq2:(x.r ia==x.r ib)=false:=by simpa using hq
 have c5:V0.cell? ⟨a,5,none⟩=some (.int .i64 x.p):=hx.out.at_ 5 (by omega);have f5:=hx.out.fr 5;have hlt:=hx.out.lt;have hw5:wrap64 ((x.p:Int)+1)=(x.p:Int)+1:=by unfold wrap64;omega
 go_upto_region 5 with fail;clear c5 f5 hlt hw5;replace hx:=ζ (show DBx (V0.setCell ⟨a,5,none⟩ (.int .i64 ((x.p:Int)+1))) a x.next from hx.out.p_ (x.p+1));replace hA:=ζ (show At (V0.setCell ⟨a,5,none⟩ (.int .i64 ((x.p:Int)+1))) kb #[.int .u8 21,.int .i64 ia,.int .i64 ib,.int .i64 ic,.int .u64 imm]from T.at_kp hA.out (kp_set1 (Kp.refl (fun k=>k=a) V0) 5 _) hne);replace hkp:=ζ (show Kp (fun k=>k=a) w (V0.setCell ⟨a,5,none⟩ (.int .i64 ((x.p:Int)+1)))from hkp.out.trans (kp_set1 (Kp.refl _ V0) 5 _) (fun _ q=>.inl q));generalize V0.setCell ⟨a,5,none⟩ (.int .i64 ((x.p:Int)+1))=V at*;have hfin:Hz (DB1 a x.next w V):=ζ ⟨hx.out,hkp.out⟩;go_wp2_with fail
 first|go_end0|((try simp only[Exit.inBlock,Exit.then]);refine xre ?_)
 exact⟨rfl,hfin.out⟩
theorem djmp22y (a:Nat)(x:Dx)(ia ib ic:Nat)(imm:Int)(w:World)(h:DBx w a x)(ha:ia<16)(hb:ib<16)(hp:x.p≤1000000)(hq:x.r ia≠x.r ib)(tg:Nat)(ht:imm=(tg:Int))(ht2:tg≤1000000):
 Calls Tryz.prog 55 #[.pointer (some ⟨a,0,none⟩),.agg #[.int .u8 22,.int .i64 ia,.int .i64 ib,.int .i64 ic,.int .u64 imm]] w fun r w'=>r=.returned (.tuple #[])∧DB1 a ({x with p:=tg}) w w':=by
 replace ht:=ζ ht;have hne:¬w.heap.size=a:=by have:=h.lt;omega
 have hx:=ζ h;clear h;go_enter Tryz.func55,Tryz.ntmps55;go_upto_region 1 with fail
 refine wp_world (fun W=>At W w.heap.size #[.int .u8 22,.int .i64 ia,.int .i64 ib,.int .i64 ic,.int .u64 imm]∧Gr w W) ⟨At.new w _ _,(Gr.refl _).alloc _⟩ ?_;rintro W ⟨hA,G⟩;generalize w.heap.size=kb at*;replace hA:=ζ hA;replace hx:=ζ (hx.out.gr G);have hkp:Hz (Kp (fun k=>k=a) w W):=ζ (Kp.ofGr G);clear G;have KS:=xk2 22 ia ib ic imm kb;have hxd:=hx.out.gr ((Gr.refl W).drew);have rr:W.drew.cell? ⟨a,6+ia,none⟩=some (.int .u64 (x.r ia)):=(hxd.at_ (6+ia) (by omega)).trans (congrArg some (Dx.reg x ia ha));have ri:(ia:Int)<16:=by omega
 refine wp_region_held_drew (S:=(fun W=>W.cell? ⟨kb,0,none⟩=some (.int .u8 22)∧W.cell? ⟨kb,1,none⟩=some (.int .i64 ia)∧W.cell? ⟨kb,2,none⟩=some (.int .i64 ib)∧W.cell? ⟨kb,3,none⟩=some (.int .i64 ic)∧W.cell? ⟨kb,4,none⟩=some (.int .u64 imm))) (by kernel_rfl) (KS.out _ (hA.out.gr ((Gr.refl W).drew))) (fun hHeld=>?_);refine xz 0 rfl (h:=xz 1 rfl (h:=xz 2 rfl (h:=xz 3 rfl (h:=xz 4 rfl (h:=xz 5 rfl (h:=?_))))));try simp only[xap]
 refine xrd 6 rfl (fun K hK=>?_);go_simp;refine hK.out _ _ (KS.out _ (hA.out.gr ((Gr.refl W).drew))) (fun hHeld=>?_);clear hK K;try simp only[xap]
 refine xz 7 rfl (h:=?_);try simp only[xap]
 refine xdn ?_ _;clear hHeld rr ri;replace hA:=ζ (hA.out.gr ((Gr.refl W).drew));replace hkp:=ζ (hkp.out.trans (Kp.ofGr ((Gr.refl W).drew)) (fun _ q=>.inl q));replace hx:=ζ hxd;clear hxd;generalize W.drew=W2 at*;go_upto_region 2 with fail
 have hxd:=hx.out.gr ((Gr.refl W2).drew);have rr:W2.drew.cell? ⟨a,6+ib,none⟩=some (.int .u64 (x.r ib)):=(hxd.at_ (6+ib) (by omega)).trans (congrArg some (Dx.reg x ib hb));have ri:(ib:Int)<16:=by omega
 refine wp_region_held_drew (S:=(fun W=>W.cell? ⟨kb,0,none⟩=some (.int .u8 22)∧W.cell? ⟨kb,1,none⟩=some (.int .i64 ia)∧W.cell? ⟨kb,2,none⟩=some (.int .i64 ib)∧W.cell? ⟨kb,3,none⟩=some (.int .i64 ic)∧W.cell? ⟨kb,4,none⟩=some (.int .u64 imm))) (by kernel_rfl) (KS.out _ (hA.out.gr ((Gr.refl W2).drew))) (fun hHeld=>?_);refine xz 0 rfl (h:=xz 1 rfl (h:=xz 2 rfl (h:=xz 3 rfl (h:=xz 4 rfl (h:=xz 5 rfl (h:=?_))))));try simp only[xap]
 refine xrd 6 rfl (fun K hK=>?_);go_simp;refine hK.out _ _ (KS.out _ (hA.out.gr ((Gr.refl W2).drew))) (fun hHeld=>?_);clear hK K;try simp only[xap]
 refine xz 7 rfl (h:=?_);try simp only[xap]
 refine xdn ?_ _;clear hHeld rr ri;replace hA:=ζ (hA.out.gr ((Gr.refl W2).drew));replace hkp:=ζ (hkp.out.trans (Kp.ofGr ((Gr.refl W2).drew)) (fun _ q=>.inl q));replace hx:=ζ hxd;clear hxd;generalize W2.drew=V0 at*;have k0:V0.cell? ⟨kb,0,none⟩=some (.int .u8 22):=hA.out.2.1 0;have hq2:(x.r ia != x.r ib)=true:=by simpa using hq
 have c5:V0.cell? ⟨a,5,none⟩=some (.int .i64 x.p):=hx.out.at_ 5 (by omega);have f5:=hx.out.fr 5;have hlt:=hx.out.lt;have hw5:wrap64 ((x.p:Int)+1)=(x.p:Int)+1:=by unfold wrap64;omega
 go_upto_region 5 with fail;clear c5 f5 hlt hw5;replace hx:=ζ (show DBx (V0.setCell ⟨a,5,none⟩ (.int .i64 ((x.p:Int)+1))) a x.next from hx.out.p_ (x.p+1));replace hA:=ζ (show At (V0.setCell ⟨a,5,none⟩ (.int .i64 ((x.p:Int)+1))) kb #[.int .u8 22,.int .i64 ia,.int .i64 ib,.int .i64 ic,.int .u64 imm]from T.at_kp hA.out (kp_set1 (Kp.refl (fun k=>k=a) V0) 5 _) hne);replace hkp:=ζ (show Kp (fun k=>k=a) w (V0.setCell ⟨a,5,none⟩ (.int .i64 ((x.p:Int)+1)))from hkp.out.trans (kp_set1 (Kp.refl _ V0) 5 _) (fun _ q=>.inl q));generalize V0.setCell ⟨a,5,none⟩ (.int .i64 ((x.p:Int)+1))=V at*;have k4:V.cell? ⟨kb,4,none⟩=some (.int .u64 imm):=hA.out.2.1 4;have hcv:IntKind.i64.wrap imm=(tg:Int):=by rw[IntKind.wrap_i64];have:=ht.out;omega
 have c5:V.cell? ⟨a,5,none⟩=some (.int .i64 ((x.p:Int)+1)):=hx.out.at_ 5 (by omega);have f5:=hx.out.fr 5;have hlt:=hx.out.lt;have hfin:Hz (DB1 a {x with p:=tg} w (V.setCell ⟨a,5,none⟩ (.int .i64 tg))):=ζ ⟨hx.out.p_ tg,hkp.out.trans (kp_set1 (Kp.refl _ V) 5 _) (fun _ q=>.inl q)⟩;go_wp2_with fail
 first|go_end0|((try simp only[Exit.inBlock,Exit.then]);refine xre ?_)
 exact⟨rfl,hfin.out⟩
theorem djmp22n (a:Nat)(x:Dx)(ia ib ic:Nat)(imm:Int)(w:World)(h:DBx w a x)(ha:ia<16)(hb:ib<16)(hp:x.p≤1000000)(hq:¬x.r ia≠x.r ib):
 Calls Tryz.prog 55 #[.pointer (some ⟨a,0,none⟩),.agg #[.int .u8 22,.int .i64 ia,.int .i64 ib,.int .i64 ic,.int .u64 imm]] w fun r w'=>r=.returned (.tuple #[])∧DB1 a (x.next) w w':=by
 have hne:¬w.heap.size=a:=by have:=h.lt;omega
 have hx:=ζ h;clear h;go_enter Tryz.func55,Tryz.ntmps55;go_upto_region 1 with fail
 refine wp_world (fun W=>At W w.heap.size #[.int .u8 22,.int .i64 ia,.int .i64 ib,.int .i64 ic,.int .u64 imm]∧Gr w W) ⟨At.new w _ _,(Gr.refl _).alloc _⟩ ?_;rintro W ⟨hA,G⟩;generalize w.heap.size=kb at*;replace hA:=ζ hA;replace hx:=ζ (hx.out.gr G);have hkp:Hz (Kp (fun k=>k=a) w W):=ζ (Kp.ofGr G);clear G;have KS:=xk2 22 ia ib ic imm kb;have hxd:=hx.out.gr ((Gr.refl W).drew);have rr:W.drew.cell? ⟨a,6+ia,none⟩=some (.int .u64 (x.r ia)):=(hxd.at_ (6+ia) (by omega)).trans (congrArg some (Dx.reg x ia ha));have ri:(ia:Int)<16:=by omega
 refine wp_region_held_drew (S:=(fun W=>W.cell? ⟨kb,0,none⟩=some (.int .u8 22)∧W.cell? ⟨kb,1,none⟩=some (.int .i64 ia)∧W.cell? ⟨kb,2,none⟩=some (.int .i64 ib)∧W.cell? ⟨kb,3,none⟩=some (.int .i64 ic)∧W.cell? ⟨kb,4,none⟩=some (.int .u64 imm))) (by kernel_rfl) (KS.out _ (hA.out.gr ((Gr.refl W).drew))) (fun hHeld=>?_);refine xz 0 rfl (h:=xz 1 rfl (h:=xz 2 rfl (h:=xz 3 rfl (h:=xz 4 rfl (h:=xz 5 rfl (h:=?_))))));try simp only[xap]
 refine xrd 6 rfl (fun K hK=>?_);go_simp;refine hK.out _ _ (KS.out _ (hA.out.gr ((Gr.refl W).drew))) (fun hHeld=>?_);clear hK K;try simp only[xap]
 refine xz 7 rfl (h:=?_);try simp only[xap]
 refine xdn ?_ _;clear hHeld rr ri;replace hA:=ζ (hA.out.gr ((Gr.refl W).drew));replace hkp:=ζ (hkp.out.trans (Kp.ofGr ((Gr.refl W).drew)) (fun _ q=>.inl q));replace hx:=ζ hxd;clear hxd;generalize W.drew=W2 at*;go_upto_region 2 with fail
 have hxd:=hx.out.gr ((Gr.refl W2).drew);have rr:W2.drew.cell? ⟨a,6+ib,none⟩=some (.int .u64 (x.r ib)):=(hxd.at_ (6+ib) (by omega)).trans (congrArg some (Dx.reg x ib hb));have ri:(ib:Int)<16:=by omega
 refine wp_region_held_drew (S:=(fun W=>W.cell? ⟨kb,0,none⟩=some (.int .u8 22)∧W.cell? ⟨kb,1,none⟩=some (.int .i64 ia)∧W.cell? ⟨kb,2,none⟩=some (.int .i64 ib)∧W.cell? ⟨kb,3,none⟩=some (.int .i64 ic)∧W.cell? ⟨kb,4,none⟩=some (.int .u64 imm))) (by kernel_rfl) (KS.out _ (hA.out.gr ((Gr.refl W2).drew))) (fun hHeld=>?_);refine xz 0 rfl (h:=xz 1 rfl (h:=xz 2 rfl (h:=xz 3 rfl (h:=xz 4 rfl (h:=xz 5 rfl (h:=?_))))));try simp only[xap]
 refine xrd 6 rfl (fun K hK=>?_);go_simp;refine hK.out _ _ (KS.out _ (hA.out.gr ((Gr.refl W2).drew))) (fun hHeld=>?_);clear hK K;try simp only[xap]
 refine xz 7 rfl (h:=?_);try simp only[xap]
 refine xdn ?_ _;clear hHeld rr ri;replace hA:=ζ (hA.out.gr ((Gr.refl W2).drew));replace hkp:=ζ (hkp.out.trans (Kp.ofGr ((Gr.refl W2).drew)) (fun _ q=>.inl q));replace hx:=ζ hxd;clear hxd;generalize W2.drew=V0 at*;have k0:V0.cell? ⟨kb,0,none⟩=some (.int .u8 22):=hA.out.2.1 0;have hq2:(x.r ia != x.r ib)=false:=by simpa using hq
 have c5:V0.cell? ⟨a,5,none⟩=some (.int .i64 x.p):=hx.out.at_ 5 (by omega);have f5:=hx.out.fr 5;have hlt:=hx.out.lt;have hw5:wrap64 ((x.p:Int)+1)=(x.p:Int)+1:=by unfold wrap64;omega
 go_upto_region 5 with fail;clear c5 f5 hlt hw5;replace hx:=ζ (show DBx (V0.setCell ⟨a,5,none⟩ (.int .i64 ((x.p:Int)+1))) a x.next from hx.out.p_ (x.p+1));replace hA:=ζ (show At (V0.setCell ⟨a,5,none⟩ (.int .i64 ((x.p:Int)+1))) kb #[.int .u8 22,.int .i64 ia,.int .i64 ib,.int .i64 ic,.int .u64 imm]from T.at_kp hA.out (kp_set1 (Kp.refl (fun k=>k=a) V0) 5 _) hne);replace hkp:=ζ (show Kp (fun k=>k=a) w (V0.setCell ⟨a,5,none⟩ (.int .i64 ((x.p:Int)+1)))from hkp.out.trans (kp_set1 (Kp.refl _ V0) 5 _) (fun _ q=>.inl q));generalize V0.setCell ⟨a,5,none⟩ (.int .i64 ((x.p:Int)+1))=V at*;have hfin:Hz (DB1 a x.next w V):=ζ ⟨hx.out,hkp.out⟩;go_wp2_with fail
 first|go_end0|((try simp only[Exit.inBlock,Exit.then]);refine xre ?_)
 exact⟨rfl,hfin.out⟩
theorem djmp23y (a:Nat)(x:Dx)(ia ib ic:Nat)(imm:Int)(w:World)(h:DBx w a x)(ha:ia<16)(hb:ib<16)(hp:x.p≤1000000)(hq:x.r ia<x.r ib)(tg:Nat)(ht:imm=(tg:Int))(ht2:tg≤1000000):
 Calls Tryz.prog 55 #[.pointer (some ⟨a,0,none⟩),.agg #[.int .u8 23,.int .i64 ia,.int .i64 ib,.int .i64 ic,.int .u64 imm]] w fun r w'=>r=.returned (.tuple #[])∧DB1 a ({x with p:=tg}) w w':=by
 replace ht:=ζ ht;have hne:¬w.heap.size=a:=by have:=h.lt;omega
 have hx:=ζ h;clear h;go_enter Tryz.func55,Tryz.ntmps55;go_upto_region 1 with fail
 refine wp_world (fun W=>At W w.heap.size #[.int .u8 23,.int .i64 ia,.int .i64 ib,.int .i64 ic,.int .u64 imm]∧Gr w W) ⟨At.new w _ _,(Gr.refl _).alloc _⟩ ?_;rintro W ⟨hA,G⟩;generalize w.heap.size=kb at*;replace hA:=ζ hA;replace hx:=ζ (hx.out.gr G);have hkp:Hz (Kp (fun k=>k=a) w W):=ζ (Kp.ofGr G);clear G;have KS:=xk2 23 ia ib ic imm kb;have hxd:=hx.out.gr ((Gr.refl W).drew);have rr:W.drew.cell? ⟨a,6+ia,none⟩=some (.int .u64 (x.r ia)):=(hxd.at_ (6+ia) (by omega)).trans (congrArg some (Dx.reg x ia ha));have ri:(ia:Int)<16:=by omega
 refine wp_region_held_drew (S:=(fun W=>W.cell? ⟨kb,0,none⟩=some (.int .u8 23)∧W.cell? ⟨kb,1,none⟩=some (.int .i64 ia)∧W.cell? ⟨kb,2,none⟩=some (.int .i64 ib)∧W.cell? ⟨kb,3,none⟩=some (.int .i64 ic)∧W.cell? ⟨kb,4,none⟩=some (.int .u64 imm))) (by kernel_rfl) (KS.out _ (hA.out.gr ((Gr.refl W).drew))) (fun hHeld=>?_);refine xz 0 rfl (h:=xz 1 rfl (h:=xz 2 rfl (h:=xz 3 rfl (h:=xz 4 rfl (h:=xz 5 rfl (h:=?_))))));try simp only[xap]
 refine xrd 6 rfl (fun K hK=>?_);go_simp;refine hK.out _ _ (KS.out _ (hA.out.gr ((Gr.refl W).drew))) (fun hHeld=>?_);clear hK K;try simp only[xap]
 refine xz 7 rfl (h:=?_);try simp only[xap]
 refine xdn ?_ _;clear hHeld rr ri;replace hA:=ζ (hA.out.gr ((Gr.refl W).drew));replace hkp:=ζ (hkp.out.trans (Kp.ofGr ((Gr.refl W).drew)) (fun _ q=>.inl q));replace hx:=ζ hxd;clear hxd;generalize W.drew=W2 at*;go_upto_region 2 with fail
 have hxd:=hx.out.gr ((Gr.refl W2).drew);have rr:W2.drew.cell? ⟨a,6+ib,none⟩=some (.int .u64 (x.r ib)):=(hxd.at_ (6+ib) (by omega)).trans (congrArg some (Dx.reg x ib hb));have ri:(ib:Int)<16:=by omega
 refine wp_region_held_drew (S:=(fun W=>W.cell? ⟨kb,0,none⟩=some (.int .u8 23)∧W.cell? ⟨kb,1,none⟩=some (.int .i64 ia)∧W.cell? ⟨kb,2,none⟩=some (.int .i64 ib)∧W.cell? ⟨kb,3,none⟩=some (.int .i64 ic)∧W.cell? ⟨kb,4,none⟩=some (.int .u64 imm))) (by kernel_rfl) (KS.out _ (hA.out.gr ((Gr.refl W2).drew))) (fun hHeld=>?_);refine xz 0 rfl (h:=xz 1 rfl (h:=xz 2 rfl (h:=xz 3 rfl (h:=xz 4 rfl (h:=xz 5 rfl (h:=?_))))));try simp only[xap]
 refine xrd 6 rfl (fun K hK=>?_);go_simp;refine hK.out _ _ (KS.out _ (hA.out.gr ((Gr.refl W2).drew))) (fun hHeld=>?_);clear hK K;try simp only[xap]
 refine xz 7 rfl (h:=?_);try simp only[xap]
 refine xdn ?_ _;clear hHeld rr ri;replace hA:=ζ (hA.out.gr ((Gr.refl W2).drew));replace hkp:=ζ (hkp.out.trans (Kp.ofGr ((Gr.refl W2).drew)) (fun _ q=>.inl q));replace hx:=ζ hxd;clear hxd;generalize W2.drew=V0 at*;have k0:V0.cell? ⟨kb,0,none⟩=some (.int .u8 23):=hA.out.2.1 0;have hq2:decide (x.r ia<x.r ib)=true:=by exact decide_eq_true hq
 have c5:V0.cell? ⟨a,5,none⟩=some (.int .i64 x.p):=hx.out.at_ 5 (by omega);have f5:=hx.out.fr 5;have hlt:=hx.out.lt;have hw5:wrap64 ((x.p:Int)+1)=(x.p:Int)+1:=by unfold wrap64;omega
 go_upto_region 5 with fail;clear c5 f5 hlt hw5;replace hx:=ζ (show DBx (V0.setCell ⟨a,5,none⟩ (.int .i64 ((x.p:Int)+1))) a x.next from hx.out.p_ (x.p+1));replace hA:=ζ (show At (V0.setCell ⟨a,5,none⟩ (.int .i64 ((x.p:Int)+1))) kb #[.int .u8 23,.int .i64 ia,.int .i64 ib,.int .i64 ic,.int .u64 imm]from T.at_kp hA.out (kp_set1 (Kp.refl (fun k=>k=a) V0) 5 _) hne);replace hkp:=ζ (show Kp (fun k=>k=a) w (V0.setCell ⟨a,5,none⟩ (.int .i64 ((x.p:Int)+1)))from hkp.out.trans (kp_set1 (Kp.refl _ V0) 5 _) (fun _ q=>.inl q));generalize V0.setCell ⟨a,5,none⟩ (.int .i64 ((x.p:Int)+1))=V at*;have k4:V.cell? ⟨kb,4,none⟩=some (.int .u64 imm):=hA.out.2.1 4;have hcv:IntKind.i64.wrap imm=(tg:Int):=by rw[IntKind.wrap_i64];have:=ht.out;omega
 have c5:V.cell? ⟨a,5,none⟩=some (.int .i64 ((x.p:Int)+1)):=hx.out.at_ 5 (by omega);have f5:=hx.out.fr 5;have hlt:=hx.out.lt;have hfin:Hz (DB1 a {x with p:=tg} w (V.setCell ⟨a,5,none⟩ (.int .i64 tg))):=ζ ⟨hx.out.p_ tg,hkp.out.trans (kp_set1 (Kp.refl _ V) 5 _) (fun _ q=>.inl q)⟩;go_wp2_with fail
 first|go_end0|((try simp only[Exit.inBlock,Exit.then]);refine xre ?_)
 exact⟨rfl,hfin.out⟩
theorem djmp23n (a:Nat)(x:Dx)(ia ib ic:Nat)(imm:Int)(w:World)(h:DBx w a x)(ha:ia<16)(hb:ib<16)(hp:x.p≤1000000)(hq:¬x.r ia<x.r ib):
 Calls Tryz.prog 55 #[.pointer (some ⟨a,0,none⟩),.agg #[.int .u8 23,.int .i64 ia,.int .i64 ib,.int .i64 ic,.int .u64 imm]] w fun r w'=>r=.returned (.tuple #[])∧DB1 a (x.next) w w':=by
 have hne:¬w.heap.size=a:=by have:=h.lt;omega
 have hx:=ζ h;clear h;go_enter Tryz.func55,Tryz.ntmps55;go_upto_region 1 with fail
 refine wp_world (fun W=>At W w.heap.size #[.int .u8 23,.int .i64 ia,.int .i64 ib,.int .i64 ic,.int .u64 imm]∧Gr w W) ⟨At.new w _ _,(Gr.refl _).alloc _⟩ ?_;rintro W ⟨hA,G⟩;generalize w.heap.size=kb at*;replace hA:=ζ hA;replace hx:=ζ (hx.out.gr G);have hkp:Hz (Kp (fun k=>k=a) w W):=ζ (Kp.ofGr G);clear G;have KS:=xk2 23 ia ib ic imm kb;have hxd:=hx.out.gr ((Gr.refl W).drew);have rr:W.drew.cell? ⟨a,6+ia,none⟩=some (.int .u64 (x.r ia)):=(hxd.at_ (6+ia) (by omega)).trans (congrArg some (Dx.reg x ia ha));have ri:(ia:Int)<16:=by omega
 refine wp_region_held_drew (S:=(fun W=>W.cell? ⟨kb,0,none⟩=some (.int .u8 23)∧W.cell? ⟨kb,1,none⟩=some (.int .i64 ia)∧W.cell? ⟨kb,2,none⟩=some (.int .i64 ib)∧W.cell? ⟨kb,3,none⟩=some (.int .i64 ic)∧W.cell? ⟨kb,4,none⟩=some (.int .u64 imm))) (by kernel_rfl) (KS.out _ (hA.out.gr ((Gr.refl W).drew))) (fun hHeld=>?_);refine xz 0 rfl (h:=xz 1 rfl (h:=xz 2 rfl (h:=xz 3 rfl (h:=xz 4 rfl (h:=xz 5 rfl (h:=?_))))));try simp only[xap]
 refine xrd 6 rfl (fun K hK=>?_);go_simp;refine hK.out _ _ (KS.out _ (hA.out.gr ((Gr.refl W).drew))) (fun hHeld=>?_);clear hK K;try simp only[xap]
 refine xz 7 rfl (h:=?_);try simp only[xap]
 refine xdn ?_ _;clear hHeld rr ri;replace hA:=ζ (hA.out.gr ((Gr.refl W).drew));replace hkp:=ζ (hkp.out.trans (Kp.ofGr ((Gr.refl W).drew)) (fun _ q=>.inl q));replace hx:=ζ hxd;clear hxd;generalize W.drew=W2 at*;go_upto_region 2 with fail
 have hxd:=hx.out.gr ((Gr.refl W2).drew);have rr:W2.drew.cell? ⟨a,6+ib,none⟩=some (.int .u64 (x.r ib)):=(hxd.at_ (6+ib) (by omega)).trans (congrArg some (Dx.reg x ib hb));have ri:(ib:Int)<16:=by omega
 refine wp_region_held_drew (S:=(fun W=>W.cell? ⟨kb,0,none⟩=some (.int .u8 23)∧W.cell? ⟨kb,1,none⟩=some (.int .i64 ia)∧W.cell? ⟨kb,2,none⟩=some (.int .i64 ib)∧W.cell? ⟨kb,3,none⟩=some (.int .i64 ic)∧W.cell? ⟨kb,4,none⟩=some (.int .u64 imm))) (by kernel_rfl) (KS.out _ (hA.out.gr ((Gr.refl W2).drew))) (fun hHeld=>?_);refine xz 0 rfl (h:=xz 1 rfl (h:=xz 2 rfl (h:=xz 3 rfl (h:=xz 4 rfl (h:=xz 5 rfl (h:=?_))))));try simp only[xap]
 refine xrd 6 rfl (fun K hK=>?_);go_simp;refine hK.out _ _ (KS.out _ (hA.out.gr ((Gr.refl W2).drew))) (fun hHeld=>?_);clear hK K;try simp only[xap]
 refine xz 7 rfl (h:=?_);try simp only[xap]
 refine xdn ?_ _;clear hHeld rr ri;replace hA:=ζ (hA.out.gr ((Gr.refl W2).drew));replace hkp:=ζ (hkp.out.trans (Kp.ofGr ((Gr.refl W2).drew)) (fun _ q=>.inl q));replace hx:=ζ hxd;clear hxd;generalize W2.drew=V0 at*;have k0:V0.cell? ⟨kb,0,none⟩=some (.int .u8 23):=hA.out.2.1 0;have hq2:decide (x.r ia<x.r ib)=false:=by exact decide_eq_false hq
 have c5:V0.cell? ⟨a,5,none⟩=some (.int .i64 x.p):=hx.out.at_ 5 (by omega);have f5:=hx.out.fr 5;have hlt:=hx.out.lt;have hw5:wrap64 ((x.p:Int)+1)=(x.p:Int)+1:=by unfold wrap64;omega
 go_upto_region 5 with fail;clear c5 f5 hlt hw5;replace hx:=ζ (show DBx (V0.setCell ⟨a,5,none⟩ (.int .i64 ((x.p:Int)+1))) a x.next from hx.out.p_ (x.p+1));replace hA:=ζ (show At (V0.setCell ⟨a,5,none⟩ (.int .i64 ((x.p:Int)+1))) kb #[.int .u8 23,.int .i64 ia,.int .i64 ib,.int .i64 ic,.int .u64 imm]from T.at_kp hA.out (kp_set1 (Kp.refl (fun k=>k=a) V0) 5 _) hne);replace hkp:=ζ (show Kp (fun k=>k=a) w (V0.setCell ⟨a,5,none⟩ (.int .i64 ((x.p:Int)+1)))from hkp.out.trans (kp_set1 (Kp.refl _ V0) 5 _) (fun _ q=>.inl q));generalize V0.setCell ⟨a,5,none⟩ (.int .i64 ((x.p:Int)+1))=V at*;have hfin:Hz (DB1 a x.next w V):=ζ ⟨hx.out,hkp.out⟩;go_wp2_with fail
 first|go_end0|((try simp only[Exit.inBlock,Exit.then]);refine xre ?_)
 exact⟨rfl,hfin.out⟩
theorem djmp24y (a:Nat)(x:Dx)(ia ib ic:Nat)(imm:Int)(w:World)(h:DBx w a x)(ha:ia<16)(hb:ib<16)(hp:x.p≤1000000)(hq:x.r ib≤x.r ia)(tg:Nat)(ht:imm=(tg:Int))(ht2:tg≤1000000):
 Calls Tryz.prog 55 #[.pointer (some ⟨a,0,none⟩),.agg #[.int .u8 24,.int .i64 ia,.int .i64 ib,.int .i64 ic,.int .u64 imm]] w fun r w'=>r=.returned (.tuple #[])∧DB1 a ({x with p:=tg}) w w':=by
 replace ht:=ζ ht;have hne:¬w.heap.size=a:=by have:=h.lt;omega
 have hx:=ζ h;clear h;go_enter Tryz.func55,Tryz.ntmps55;go_upto_region 1 with fail
 refine wp_world (fun W=>At W w.heap.size #[.int .u8 24,.int .i64 ia,.int .i64 ib,.int .i64 ic,.int .u64 imm]∧Gr w W) ⟨At.new w _ _,(Gr.refl _).alloc _⟩ ?_;rintro W ⟨hA,G⟩;generalize w.heap.size=kb at*;replace hA:=ζ hA;replace hx:=ζ (hx.out.gr G);have hkp:Hz (Kp (fun k=>k=a) w W):=ζ (Kp.ofGr G);clear G;have KS:=xk2 24 ia ib ic imm kb;have hxd:=hx.out.gr ((Gr.refl W).drew);have rr:W.drew.cell? ⟨a,6+ia,none⟩=some (.int .u64 (x.r ia)):=(hxd.at_ (6+ia) (by omega)).trans (congrArg some (Dx.reg x ia ha));have ri:(ia:Int)<16:=by omega
 refine wp_region_held_drew (S:=(fun W=>W.cell? ⟨kb,0,none⟩=some (.int .u8 24)∧W.cell? ⟨kb,1,none⟩=some (.int .i64 ia)∧W.cell? ⟨kb,2,none⟩=some (.int .i64 ib)∧W.cell? ⟨kb,3,none⟩=some (.int .i64 ic)∧W.cell? ⟨kb,4,none⟩=some (.int .u64 imm))) (by kernel_rfl) (KS.out _ (hA.out.gr ((Gr.refl W).drew))) (fun hHeld=>?_);refine xz 0 rfl (h:=xz 1 rfl (h:=xz 2 rfl (h:=xz 3 rfl (h:=xz 4 rfl (h:=xz 5 rfl (h:=?_))))));try simp only[xap]
 refine xrd 6 rfl (fun K hK=>?_);go_simp;refine hK.out _ _ (KS.out _ (hA.out.gr ((Gr.refl W).drew))) (fun hHeld=>?_);clear hK K;try simp only[xap]
 refine xz 7 rfl (h:=?_);try simp only[xap]
 refine xdn ?_ _;clear hHeld rr ri;replace hA:=ζ (hA.out.gr ((Gr.refl W).drew));replace hkp:=ζ (hkp.out.trans (Kp.ofGr ((Gr.refl W).drew)) (fun _ q=>.inl q));replace hx:=ζ hxd;clear hxd;generalize W.drew=W2 at*;go_upto_region 2 with fail
 have hxd:=hx.out.gr ((Gr.refl W2).drew);have rr:W2.drew.cell? ⟨a,6+ib,none⟩=some (.int .u64 (x.r ib)):=(hxd.at_ (6+ib) (by omega)).trans (congrArg some (Dx.reg x ib hb));have ri:(ib:Int)<16:=by omega
 refine wp_region_held_drew (S:=(fun W=>W.cell? ⟨kb,0,none⟩=some (.int .u8 24)∧W.cell? ⟨kb,1,none⟩=some (.int .i64 ia)∧W.cell? ⟨kb,2,none⟩=some (.int .i64 ib)∧W.cell? ⟨kb,3,none⟩=some (.int .i64 ic)∧W.cell? ⟨kb,4,none⟩=some (.int .u64 imm))) (by kernel_rfl) (KS.out _ (hA.out.gr ((Gr.refl W2).drew))) (fun hHeld=>?_);refine xz 0 rfl (h:=xz 1 rfl (h:=xz 2 rfl (h:=xz 3 rfl (h:=xz 4 rfl (h:=xz 5 rfl (h:=?_))))));try simp only[xap]
 refine xrd 6 rfl (fun K hK=>?_);go_simp;refine hK.out _ _ (KS.out _ (hA.out.gr ((Gr.refl W2).drew))) (fun hHeld=>?_);clear hK K;try simp only[xap]
 refine xz 7 rfl (h:=?_);try simp only[xap]
 refine xdn ?_ _;clear hHeld rr ri;replace hA:=ζ (hA.out.gr ((Gr.refl W2).drew));replace hkp:=ζ (hkp.out.trans (Kp.ofGr ((Gr.refl W2).drew)) (fun _ q=>.inl q));replace hx:=ζ hxd;clear hxd;generalize W2.drew=V0 at*;have k0:V0.cell? ⟨kb,0,none⟩=some (.int .u8 24):=hA.out.2.1 0;have hq2:decide (x.r ib≤x.r ia)=true:=by exact decide_eq_true hq
 have hq3:(x.r ia≥x.r ib):=hq;have c5:V0.cell? ⟨a,5,none⟩=some (.int .i64 x.p):=hx.out.at_ 5 (by omega);have f5:=hx.out.fr 5;have hlt:=hx.out.lt;have hw5:wrap64 ((x.p:Int)+1)=(x.p:Int)+1:=by unfold wrap64;omega
 go_upto_region 5 with fail;clear c5 f5 hlt hw5;replace hx:=ζ (show DBx (V0.setCell ⟨a,5,none⟩ (.int .i64 ((x.p:Int)+1))) a x.next from hx.out.p_ (x.p+1));replace hA:=ζ (show At (V0.setCell ⟨a,5,none⟩ (.int .i64 ((x.p:Int)+1))) kb #[.int .u8 24,.int .i64 ia,.int .i64 ib,.int .i64 ic,.int .u64 imm]from T.at_kp hA.out (kp_set1 (Kp.refl (fun k=>k=a) V0) 5 _) hne);replace hkp:=ζ (show Kp (fun k=>k=a) w (V0.setCell ⟨a,5,none⟩ (.int .i64 ((x.p:Int)+1)))from hkp.out.trans (kp_set1 (Kp.refl _ V0) 5 _) (fun _ q=>.inl q));generalize V0.setCell ⟨a,5,none⟩ (.int .i64 ((x.p:Int)+1))=V at*;have k4:V.cell? ⟨kb,4,none⟩=some (.int .u64 imm):=hA.out.2.1 4;have hcv:IntKind.i64.wrap imm=(tg:Int):=by rw[IntKind.wrap_i64];have:=ht.out;omega
 have c5:V.cell? ⟨a,5,none⟩=some (.int .i64 ((x.p:Int)+1)):=hx.out.at_ 5 (by omega);have f5:=hx.out.fr 5;have hlt:=hx.out.lt;have hfin:Hz (DB1 a {x with p:=tg} w (V.setCell ⟨a,5,none⟩ (.int .i64 tg))):=ζ ⟨hx.out.p_ tg,hkp.out.trans (kp_set1 (Kp.refl _ V) 5 _) (fun _ q=>.inl q)⟩;go_wp2_with fail
 first|go_end0|((try simp only[Exit.inBlock,Exit.then]);refine xre ?_)
 exact⟨rfl,hfin.out⟩
theorem djmp24n (a:Nat)(x:Dx)(ia ib ic:Nat)(imm:Int)(w:World)(h:DBx w a x)(ha:ia<16)(hb:ib<16)(hp:x.p≤1000000)(hq:¬x.r ib≤x.r ia):
 Calls Tryz.prog 55 #[.pointer (some ⟨a,0,none⟩),.agg #[.int .u8 24,.int .i64 ia,.int .i64 ib,.int .i64 ic,.int .u64 imm]] w fun r w'=>r=.returned (.tuple #[])∧DB1 a (x.next) w w':=by
 have hne:¬w.heap.size=a:=by have:=h.lt;omega
 have hx:=ζ h;clear h;go_enter Tryz.func55,Tryz.ntmps55;go_upto_region 1 with fail
 refine wp_world (fun W=>At W w.heap.size #[.int .u8 24,.int .i64 ia,.int .i64 ib,.int .i64 ic,.int .u64 imm]∧Gr w W) ⟨At.new w _ _,(Gr.refl _).alloc _⟩ ?_;rintro W ⟨hA,G⟩;generalize w.heap.size=kb at*;replace hA:=ζ hA;replace hx:=ζ (hx.out.gr G);have hkp:Hz (Kp (fun k=>k=a) w W):=ζ (Kp.ofGr G);clear G;have KS:=xk2 24 ia ib ic imm kb;have hxd:=hx.out.gr ((Gr.refl W).drew);have rr:W.drew.cell? ⟨a,6+ia,none⟩=some (.int .u64 (x.r ia)):=(hxd.at_ (6+ia) (by omega)).trans (congrArg some (Dx.reg x ia ha));have ri:(ia:Int)<16:=by omega
 refine wp_region_held_drew (S:=(fun W=>W.cell? ⟨kb,0,none⟩=some (.int .u8 24)∧W.cell? ⟨kb,1,none⟩=some (.int .i64 ia)∧W.cell? ⟨kb,2,none⟩=some (.int .i64 ib)∧W.cell? ⟨kb,3,none⟩=some (.int .i64 ic)∧W.cell? ⟨kb,4,none⟩=some (.int .u64 imm))) (by kernel_rfl) (KS.out _ (hA.out.gr ((Gr.refl W).drew))) (fun hHeld=>?_);refine xz 0 rfl (h:=xz 1 rfl (h:=xz 2 rfl (h:=xz 3 rfl (h:=xz 4 rfl (h:=xz 5 rfl (h:=?_))))));try simp only[xap]
 refine xrd 6 rfl (fun K hK=>?_);go_simp;refine hK.out _ _ (KS.out _ (hA.out.gr ((Gr.refl W).drew))) (fun hHeld=>?_);clear hK K;try simp only[xap]
 refine xz 7 rfl (h:=?_);try simp only[xap]
 refine xdn ?_ _;clear hHeld rr ri;replace hA:=ζ (hA.out.gr ((Gr.refl W).drew));replace hkp:=ζ (hkp.out.trans (Kp.ofGr ((Gr.refl W).drew)) (fun _ q=>.inl q));replace hx:=ζ hxd;clear hxd;generalize W.drew=W2 at*;go_upto_region 2 with fail
 have hxd:=hx.out.gr ((Gr.refl W2).drew);have rr:W2.drew.cell? ⟨a,6+ib,none⟩=some (.int .u64 (x.r ib)):=(hxd.at_ (6+ib) (by omega)).trans (congrArg some (Dx.reg x ib hb));have ri:(ib:Int)<16:=by omega
 refine wp_region_held_drew (S:=(fun W=>W.cell? ⟨kb,0,none⟩=some (.int .u8 24)∧W.cell? ⟨kb,1,none⟩=some (.int .i64 ia)∧W.cell? ⟨kb,2,none⟩=some (.int .i64 ib)∧W.cell? ⟨kb,3,none⟩=some (.int .i64 ic)∧W.cell? ⟨kb,4,none⟩=some (.int .u64 imm))) (by kernel_rfl) (KS.out _ (hA.out.gr ((Gr.refl W2).drew))) (fun hHeld=>?_);refine xz 0 rfl (h:=xz 1 rfl (h:=xz 2 rfl (h:=xz 3 rfl (h:=xz 4 rfl (h:=xz 5 rfl (h:=?_))))));try simp only[xap]
 refine xrd 6 rfl (fun K hK=>?_);go_simp;refine hK.out _ _ (KS.out _ (hA.out.gr ((Gr.refl W2).drew))) (fun hHeld=>?_);clear hK K;try simp only[xap]
 refine xz 7 rfl (h:=?_);try simp only[xap]
 refine xdn ?_ _;clear hHeld rr ri;replace hA:=ζ (hA.out.gr ((Gr.refl W2).drew));replace hkp:=ζ (hkp.out.trans (Kp.ofGr ((Gr.refl W2).drew)) (fun _ q=>.inl q));replace hx:=ζ hxd;clear hxd;generalize W2.drew=V0 at*;have k0:V0.cell? ⟨kb,0,none⟩=some (.int .u8 24):=hA.out.2.1 0;have hq2:decide (x.r ib≤x.r ia)=false:=by exact decide_eq_false hq
 have hq3:¬(x.r ia≥x.r ib):=hq;have c5:V0.cell? ⟨a,5,none⟩=some (.int .i64 x.p):=hx.out.at_ 5 (by omega);have f5:=hx.out.fr 5;have hlt:=hx.out.lt;have hw5:wrap64 ((x.p:Int)+1)=(x.p:Int)+1:=by unfold wrap64;omega
 go_upto_region 5 with fail;clear c5 f5 hlt hw5;replace hx:=ζ (show DBx (V0.setCell ⟨a,5,none⟩ (.int .i64 ((x.p:Int)+1))) a x.next from hx.out.p_ (x.p+1));replace hA:=ζ (show At (V0.setCell ⟨a,5,none⟩ (.int .i64 ((x.p:Int)+1))) kb #[.int .u8 24,.int .i64 ia,.int .i64 ib,.int .i64 ic,.int .u64 imm]from T.at_kp hA.out (kp_set1 (Kp.refl (fun k=>k=a) V0) 5 _) hne);replace hkp:=ζ (show Kp (fun k=>k=a) w (V0.setCell ⟨a,5,none⟩ (.int .i64 ((x.p:Int)+1)))from hkp.out.trans (kp_set1 (Kp.refl _ V0) 5 _) (fun _ q=>.inl q));generalize V0.setCell ⟨a,5,none⟩ (.int .i64 ((x.p:Int)+1))=V at*;have hfin:Hz (DB1 a x.next w V):=ζ ⟨hx.out,hkp.out⟩;go_wp2_with fail
 first|go_end0|((try simp only[Exit.inBlock,Exit.then]);refine xre ?_)
 exact⟨rfl,hfin.out⟩
theorem dgrd70y (a:Nat)(x:Dx)(ia ib ic:Nat)(imm:Int)(w:World)(h:DBx w a x)(ha:ia<16)(hp:x.p≤1000000)(hq:x.r ia<imm):
 Calls Tryz.prog 58 #[.pointer (some ⟨a,0,none⟩),.agg #[.int .u8 70,.int .i64 ia,.int .i64 ib,.int .i64 ic,.int .u64 imm]] w fun r w'=>r=.returned (.tuple #[])∧DB1 a (x.next) w w':=by
 have hne:¬w.heap.size=a:=by have:=h.lt;omega
 have hx:=ζ h;clear h;go_enter Tryz.func58,Tryz.ntmps58;go_upto_region 1 with fail
 refine wp_world (fun W=>At W w.heap.size #[.int .u8 70,.int .i64 ia,.int .i64 ib,.int .i64 ic,.int .u64 imm]∧Gr w W) ⟨At.new w _ _,(Gr.refl _).alloc _⟩ ?_;rintro W ⟨hA,G⟩;generalize w.heap.size=kb at*;replace hA:=ζ hA;replace hx:=ζ (hx.out.gr G);have hkp:Hz (Kp (fun k=>k=a) w W):=ζ (Kp.ofGr G);clear G;have KS:=xk2 70 ia ib ic imm kb;have hxd:=hx.out.gr ((Gr.refl W).drew);have rr:W.drew.cell? ⟨a,6+ia,none⟩=some (.int .u64 (x.r ia)):=(hxd.at_ (6+ia) (by omega)).trans (congrArg some (Dx.reg x ia ha));have ri:(ia:Int)<16:=by omega
 refine wp_region_held_drew (S:=(fun W=>W.cell? ⟨kb,0,none⟩=some (.int .u8 70)∧W.cell? ⟨kb,1,none⟩=some (.int .i64 ia)∧W.cell? ⟨kb,2,none⟩=some (.int .i64 ib)∧W.cell? ⟨kb,3,none⟩=some (.int .i64 ic)∧W.cell? ⟨kb,4,none⟩=some (.int .u64 imm))) (by kernel_rfl) (KS.out _ (hA.out.gr ((Gr.refl W).drew))) (fun hHeld=>?_);refine xz 0 rfl (h:=xz 1 rfl (h:=xz 2 rfl (h:=xz 3 rfl (h:=xz 4 rfl (h:=xz 5 rfl (h:=?_))))));try simp only[xap]
 refine xrd 6 rfl (fun K hK=>?_);go_simp;refine hK.out _ _ (KS.out _ (hA.out.gr ((Gr.refl W).drew))) (fun hHeld=>?_);clear hK K;try simp only[xap]
 refine xz 7 rfl (h:=?_);try simp only[xap]
 refine xdn ?_ _;clear hHeld rr ri;replace hA:=ζ (hA.out.gr ((Gr.refl W).drew));replace hkp:=ζ (hkp.out.trans (Kp.ofGr ((Gr.refl W).drew)) (fun _ q=>.inl q));replace hx:=ζ hxd;clear hxd;generalize W.drew=V0 at*;have k0:V0.cell? ⟨kb,0,none⟩=some (.int .u8 70):=hA.out.2.1 0;have k4:V0.cell? ⟨kb,4,none⟩=some (.int .u64 imm):=hA.out.2.1 4;have hq2:decide (x.r ia<imm)=true:=decide_eq_true hq;go_upto_region 3 with fail
 clear k0 k4;have c5:V0.cell? ⟨a,5,none⟩=some (.int .i64 x.p):=hx.out.at_ 5 (by omega);have f5:=hx.out.fr 5;have hlt:=hx.out.lt;have hw5:wrap64 ((x.p:Int)+1)=(x.p:Int)+1:=by unfold wrap64;omega
 go_wp2_with fail;clear c5 f5 hlt hw5;replace hx:=ζ (show DBx (V0.setCell ⟨a,5,none⟩ (.int .i64 ((x.p:Int)+1))) a x.next from hx.out.p_ (x.p+1));replace hA:=ζ (show At (V0.setCell ⟨a,5,none⟩ (.int .i64 ((x.p:Int)+1))) kb #[.int .u8 70,.int .i64 ia,.int .i64 ib,.int .i64 ic,.int .u64 imm]from T.at_kp hA.out (kp_set1 (Kp.refl (fun k=>k=a) V0) 5 _) hne);replace hkp:=ζ (show Kp (fun k=>k=a) w (V0.setCell ⟨a,5,none⟩ (.int .i64 ((x.p:Int)+1)))from hkp.out.trans (kp_set1 (Kp.refl _ V0) 5 _) (fun _ q=>.inl q));generalize V0.setCell ⟨a,5,none⟩ (.int .i64 ((x.p:Int)+1))=V at*
 first|go_end0|((try simp only[Exit.inBlock,Exit.then]);refine xre ?_)
 exact⟨rfl,hx.out,hkp.out⟩
theorem dgrd70n (a:Nat)(x:Dx)(ia ib ic:Nat)(imm:Int)(w:World)(h:DBx w a x)(ha:ia<16)(hq:¬x.r ia<imm):
 Calls Tryz.prog 58 #[.pointer (some ⟨a,0,none⟩),.agg #[.int .u8 70,.int .i64 ia,.int .i64 ib,.int .i64 ic,.int .u64 imm]] w fun r w'=>r=.returned (.tuple #[])∧DB1 a (x.fin 2 (IntKind.u64.wrap ic) 0) w w':=by
 have hne:¬w.heap.size=a:=by have:=h.lt;omega
 have hx:=ζ h;clear h;go_enter Tryz.func58,Tryz.ntmps58;go_upto_region 1 with fail
 refine wp_world (fun W=>At W w.heap.size #[.int .u8 70,.int .i64 ia,.int .i64 ib,.int .i64 ic,.int .u64 imm]∧Gr w W) ⟨At.new w _ _,(Gr.refl _).alloc _⟩ ?_;rintro W ⟨hA,G⟩;generalize w.heap.size=kb at*;replace hA:=ζ hA;replace hx:=ζ (hx.out.gr G);have hkp:Hz (Kp (fun k=>k=a) w W):=ζ (Kp.ofGr G);clear G;have KS:=xk2 70 ia ib ic imm kb;have hxd:=hx.out.gr ((Gr.refl W).drew);have rr:W.drew.cell? ⟨a,6+ia,none⟩=some (.int .u64 (x.r ia)):=(hxd.at_ (6+ia) (by omega)).trans (congrArg some (Dx.reg x ia ha));have ri:(ia:Int)<16:=by omega
 refine wp_region_held_drew (S:=(fun W=>W.cell? ⟨kb,0,none⟩=some (.int .u8 70)∧W.cell? ⟨kb,1,none⟩=some (.int .i64 ia)∧W.cell? ⟨kb,2,none⟩=some (.int .i64 ib)∧W.cell? ⟨kb,3,none⟩=some (.int .i64 ic)∧W.cell? ⟨kb,4,none⟩=some (.int .u64 imm))) (by kernel_rfl) (KS.out _ (hA.out.gr ((Gr.refl W).drew))) (fun hHeld=>?_);refine xz 0 rfl (h:=xz 1 rfl (h:=xz 2 rfl (h:=xz 3 rfl (h:=xz 4 rfl (h:=xz 5 rfl (h:=?_))))));try simp only[xap]
 refine xrd 6 rfl (fun K hK=>?_);go_simp;refine hK.out _ _ (KS.out _ (hA.out.gr ((Gr.refl W).drew))) (fun hHeld=>?_);clear hK K;try simp only[xap]
 refine xz 7 rfl (h:=?_);try simp only[xap]
 refine xdn ?_ _;clear hHeld rr ri;replace hA:=ζ (hA.out.gr ((Gr.refl W).drew));replace hkp:=ζ (hkp.out.trans (Kp.ofGr ((Gr.refl W).drew)) (fun _ q=>.inl q));replace hx:=ζ hxd;clear hxd;generalize W.drew=V0 at*;have k0:V0.cell? ⟨kb,0,none⟩=some (.int .u8 70):=hA.out.2.1 0;have k4:V0.cell? ⟨kb,4,none⟩=some (.int .u64 imm):=hA.out.2.1 4;have hq2:decide (x.r ia<imm)=false:=decide_eq_false hq;have k3:V0.cell? ⟨kb,3,none⟩=some (.int .i64 ic):=hA.out.2.1 3;have hen:=ζ (dend_any a x 2 (IntKind.u64.wrap ic) 0 V0 hx.out);go_wp2_with fail;refine hen.out.mono ?_;rintro r V9 ⟨rfl,hB⟩;have hfin:Hz (DB1 a (x.fin 2 (IntKind.u64.wrap ic) 0) w V9):=ζ ⟨hB.1,hkp.out.trans hB.2 (fun _ q=>.inl q)⟩;clear hB hen;go_wp2_with fail
 first|go_end0|((try simp only[Exit.inBlock,Exit.then]);refine xre ?_)
 exact⟨rfl,hfin.out⟩
theorem dgrd71y (a:Nat)(x:Dx)(ia ib ic:Nat)(imm:Int)(w:World)(h:DBx w a x)(ha:ia<16)(hp:x.p≤1000000)(hq:imm≤x.r ia):
 Calls Tryz.prog 58 #[.pointer (some ⟨a,0,none⟩),.agg #[.int .u8 71,.int .i64 ia,.int .i64 ib,.int .i64 ic,.int .u64 imm]] w fun r w'=>r=.returned (.tuple #[])∧DB1 a (x.next) w w':=by
 have hne:¬w.heap.size=a:=by have:=h.lt;omega
 have hx:=ζ h;clear h;go_enter Tryz.func58,Tryz.ntmps58;go_upto_region 1 with fail
 refine wp_world (fun W=>At W w.heap.size #[.int .u8 71,.int .i64 ia,.int .i64 ib,.int .i64 ic,.int .u64 imm]∧Gr w W) ⟨At.new w _ _,(Gr.refl _).alloc _⟩ ?_;rintro W ⟨hA,G⟩;generalize w.heap.size=kb at*;replace hA:=ζ hA;replace hx:=ζ (hx.out.gr G);have hkp:Hz (Kp (fun k=>k=a) w W):=ζ (Kp.ofGr G);clear G;have KS:=xk2 71 ia ib ic imm kb;have hxd:=hx.out.gr ((Gr.refl W).drew);have rr:W.drew.cell? ⟨a,6+ia,none⟩=some (.int .u64 (x.r ia)):=(hxd.at_ (6+ia) (by omega)).trans (congrArg some (Dx.reg x ia ha));have ri:(ia:Int)<16:=by omega
 refine wp_region_held_drew (S:=(fun W=>W.cell? ⟨kb,0,none⟩=some (.int .u8 71)∧W.cell? ⟨kb,1,none⟩=some (.int .i64 ia)∧W.cell? ⟨kb,2,none⟩=some (.int .i64 ib)∧W.cell? ⟨kb,3,none⟩=some (.int .i64 ic)∧W.cell? ⟨kb,4,none⟩=some (.int .u64 imm))) (by kernel_rfl) (KS.out _ (hA.out.gr ((Gr.refl W).drew))) (fun hHeld=>?_);refine xz 0 rfl (h:=xz 1 rfl (h:=xz 2 rfl (h:=xz 3 rfl (h:=xz 4 rfl (h:=xz 5 rfl (h:=?_))))));try simp only[xap]
 refine xrd 6 rfl (fun K hK=>?_);go_simp;refine hK.out _ _ (KS.out _ (hA.out.gr ((Gr.refl W).drew))) (fun hHeld=>?_);clear hK K;try simp only[xap]
 refine xz 7 rfl (h:=?_);try simp only[xap]
 refine xdn ?_ _;clear hHeld rr ri;replace hA:=ζ (hA.out.gr ((Gr.refl W).drew));replace hkp:=ζ (hkp.out.trans (Kp.ofGr ((Gr.refl W).drew)) (fun _ q=>.inl q));replace hx:=ζ hxd;clear hxd;generalize W.drew=V0 at*;have k0:V0.cell? ⟨kb,0,none⟩=some (.int .u8 71):=hA.out.2.1 0;have k4:V0.cell? ⟨kb,4,none⟩=some (.int .u64 imm):=hA.out.2.1 4;have hq2:decide (imm≤x.r ia)=true:=decide_eq_true hq;go_upto_region 3 with fail
 clear k0 k4;have c5:V0.cell? ⟨a,5,none⟩=some (.int .i64 x.p):=hx.out.at_ 5 (by omega);have f5:=hx.out.fr 5;have hlt:=hx.out.lt;have hw5:wrap64 ((x.p:Int)+1)=(x.p:Int)+1:=by unfold wrap64;omega
 go_wp2_with fail;clear c5 f5 hlt hw5;replace hx:=ζ (show DBx (V0.setCell ⟨a,5,none⟩ (.int .i64 ((x.p:Int)+1))) a x.next from hx.out.p_ (x.p+1));replace hA:=ζ (show At (V0.setCell ⟨a,5,none⟩ (.int .i64 ((x.p:Int)+1))) kb #[.int .u8 71,.int .i64 ia,.int .i64 ib,.int .i64 ic,.int .u64 imm]from T.at_kp hA.out (kp_set1 (Kp.refl (fun k=>k=a) V0) 5 _) hne);replace hkp:=ζ (show Kp (fun k=>k=a) w (V0.setCell ⟨a,5,none⟩ (.int .i64 ((x.p:Int)+1)))from hkp.out.trans (kp_set1 (Kp.refl _ V0) 5 _) (fun _ q=>.inl q));generalize V0.setCell ⟨a,5,none⟩ (.int .i64 ((x.p:Int)+1))=V at*
 first|go_end0|((try simp only[Exit.inBlock,Exit.then]);refine xre ?_)
 exact⟨rfl,hx.out,hkp.out⟩
theorem dgrd71n (a:Nat)(x:Dx)(ia ib ic:Nat)(imm:Int)(w:World)(h:DBx w a x)(ha:ia<16)(hq:¬imm≤x.r ia):
 Calls Tryz.prog 58 #[.pointer (some ⟨a,0,none⟩),.agg #[.int .u8 71,.int .i64 ia,.int .i64 ib,.int .i64 ic,.int .u64 imm]] w fun r w'=>r=.returned (.tuple #[])∧DB1 a (x.fin 2 (IntKind.u64.wrap ic) 0) w w':=by
 have hne:¬w.heap.size=a:=by have:=h.lt;omega
 have hx:=ζ h;clear h;go_enter Tryz.func58,Tryz.ntmps58;go_upto_region 1 with fail
 refine wp_world (fun W=>At W w.heap.size #[.int .u8 71,.int .i64 ia,.int .i64 ib,.int .i64 ic,.int .u64 imm]∧Gr w W) ⟨At.new w _ _,(Gr.refl _).alloc _⟩ ?_;rintro W ⟨hA,G⟩;generalize w.heap.size=kb at*;replace hA:=ζ hA;replace hx:=ζ (hx.out.gr G);have hkp:Hz (Kp (fun k=>k=a) w W):=ζ (Kp.ofGr G);clear G;have KS:=xk2 71 ia ib ic imm kb;have hxd:=hx.out.gr ((Gr.refl W).drew);have rr:W.drew.cell? ⟨a,6+ia,none⟩=some (.int .u64 (x.r ia)):=(hxd.at_ (6+ia) (by omega)).trans (congrArg some (Dx.reg x ia ha));have ri:(ia:Int)<16:=by omega
 refine wp_region_held_drew (S:=(fun W=>W.cell? ⟨kb,0,none⟩=some (.int .u8 71)∧W.cell? ⟨kb,1,none⟩=some (.int .i64 ia)∧W.cell? ⟨kb,2,none⟩=some (.int .i64 ib)∧W.cell? ⟨kb,3,none⟩=some (.int .i64 ic)∧W.cell? ⟨kb,4,none⟩=some (.int .u64 imm))) (by kernel_rfl) (KS.out _ (hA.out.gr ((Gr.refl W).drew))) (fun hHeld=>?_);refine xz 0 rfl (h:=xz 1 rfl (h:=xz 2 rfl (h:=xz 3 rfl (h:=xz 4 rfl (h:=xz 5 rfl (h:=?_))))));try simp only[xap]
 refine xrd 6 rfl (fun K hK=>?_);go_simp;refine hK.out _ _ (KS.out _ (hA.out.gr ((Gr.refl W).drew))) (fun hHeld=>?_);clear hK K;try simp only[xap]
 refine xz 7 rfl (h:=?_);try simp only[xap]
 refine xdn ?_ _;clear hHeld rr ri;replace hA:=ζ (hA.out.gr ((Gr.refl W).drew));replace hkp:=ζ (hkp.out.trans (Kp.ofGr ((Gr.refl W).drew)) (fun _ q=>.inl q));replace hx:=ζ hxd;clear hxd;generalize W.drew=V0 at*;have k0:V0.cell? ⟨kb,0,none⟩=some (.int .u8 71):=hA.out.2.1 0;have k4:V0.cell? ⟨kb,4,none⟩=some (.int .u64 imm):=hA.out.2.1 4;have hq2:decide (imm≤x.r ia)=false:=decide_eq_false hq;have k3:V0.cell? ⟨kb,3,none⟩=some (.int .i64 ic):=hA.out.2.1 3;have hen:=ζ (dend_any a x 2 (IntKind.u64.wrap ic) 0 V0 hx.out);go_wp2_with fail;refine hen.out.mono ?_;rintro r V9 ⟨rfl,hB⟩;have hfin:Hz (DB1 a (x.fin 2 (IntKind.u64.wrap ic) 0) w V9):=ζ ⟨hB.1,hkp.out.trans hB.2 (fun _ q=>.inl q)⟩;clear hB hen;go_wp2_with fail
 first|go_end0|((try simp only[Exit.inBlock,Exit.then]);refine xre ?_)
 exact⟨rfl,hfin.out⟩
theorem dgrd72 (a:Nat)(x:Dx)(ia ib ic:Nat)(imm:Int)(w:World)(h:DBx w a x)(ha:ia<16):
 Calls Tryz.prog 58 #[.pointer (some ⟨a,0,none⟩),.agg #[.int .u8 72,.int .i64 ia,.int .i64 ib,.int .i64 ic,.int .u64 imm]] w fun r w'=>r=.returned (.tuple #[])∧DB1 a (x.fin 2 (IntKind.u64.wrap ic) 0) w w':=by
 have hne:¬w.heap.size=a:=by have:=h.lt;omega
 have hx:=ζ h;clear h;go_enter Tryz.func58,Tryz.ntmps58;go_upto_region 1 with fail
 refine wp_world (fun W=>At W w.heap.size #[.int .u8 72,.int .i64 ia,.int .i64 ib,.int .i64 ic,.int .u64 imm]∧Gr w W) ⟨At.new w _ _,(Gr.refl _).alloc _⟩ ?_;rintro W ⟨hA,G⟩;generalize w.heap.size=kb at*;replace hA:=ζ hA;replace hx:=ζ (hx.out.gr G);have hkp:Hz (Kp (fun k=>k=a) w W):=ζ (Kp.ofGr G);clear G;have KS:=xk2 72 ia ib ic imm kb;have hxd:=hx.out.gr ((Gr.refl W).drew);have rr:W.drew.cell? ⟨a,6+ia,none⟩=some (.int .u64 (x.r ia)):=(hxd.at_ (6+ia) (by omega)).trans (congrArg some (Dx.reg x ia ha));have ri:(ia:Int)<16:=by omega
 refine wp_region_held_drew (S:=(fun W=>W.cell? ⟨kb,0,none⟩=some (.int .u8 72)∧W.cell? ⟨kb,1,none⟩=some (.int .i64 ia)∧W.cell? ⟨kb,2,none⟩=some (.int .i64 ib)∧W.cell? ⟨kb,3,none⟩=some (.int .i64 ic)∧W.cell? ⟨kb,4,none⟩=some (.int .u64 imm))) (by kernel_rfl) (KS.out _ (hA.out.gr ((Gr.refl W).drew))) (fun hHeld=>?_);refine xz 0 rfl (h:=xz 1 rfl (h:=xz 2 rfl (h:=xz 3 rfl (h:=xz 4 rfl (h:=xz 5 rfl (h:=?_))))));try simp only[xap]
 refine xrd 6 rfl (fun K hK=>?_);go_simp;refine hK.out _ _ (KS.out _ (hA.out.gr ((Gr.refl W).drew))) (fun hHeld=>?_);clear hK K;try simp only[xap]
 refine xz 7 rfl (h:=?_);try simp only[xap]
 refine xdn ?_ _;clear hHeld rr ri;replace hA:=ζ (hA.out.gr ((Gr.refl W).drew));replace hkp:=ζ (hkp.out.trans (Kp.ofGr ((Gr.refl W).drew)) (fun _ q=>.inl q));replace hx:=ζ hxd;clear hxd;generalize W.drew=V0 at*;have k0:V0.cell? ⟨kb,0,none⟩=some (.int .u8 72):=hA.out.2.1 0;have k4:V0.cell? ⟨kb,4,none⟩=some (.int .u64 imm):=hA.out.2.1 4;have k3:V0.cell? ⟨kb,3,none⟩=some (.int .i64 ic):=hA.out.2.1 3;have hen:=ζ (dend_any a x 2 (IntKind.u64.wrap ic) 0 V0 hx.out);go_wp2_with fail;refine hen.out.mono ?_;rintro r V9 ⟨rfl,hB⟩;have hfin:Hz (DB1 a (x.fin 2 (IntKind.u64.wrap ic) 0) w V9):=ζ ⟨hB.1,hkp.out.trans hB.2 (fun _ q=>.inl q)⟩;clear hB hen;go_wp2_with fail
 first|go_end0|((try simp only[Exit.inBlock,Exit.then]);refine xre ?_)
 exact⟨rfl,hfin.out⟩
theorem dhalt (a:Nat)(x:Dx)(ia ib ic:Nat)(imm:Int)(w:World)(h:DBx w a x)(ha:ia<16):
 Calls Tryz.prog 56 #[.pointer (some ⟨a,0,none⟩),.agg #[.int .u8 27,.int .i64 ia,.int .i64 ib,.int .i64 ic,.int .u64 imm]] w fun r w'=>r=.returned (.tuple #[])∧DB1 a (x.fin 1 (x.r ia) 0) w w':=by
 have hne:¬w.heap.size=a:=by have:=h.lt;omega
 have hx:=ζ h;clear h;go_enter Tryz.func56,Tryz.ntmps56;go_upto_region 1 with fail
 refine wp_world (fun W=>At W w.heap.size #[.int .u8 27,.int .i64 ia,.int .i64 ib,.int .i64 ic,.int .u64 imm]∧Gr w W) ⟨At.new w _ _,(Gr.refl _).alloc _⟩ ?_;rintro W ⟨hA,G⟩;generalize w.heap.size=kb at*;replace hA:=ζ hA;replace hx:=ζ (hx.out.gr G);have hkp:Hz (Kp (fun k=>k=a) w W):=ζ (Kp.ofGr G);clear G;have KS:=xk2 27 ia ib ic imm kb;have k0:W.cell? ⟨kb,0,none⟩=some (.int .u8 27):=hA.out.2.1 0;go_upto_region 4 with fail
 clear k0;have hxd:=hx.out.gr ((Gr.refl W).drew);have rr:W.drew.cell? ⟨a,6+ia,none⟩=some (.int .u64 (x.r ia)):=(hxd.at_ (6+ia) (by omega)).trans (congrArg some (Dx.reg x ia ha));have ri:(ia:Int)<16:=by omega
 have hAd:=ζ (hA.out.gr ((Gr.refl W).drew));have hen:=ζ (dend_any a x 1 (x.r ia) 0 W.drew hxd);replace hkp:=ζ (hkp.out.trans (Kp.ofGr ((Gr.refl W).drew)) (fun _ q=>.inl q));replace hxd:=ζ hxd;refine wp_region_held_drew (S:=(fun W=>W.cell? ⟨kb,0,none⟩=some (.int .u8 27)∧W.cell? ⟨kb,1,none⟩=some (.int .i64 ia)∧W.cell? ⟨kb,2,none⟩=some (.int .i64 ib)∧W.cell? ⟨kb,3,none⟩=some (.int .i64 ic)∧W.cell? ⟨kb,4,none⟩=some (.int .u64 imm))) (by kernel_rfl) (KS.out _ hAd.out) (fun hHeld=>?_);refine xz 0 rfl (h:=xz 1 rfl (h:=xz 2 rfl (h:=xz 3 rfl (h:=xz 4 rfl (h:=xz 5 rfl (h:=xz 6 rfl (h:=?_)))))));try simp only[xap]
 refine xrd 7 rfl (fun K hK=>?_);go_simp;refine hK.out _ _ (KS.out _ hAd.out) (fun hHeld=>?_);clear hK K;try simp only[xap]
 refine xrd 8 rfl (fun K hK=>?_);go_simp;go_wp2_with(refine hen.out.mono ?_;rintro r V9 ⟨rfl,hB⟩;clear hHeld);refine hK.out _ _ (KS.out _ (T.at_kp hAd.out hB.2 hne)) (fun hHeld=>?_);clear hK K;try simp only[xap]
 refine xdn ?_ _;clear hHeld rr ri;have hfin:Hz (DB1 a (x.fin 1 (x.r ia) 0) w V9):=ζ ⟨hB.1,hkp.out.trans hB.2 (fun _ q=>.inl q)⟩;clear hB hen;go_wp2_with fail
 first|go_end0|((try simp only[Exit.inBlock,Exit.then]);refine xre ?_)
 exact⟨rfl,hfin.out⟩
theorem dtrap (a:Nat)(x:Dx)(ia ib ic:Nat)(imm:Int)(w:World)(h:DBx w a x):
 Calls Tryz.prog 56 #[.pointer (some ⟨a,0,none⟩),.agg #[.int .u8 28,.int .i64 ia,.int .i64 ib,.int .i64 ic,.int .u64 imm]] w fun r w'=>r=.returned (.tuple #[])∧DB1 a (x.fin 3 imm 0) w w':=by
 have hne:¬w.heap.size=a:=by have:=h.lt;omega
 have hx:=ζ h;clear h;go_enter Tryz.func56,Tryz.ntmps56;go_upto_region 1 with fail
 refine wp_world (fun W=>At W w.heap.size #[.int .u8 28,.int .i64 ia,.int .i64 ib,.int .i64 ic,.int .u64 imm]∧Gr w W) ⟨At.new w _ _,(Gr.refl _).alloc _⟩ ?_;rintro W ⟨hA,G⟩;generalize w.heap.size=kb at*;replace hA:=ζ hA;replace hx:=ζ (hx.out.gr G);have hkp:Hz (Kp (fun k=>k=a) w W):=ζ (Kp.ofGr G);clear G;have KS:=xk2 28 ia ib ic imm kb;have k0:W.cell? ⟨kb,0,none⟩=some (.int .u8 28):=hA.out.2.1 0;have k4:W.cell? ⟨kb,4,none⟩=some (.int .u64 imm):=hA.out.2.1 4;have hen:=ζ (dend_any a x 3 imm 0 W hx.out);go_wp2_with fail;refine hen.out.mono ?_;rintro r V9 ⟨rfl,hB⟩;have hfin:Hz (DB1 a (x.fin 3 imm 0) w V9):=ζ ⟨hB.1,hkp.out.trans hB.2 (fun _ q=>.inl q)⟩;clear hB hen;go_wp2_with fail
 first|go_end0|((try simp only[Exit.inBlock,Exit.then]);refine xre ?_)
 exact⟨rfl,hfin.out⟩
theorem dstarve (a:Nat)(x:Dx)(ia ib ic:Nat)(imm:Int)(w:World)(h:DBx w a x)(ja:Option Addr)(jc:Nat)(hi:x.iv=.slice ja 0 jc):
 Calls Tryz.prog 56 #[.pointer (some ⟨a,0,none⟩),.agg #[.int .u8 29,.int .i64 ia,.int .i64 ib,.int .i64 ic,.int .u64 imm]] w fun r w'=>r=.returned (.tuple #[])∧DB1 a (x.fin 6 0 0) w w':=by
 have hne:¬w.heap.size=a:=by have:=h.lt;omega
 have hx:=ζ h;clear h;go_enter Tryz.func56,Tryz.ntmps56;go_upto_region 1 with fail
 refine wp_world (fun W=>At W w.heap.size #[.int .u8 29,.int .i64 ia,.int .i64 ib,.int .i64 ic,.int .u64 imm]∧Gr w W) ⟨At.new w _ _,(Gr.refl _).alloc _⟩ ?_;rintro W ⟨hA,G⟩;generalize w.heap.size=kb at*;replace hA:=ζ hA;replace hx:=ζ (hx.out.gr G);have hkp:Hz (Kp (fun k=>k=a) w W):=ζ (Kp.ofGr G);clear G;have KS:=xk2 29 ia ib ic imm kb;have k0:W.cell? ⟨kb,0,none⟩=some (.int .u8 29):=hA.out.2.1 0;have c24:W.cell? ⟨a,24,none⟩=some (.slice ja 0 jc):=(hx.out.at_ 24 (by omega)).trans (congrArg some hi);have hen:=ζ (dend_any a x 6 0 0 W hx.out);replace hi:=ζ hi;go_wp2_with fail;refine hen.out.mono ?_;rintro r V9 ⟨rfl,hB⟩;have hfin:Hz (DB1 a (x.fin 6 0 0) w V9):=ζ ⟨hB.1,hkp.out.trans hB.2 (fun _ q=>.inl q)⟩;clear hB hen;go_wp2_with fail
 first|go_end0|((try simp only[Exit.inBlock,Exit.then]);refine xre ?_)
 exact⟨rfl,hfin.out⟩
open T (Sep Ob Kp Mf FlIn boxOb)
def giveM (s:Fm)(A:List Int):Fm:=if s.e=6∧s.inp++A≠[]then{s with inp:=s.inp++A,e:=0,v:=0,f:=0}else{s with inp:=s.inp++A}
def wI (s:Fm)(I:List Int):Fm:={s with inp:=I}
def NoIn (P:Pr)(i:Fi)(s:Fm):Prop:=(∀I,stepI P i (wI s I)=wI (stepI P i s) I)∧(stepI P i s).inp=s.inp∧(s.e=0→(stepI P i s).e≠6)∧(s.e=0→(stepI P i s).e=0→(stepI P i s).v=s.v∧(stepI P i s).f=s.f)
theorem noin0 (s:Fm):(∀I,stp0 (wI s I)=wI (stp0 s) I)∧(stp0 s).inp=s.inp∧(s.e=0→(stp0 s).e≠6)∧(s.e=0→(stp0 s).e=0→(stp0 s).v=s.v∧(stp0 s).f=s.f):=
 ⟨fun _=>rfl,rfl,fun h q=>by rw[show s.e=6 from q]at h;exact absurd h (by decide),fun _ _=>⟨rfl,rfl⟩⟩
theorem noin1 (i:Fi)(s:Fm):(∀I,stp1 i (wI s I)=wI (stp1 i s) I)∧(stp1 i s).inp=s.inp∧(s.e=0→(stp1 i s).e≠6)∧(s.e=0→(stp1 i s).e=0→(stp1 i s).v=s.v∧(stp1 i s).f=s.f):=
 ⟨fun _=>rfl,rfl,fun h q=>by rw[show s.e=6 from q]at h;exact absurd h (by decide),fun _ _=>⟨rfl,rfl⟩⟩
theorem noin2 (i:Fi)(s:Fm):(∀I,stp2 i (wI s I)=wI (stp2 i s) I)∧(stp2 i s).inp=s.inp∧(s.e=0→(stp2 i s).e≠6)∧(s.e=0→(stp2 i s).e=0→(stp2 i s).v=s.v∧(stp2 i s).f=s.f):=
 ⟨fun _=>rfl,rfl,fun h q=>by rw[show s.e=6 from q]at h;exact absurd h (by decide),fun _ _=>⟨rfl,rfl⟩⟩
theorem noin3 (i:Fi)(s:Fm):(∀I,stp3 i (wI s I)=wI (stp3 i s) I)∧(stp3 i s).inp=s.inp∧(s.e=0→(stp3 i s).e≠6)∧(s.e=0→(stp3 i s).e=0→(stp3 i s).v=s.v∧(stp3 i s).f=s.f):=
 ⟨fun _=>rfl,rfl,fun h q=>by rw[show s.e=6 from q]at h;exact absurd h (by decide),fun _ _=>⟨rfl,rfl⟩⟩
theorem noin4 (i:Fi)(s:Fm):(∀I,stp4 i (wI s I)=wI (stp4 i s) I)∧(stp4 i s).inp=s.inp∧(s.e=0→(stp4 i s).e≠6)∧(s.e=0→(stp4 i s).e=0→(stp4 i s).v=s.v∧(stp4 i s).f=s.f):=
 ⟨fun _=>rfl,rfl,fun h q=>by rw[show s.e=6 from q]at h;exact absurd h (by decide),fun _ _=>⟨rfl,rfl⟩⟩
theorem noin5 (i:Fi)(s:Fm):(∀I,stp5 i (wI s I)=wI (stp5 i s) I)∧(stp5 i s).inp=s.inp∧(s.e=0→(stp5 i s).e≠6)∧(s.e=0→(stp5 i s).e=0→(stp5 i s).v=s.v∧(stp5 i s).f=s.f):=
 ⟨fun _=>rfl,rfl,fun h q=>by rw[show s.e=6 from q]at h;exact absurd h (by decide),fun _ _=>⟨rfl,rfl⟩⟩
theorem noin6 (i:Fi)(s:Fm):(∀I,stp6 i (wI s I)=wI (stp6 i s) I)∧(stp6 i s).inp=s.inp∧(s.e=0→(stp6 i s).e≠6)∧(s.e=0→(stp6 i s).e=0→(stp6 i s).v=s.v∧(stp6 i s).f=s.f):=
 ⟨fun _=>rfl,rfl,fun h q=>by rw[show s.e=6 from q]at h;exact absurd h (by decide),fun _ _=>⟨rfl,rfl⟩⟩
theorem noin7 (i:Fi)(s:Fm):(∀I,stp7 i (wI s I)=wI (stp7 i s) I)∧(stp7 i s).inp=s.inp∧(s.e=0→(stp7 i s).e≠6)∧(s.e=0→(stp7 i s).e=0→(stp7 i s).v=s.v∧(stp7 i s).f=s.f):=
 ⟨fun _=>rfl,rfl,fun h q=>by rw[show s.e=6 from q]at h;exact absurd h (by decide),fun _ _=>⟨rfl,rfl⟩⟩
theorem noin8 (i:Fi)(s:Fm):(∀I,stp8 i (wI s I)=wI (stp8 i s) I)∧(stp8 i s).inp=s.inp∧(s.e=0→(stp8 i s).e≠6)∧(s.e=0→(stp8 i s).e=0→(stp8 i s).v=s.v∧(stp8 i s).f=s.f):=
 ⟨fun _=>rfl,rfl,fun h q=>by rw[show s.e=6 from q]at h;exact absurd h (by decide),fun _ _=>⟨rfl,rfl⟩⟩
theorem noin9 (i:Fi)(s:Fm):(∀I,stp9 i (wI s I)=wI (stp9 i s) I)∧(stp9 i s).inp=s.inp∧(s.e=0→(stp9 i s).e≠6)∧(s.e=0→(stp9 i s).e=0→(stp9 i s).v=s.v∧(stp9 i s).f=s.f):=
 ⟨fun _=>rfl,rfl,fun h q=>by rw[show s.e=6 from q]at h;exact absurd h (by decide),fun _ _=>⟨rfl,rfl⟩⟩
theorem noin10 (i:Fi)(s:Fm):(∀I,stp10 i (wI s I)=wI (stp10 i s) I)∧(stp10 i s).inp=s.inp∧(s.e=0→(stp10 i s).e≠6)∧(s.e=0→(stp10 i s).e=0→(stp10 i s).v=s.v∧(stp10 i s).f=s.f):=
 ⟨fun _=>rfl,rfl,fun h q=>by rw[show s.e=6 from q]at h;exact absurd h (by decide),fun _ _=>⟨rfl,rfl⟩⟩
theorem noin11 (i:Fi)(s:Fm):(∀I,stp11 i (wI s I)=wI (stp11 i s) I)∧(stp11 i s).inp=s.inp∧(s.e=0→(stp11 i s).e≠6)∧(s.e=0→(stp11 i s).e=0→(stp11 i s).v=s.v∧(stp11 i s).f=s.f):=
 ⟨fun _=>rfl,rfl,fun h q=>by rw[show s.e=6 from q]at h;exact absurd h (by decide),fun _ _=>⟨rfl,rfl⟩⟩
theorem noin12 (i:Fi)(s:Fm):(∀I,stp12 i (wI s I)=wI (stp12 i s) I)∧(stp12 i s).inp=s.inp∧(s.e=0→(stp12 i s).e≠6)∧(s.e=0→(stp12 i s).e=0→(stp12 i s).v=s.v∧(stp12 i s).f=s.f):=
 ⟨fun _=>rfl,rfl,fun h q=>by rw[show s.e=6 from q]at h;exact absurd h (by decide),fun _ _=>⟨rfl,rfl⟩⟩
theorem noin13 (i:Fi)(s:Fm):(∀I,stp13 i (wI s I)=wI (stp13 i s) I)∧(stp13 i s).inp=s.inp∧(s.e=0→(stp13 i s).e≠6)∧(s.e=0→(stp13 i s).e=0→(stp13 i s).v=s.v∧(stp13 i s).f=s.f):=
 ⟨fun _=>rfl,rfl,fun h q=>by rw[show s.e=6 from q]at h;exact absurd h (by decide),fun _ _=>⟨rfl,rfl⟩⟩
theorem noin20 (i:Fi)(s:Fm):(∀I,stp20 i (wI s I)=wI (stp20 i s) I)∧(stp20 i s).inp=s.inp∧(s.e=0→(stp20 i s).e≠6)∧(s.e=0→(stp20 i s).e=0→(stp20 i s).v=s.v∧(stp20 i s).f=s.f):=
 ⟨fun _=>rfl,rfl,fun h q=>by rw[show s.e=6 from q]at h;exact absurd h (by decide),fun _ _=>⟨rfl,rfl⟩⟩
theorem noin21 (i:Fi)(s:Fm):(∀I,stp21 i (wI s I)=wI (stp21 i s) I)∧(stp21 i s).inp=s.inp∧(s.e=0→(stp21 i s).e≠6)∧(s.e=0→(stp21 i s).e=0→(stp21 i s).v=s.v∧(stp21 i s).f=s.f):=
 ⟨fun _=>rfl,rfl,fun h q=>by rw[show s.e=6 from q]at h;exact absurd h (by decide),fun _ _=>⟨rfl,rfl⟩⟩
theorem noin22 (i:Fi)(s:Fm):(∀I,stp22 i (wI s I)=wI (stp22 i s) I)∧(stp22 i s).inp=s.inp∧(s.e=0→(stp22 i s).e≠6)∧(s.e=0→(stp22 i s).e=0→(stp22 i s).v=s.v∧(stp22 i s).f=s.f):=
 ⟨fun _=>rfl,rfl,fun h q=>by rw[show s.e=6 from q]at h;exact absurd h (by decide),fun _ _=>⟨rfl,rfl⟩⟩
theorem noin23 (i:Fi)(s:Fm):(∀I,stp23 i (wI s I)=wI (stp23 i s) I)∧(stp23 i s).inp=s.inp∧(s.e=0→(stp23 i s).e≠6)∧(s.e=0→(stp23 i s).e=0→(stp23 i s).v=s.v∧(stp23 i s).f=s.f):=
 ⟨fun _=>rfl,rfl,fun h q=>by rw[show s.e=6 from q]at h;exact absurd h (by decide),fun _ _=>⟨rfl,rfl⟩⟩
theorem noin24 (i:Fi)(s:Fm):(∀I,stp24 i (wI s I)=wI (stp24 i s) I)∧(stp24 i s).inp=s.inp∧(s.e=0→(stp24 i s).e≠6)∧(s.e=0→(stp24 i s).e=0→(stp24 i s).v=s.v∧(stp24 i s).f=s.f):=
 ⟨fun _=>rfl,rfl,fun h q=>by rw[show s.e=6 from q]at h;exact absurd h (by decide),fun _ _=>⟨rfl,rfl⟩⟩
theorem noin27 (i:Fi)(s:Fm):(∀I,stp27 i (wI s I)=wI (stp27 i s) I)∧(stp27 i s).inp=s.inp∧(s.e=0→(stp27 i s).e≠6)∧(s.e=0→(stp27 i s).e=0→(stp27 i s).v=s.v∧(stp27 i s).f=s.f):=
 ⟨fun _=>rfl,rfl,fun _ q=>absurd (show(1:Int)=6 from q) (by decide),fun _ q=>absurd (show(1:Int)=0 from q) (by decide)⟩
theorem noin28 (i:Fi)(s:Fm):(∀I,stp28 i (wI s I)=wI (stp28 i s) I)∧(stp28 i s).inp=s.inp∧(s.e=0→(stp28 i s).e≠6)∧(s.e=0→(stp28 i s).e=0→(stp28 i s).v=s.v∧(stp28 i s).f=s.f):=
 ⟨fun _=>rfl,rfl,fun _ q=>absurd (show(3:Int)=6 from q) (by decide),fun _ q=>absurd (show(3:Int)=0 from q) (by decide)⟩
theorem noin30 (i:Fi)(s:Fm):(∀I,stp30 i (wI s I)=wI (stp30 i s) I)∧(stp30 i s).inp=s.inp∧(s.e=0→(stp30 i s).e≠6)∧(s.e=0→(stp30 i s).e=0→(stp30 i s).v=s.v∧(stp30 i s).f=s.f):=
 ⟨fun _=>rfl,rfl,fun h q=>by rw[show s.e=6 from q]at h;exact absurd h (by decide),fun _ _=>⟨rfl,rfl⟩⟩
theorem noin31 (P:Pr)(i:Fi)(s:Fm):(∀I,stp31 P i (wI s I)=wI (stp31 P i s) I)∧(stp31 P i s).inp=s.inp∧(s.e=0→(stp31 P i s).e≠6)∧(s.e=0→(stp31 P i s).e=0→(stp31 P i s).v=s.v∧(stp31 P i s).f=s.f):=
 by
 refine⟨fun I=>?_,?_,fun h q=>?_,fun _ q=>?_⟩
 ·unfold stp31 wI;dsimp only
  split<;>rfl
 ·unfold stp31
  split<;>rfl
 ·unfold stp31 at q
  split at q<;>first|exact absurd (show(5:Int)=6 from q) (by decide)|(rw[show s.e=6 from q]at h;exact absurd h (by decide))
 ·unfold stp31 at q ⊢
  split at q
  all_goals first|exact absurd (show(5:Int)=0 from q) (by decide)|exact⟨rfl,rfl⟩|(rename_i c;first|(rw[if_neg c];exact⟨rfl,rfl⟩)|(rw[if_pos c];exact⟨rfl,rfl⟩)|(rw[c];exact⟨rfl,rfl⟩))
theorem noin32 (P:Pr)(s:Fm):(∀I,stp32 P (wI s I)=wI (stp32 P s) I)∧(stp32 P s).inp=s.inp∧(s.e=0→(stp32 P s).e≠6)∧(s.e=0→(stp32 P s).e=0→(stp32 P s).v=s.v∧(stp32 P s).f=s.f):=
 by
 refine⟨fun I=>?_,?_,fun h q=>?_,fun _ q=>?_⟩
 ·unfold stp32 wI;dsimp only
  split<;>rfl
 ·unfold stp32
  split<;>rfl
 ·unfold stp32 at q
  split at q<;>first|exact absurd (show(1:Int)=6 from q) (by decide)|(rw[show s.e=6 from q]at h;exact absurd h (by decide))
 ·unfold stp32 at q ⊢
  split at q
  all_goals first|exact absurd (show(1:Int)=0 from q) (by decide)|exact⟨rfl,rfl⟩|(rename_i c;first|(rw[if_neg c];exact⟨rfl,rfl⟩)|(rw[if_pos c];exact⟨rfl,rfl⟩)|(rw[c];exact⟨rfl,rfl⟩))
theorem noin60 (i:Fi)(s:Fm):(∀I,stp60 i (wI s I)=wI (stp60 i s) I)∧(stp60 i s).inp=s.inp∧(s.e=0→(stp60 i s).e≠6)∧(s.e=0→(stp60 i s).e=0→(stp60 i s).v=s.v∧(stp60 i s).f=s.f):=
 by
 refine⟨fun I=>?_,?_,fun h q=>?_,fun _ q=>?_⟩
 ·unfold stp60 wI;dsimp only
  split<;>rfl
 ·unfold stp60
  split<;>rfl
 ·unfold stp60 at q
  split at q<;>first|exact absurd (show(7:Int)=6 from q) (by decide)|(rw[show s.e=6 from q]at h;exact absurd h (by decide))
 ·unfold stp60 at q ⊢
  split at q
  all_goals first|exact absurd (show(7:Int)=0 from q) (by decide)|exact⟨rfl,rfl⟩|(rename_i c;first|(rw[if_neg c];exact⟨rfl,rfl⟩)|(rw[if_pos c];exact⟨rfl,rfl⟩)|(rw[c];exact⟨rfl,rfl⟩))
theorem noin61 (i:Fi)(s:Fm):(∀I,stp61 i (wI s I)=wI (stp61 i s) I)∧(stp61 i s).inp=s.inp∧(s.e=0→(stp61 i s).e≠6)∧(s.e=0→(stp61 i s).e=0→(stp61 i s).v=s.v∧(stp61 i s).f=s.f):=
 by
 refine⟨fun I=>?_,?_,fun h q=>?_,fun _ q=>?_⟩
 ·unfold stp61 wI;dsimp only
  split<;>rfl
 ·unfold stp61
  split<;>rfl
 ·unfold stp61 at q
  split at q<;>first|exact absurd (show(7:Int)=6 from q) (by decide)|(rw[show s.e=6 from q]at h;exact absurd h (by decide))
 ·unfold stp61 at q ⊢
  split at q
  all_goals first|exact absurd (show(7:Int)=0 from q) (by decide)|exact⟨rfl,rfl⟩|(rename_i c;first|(rw[if_neg c];exact⟨rfl,rfl⟩)|(rw[if_pos c];exact⟨rfl,rfl⟩)|(rw[c];exact⟨rfl,rfl⟩))
theorem noin62 (i:Fi)(s:Fm):(∀I,stp62 i (wI s I)=wI (stp62 i s) I)∧(stp62 i s).inp=s.inp∧(s.e=0→(stp62 i s).e≠6)∧(s.e=0→(stp62 i s).e=0→(stp62 i s).v=s.v∧(stp62 i s).f=s.f):=
 by
 refine⟨fun I=>?_,?_,fun h q=>?_,fun _ q=>?_⟩
 ·unfold stp62 wI;dsimp only
  split<;>rfl
 ·unfold stp62
  split<;>rfl
 ·unfold stp62 at q
  split at q<;>first|exact absurd (show(7:Int)=6 from q) (by decide)|(rw[show s.e=6 from q]at h;exact absurd h (by decide))
 ·unfold stp62 at q ⊢
  split at q
  all_goals first|exact absurd (show(7:Int)=0 from q) (by decide)|exact⟨rfl,rfl⟩|(rename_i c;first|(rw[if_neg c];exact⟨rfl,rfl⟩)|(rw[if_pos c];exact⟨rfl,rfl⟩)|(rw[c];exact⟨rfl,rfl⟩))
theorem noin63 (i:Fi)(s:Fm):(∀I,stp63 i (wI s I)=wI (stp63 i s) I)∧(stp63 i s).inp=s.inp∧(s.e=0→(stp63 i s).e≠6)∧(s.e=0→(stp63 i s).e=0→(stp63 i s).v=s.v∧(stp63 i s).f=s.f):=
 by
 refine⟨fun I=>?_,?_,fun h q=>?_,fun _ q=>?_⟩
 ·unfold stp63 wI;dsimp only
  split<;>rfl
 ·unfold stp63
  split<;>rfl
 ·unfold stp63 at q
  split at q<;>first|exact absurd (show(7:Int)=6 from q) (by decide)|(rw[show s.e=6 from q]at h;exact absurd h (by decide))
 ·unfold stp63 at q ⊢
  split at q
  all_goals first|exact absurd (show(7:Int)=0 from q) (by decide)|exact⟨rfl,rfl⟩|(rename_i c;first|(rw[if_neg c];exact⟨rfl,rfl⟩)|(rw[if_pos c];exact⟨rfl,rfl⟩)|(rw[c];exact⟨rfl,rfl⟩))
theorem noin64 (i:Fi)(s:Fm):(∀I,stp64 i (wI s I)=wI (stp64 i s) I)∧(stp64 i s).inp=s.inp∧(s.e=0→(stp64 i s).e≠6)∧(s.e=0→(stp64 i s).e=0→(stp64 i s).v=s.v∧(stp64 i s).f=s.f):=
 by
 refine⟨fun I=>?_,?_,fun h q=>?_,fun _ q=>?_⟩
 ·unfold stp64 wI;dsimp only
  split<;>rfl
 ·unfold stp64
  split<;>rfl
 ·unfold stp64 at q
  split at q<;>first|exact absurd (show(7:Int)=6 from q) (by decide)|(rw[show s.e=6 from q]at h;exact absurd h (by decide))
 ·unfold stp64 at q ⊢
  split at q
  all_goals first|exact absurd (show(7:Int)=0 from q) (by decide)|exact⟨rfl,rfl⟩|(rename_i c;first|(rw[if_neg c];exact⟨rfl,rfl⟩)|(rw[if_pos c];exact⟨rfl,rfl⟩)|(rw[c];exact⟨rfl,rfl⟩))
theorem noin65 (i:Fi)(s:Fm):(∀I,stp65 i (wI s I)=wI (stp65 i s) I)∧(stp65 i s).inp=s.inp∧(s.e=0→(stp65 i s).e≠6)∧(s.e=0→(stp65 i s).e=0→(stp65 i s).v=s.v∧(stp65 i s).f=s.f):=
 by
 refine⟨fun I=>?_,?_,fun h q=>?_,fun _ q=>?_⟩
 ·unfold stp65 wI;dsimp only
  split<;>rfl
 ·unfold stp65
  split<;>rfl
 ·unfold stp65 at q
  split at q<;>first|exact absurd (show(7:Int)=6 from q) (by decide)|(rw[show s.e=6 from q]at h;exact absurd h (by decide))
 ·unfold stp65 at q ⊢
  split at q
  all_goals first|exact absurd (show(7:Int)=0 from q) (by decide)|exact⟨rfl,rfl⟩|(rename_i c;first|(rw[if_neg c];exact⟨rfl,rfl⟩)|(rw[if_pos c];exact⟨rfl,rfl⟩)|(rw[c];exact⟨rfl,rfl⟩))
theorem noin70 (i:Fi)(s:Fm):(∀I,stp70 i (wI s I)=wI (stp70 i s) I)∧(stp70 i s).inp=s.inp∧(s.e=0→(stp70 i s).e≠6)∧(s.e=0→(stp70 i s).e=0→(stp70 i s).v=s.v∧(stp70 i s).f=s.f):=
 by
 refine⟨fun I=>?_,?_,fun h q=>?_,fun _ q=>?_⟩
 ·unfold stp70 wI;dsimp only
  split<;>rfl
 ·unfold stp70
  split<;>rfl
 ·unfold stp70 at q
  split at q<;>first|exact absurd (show(2:Int)=6 from q) (by decide)|(rw[show s.e=6 from q]at h;exact absurd h (by decide))
 ·unfold stp70 at q ⊢
  split at q
  all_goals first|exact absurd (show(2:Int)=0 from q) (by decide)|exact⟨rfl,rfl⟩|(rename_i c;first|(rw[if_neg c];exact⟨rfl,rfl⟩)|(rw[if_pos c];exact⟨rfl,rfl⟩)|(rw[c];exact⟨rfl,rfl⟩))
theorem noin71 (i:Fi)(s:Fm):(∀I,stp71 i (wI s I)=wI (stp71 i s) I)∧(stp71 i s).inp=s.inp∧(s.e=0→(stp71 i s).e≠6)∧(s.e=0→(stp71 i s).e=0→(stp71 i s).v=s.v∧(stp71 i s).f=s.f):=
 by
 refine⟨fun I=>?_,?_,fun h q=>?_,fun _ q=>?_⟩
 ·unfold stp71 wI;dsimp only
  split<;>rfl
 ·unfold stp71
  split<;>rfl
 ·unfold stp71 at q
  split at q<;>first|exact absurd (show(2:Int)=6 from q) (by decide)|(rw[show s.e=6 from q]at h;exact absurd h (by decide))
 ·unfold stp71 at q ⊢
  split at q
  all_goals first|exact absurd (show(2:Int)=0 from q) (by decide)|exact⟨rfl,rfl⟩|(rename_i c;first|(rw[if_neg c];exact⟨rfl,rfl⟩)|(rw[if_pos c];exact⟨rfl,rfl⟩)|(rw[c];exact⟨rfl,rfl⟩))
theorem noin72 (i:Fi)(s:Fm):(∀I,stp72 i (wI s I)=wI (stp72 i s) I)∧(stp72 i s).inp=s.inp∧(s.e=0→(stp72 i s).e≠6)∧(s.e=0→(stp72 i s).e=0→(stp72 i s).v=s.v∧(stp72 i s).f=s.f):=
 ⟨fun _=>rfl,rfl,fun _ q=>absurd (show(2:Int)=6 from q) (by decide),fun _ q=>absurd (show(2:Int)=0 from q) (by decide)⟩
theorem noin_all (P:Pr)(i:Fi)(s:Fm)(hi:i.op≠29):NoIn P i s:=by
 unfold NoIn;by_cases q0:i.op=0
 ·have e:∀z,stepI P i z=stp0 z:=fun z=>by unfold stepI;rw[q0];rfl
  rw[e s];refine⟨fun I=>?_,(noin0 s).2⟩;rw[e (wI s I)];exact(noin0 s).1 I
 by_cases q1:i.op=1
 ·have e:∀z,stepI P i z=stp1 i z:=fun z=>by unfold stepI;rw[q1];rfl
  rw[e s];refine⟨fun I=>?_,(noin1 i s).2⟩;rw[e (wI s I)];exact(noin1 i s).1 I
 by_cases q2:i.op=2
 ·have e:∀z,stepI P i z=stp2 i z:=fun z=>by unfold stepI;rw[q2];rfl
  rw[e s];refine⟨fun I=>?_,(noin2 i s).2⟩;rw[e (wI s I)];exact(noin2 i s).1 I
 by_cases q3:i.op=3
 ·have e:∀z,stepI P i z=stp3 i z:=fun z=>by unfold stepI;rw[q3];rfl
  rw[e s];refine⟨fun I=>?_,(noin3 i s).2⟩;rw[e (wI s I)];exact(noin3 i s).1 I
 by_cases q4:i.op=4
 ·have e:∀z,stepI P i z=stp4 i z:=fun z=>by unfold stepI;rw[q4];rfl
  rw[e s];refine⟨fun I=>?_,(noin4 i s).2⟩;rw[e (wI s I)];exact(noin4 i s).1 I
 by_cases q5:i.op=5
 ·have e:∀z,stepI P i z=stp5 i z:=fun z=>by unfold stepI;rw[q5];rfl
  rw[e s];refine⟨fun I=>?_,(noin5 i s).2⟩;rw[e (wI s I)];exact(noin5 i s).1 I
 by_cases q6:i.op=6
 ·have e:∀z,stepI P i z=stp6 i z:=fun z=>by unfold stepI;rw[q6];rfl
  rw[e s];refine⟨fun I=>?_,(noin6 i s).2⟩;rw[e (wI s I)];exact(noin6 i s).1 I
 by_cases q7:i.op=7
 ·have e:∀z,stepI P i z=stp7 i z:=fun z=>by unfold stepI;rw[q7];rfl
  rw[e s];refine⟨fun I=>?_,(noin7 i s).2⟩;rw[e (wI s I)];exact(noin7 i s).1 I
 by_cases q8:i.op=8
 ·have e:∀z,stepI P i z=stp8 i z:=fun z=>by unfold stepI;rw[q8];rfl
  rw[e s];refine⟨fun I=>?_,(noin8 i s).2⟩;rw[e (wI s I)];exact(noin8 i s).1 I
 by_cases q9:i.op=9
 ·have e:∀z,stepI P i z=stp9 i z:=fun z=>by unfold stepI;rw[q9];rfl
  rw[e s];refine⟨fun I=>?_,(noin9 i s).2⟩;rw[e (wI s I)];exact(noin9 i s).1 I
 by_cases q10:i.op=10
 ·have e:∀z,stepI P i z=stp10 i z:=fun z=>by unfold stepI;rw[q10];rfl
  rw[e s];refine⟨fun I=>?_,(noin10 i s).2⟩;rw[e (wI s I)];exact(noin10 i s).1 I
 by_cases q11:i.op=11
 ·have e:∀z,stepI P i z=stp11 i z:=fun z=>by unfold stepI;rw[q11];rfl
  rw[e s];refine⟨fun I=>?_,(noin11 i s).2⟩;rw[e (wI s I)];exact(noin11 i s).1 I
 by_cases q12:i.op=12
 ·have e:∀z,stepI P i z=stp12 i z:=fun z=>by unfold stepI;rw[q12];rfl
  rw[e s];refine⟨fun I=>?_,(noin12 i s).2⟩;rw[e (wI s I)];exact(noin12 i s).1 I
 by_cases q13:i.op=13
 ·have e:∀z,stepI P i z=stp13 i z:=fun z=>by unfold stepI;rw[q13];rfl
  rw[e s];refine⟨fun I=>?_,(noin13 i s).2⟩;rw[e (wI s I)];exact(noin13 i s).1 I
 by_cases q20:i.op=20
 ·have e:∀z,stepI P i z=stp20 i z:=fun z=>by unfold stepI;rw[q20];rfl
  rw[e s];refine⟨fun I=>?_,(noin20 i s).2⟩;rw[e (wI s I)];exact(noin20 i s).1 I
 by_cases q21:i.op=21
 ·have e:∀z,stepI P i z=stp21 i z:=fun z=>by unfold stepI;rw[q21];rfl
  rw[e s];refine⟨fun I=>?_,(noin21 i s).2⟩;rw[e (wI s I)];exact(noin21 i s).1 I
 by_cases q22:i.op=22
 ·have e:∀z,stepI P i z=stp22 i z:=fun z=>by unfold stepI;rw[q22];rfl
  rw[e s];refine⟨fun I=>?_,(noin22 i s).2⟩;rw[e (wI s I)];exact(noin22 i s).1 I
 by_cases q23:i.op=23
 ·have e:∀z,stepI P i z=stp23 i z:=fun z=>by unfold stepI;rw[q23];rfl
  rw[e s];refine⟨fun I=>?_,(noin23 i s).2⟩;rw[e (wI s I)];exact(noin23 i s).1 I
 by_cases q24:i.op=24
 ·have e:∀z,stepI P i z=stp24 i z:=fun z=>by unfold stepI;rw[q24];rfl
  rw[e s];refine⟨fun I=>?_,(noin24 i s).2⟩;rw[e (wI s I)];exact(noin24 i s).1 I
 by_cases q27:i.op=27
 ·have e:∀z,stepI P i z=stp27 i z:=fun z=>by unfold stepI;rw[q27];rfl
  rw[e s];refine⟨fun I=>?_,(noin27 i s).2⟩;rw[e (wI s I)];exact(noin27 i s).1 I
 by_cases q28:i.op=28
 ·have e:∀z,stepI P i z=stp28 i z:=fun z=>by unfold stepI;rw[q28];rfl
  rw[e s];refine⟨fun I=>?_,(noin28 i s).2⟩;rw[e (wI s I)];exact(noin28 i s).1 I
 by_cases q30:i.op=30
 ·have e:∀z,stepI P i z=stp30 i z:=fun z=>by unfold stepI;rw[q30];rfl
  rw[e s];refine⟨fun I=>?_,(noin30 i s).2⟩;rw[e (wI s I)];exact(noin30 i s).1 I
 by_cases q31:i.op=31
 ·have e:∀z,stepI P i z=stp31 P i z:=fun z=>by unfold stepI;rw[q31];rfl
  rw[e s];refine⟨fun I=>?_,(noin31 P i s).2⟩;rw[e (wI s I)];exact(noin31 P i s).1 I
 by_cases q32:i.op=32
 ·have e:∀z,stepI P i z=stp32 P z:=fun z=>by unfold stepI;rw[q32];rfl
  rw[e s];refine⟨fun I=>?_,(noin32 P s).2⟩;rw[e (wI s I)];exact(noin32 P s).1 I
 by_cases q60:i.op=60
 ·have e:∀z,stepI P i z=stp60 i z:=fun z=>by unfold stepI;rw[q60];rfl
  rw[e s];refine⟨fun I=>?_,(noin60 i s).2⟩;rw[e (wI s I)];exact(noin60 i s).1 I
 by_cases q61:i.op=61
 ·have e:∀z,stepI P i z=stp61 i z:=fun z=>by unfold stepI;rw[q61];rfl
  rw[e s];refine⟨fun I=>?_,(noin61 i s).2⟩;rw[e (wI s I)];exact(noin61 i s).1 I
 by_cases q62:i.op=62
 ·have e:∀z,stepI P i z=stp62 i z:=fun z=>by unfold stepI;rw[q62];rfl
  rw[e s];refine⟨fun I=>?_,(noin62 i s).2⟩;rw[e (wI s I)];exact(noin62 i s).1 I
 by_cases q63:i.op=63
 ·have e:∀z,stepI P i z=stp63 i z:=fun z=>by unfold stepI;rw[q63];rfl
  rw[e s];refine⟨fun I=>?_,(noin63 i s).2⟩;rw[e (wI s I)];exact(noin63 i s).1 I
 by_cases q64:i.op=64
 ·have e:∀z,stepI P i z=stp64 i z:=fun z=>by unfold stepI;rw[q64];rfl
  rw[e s];refine⟨fun I=>?_,(noin64 i s).2⟩;rw[e (wI s I)];exact(noin64 i s).1 I
 by_cases q65:i.op=65
 ·have e:∀z,stepI P i z=stp65 i z:=fun z=>by unfold stepI;rw[q65];rfl
  rw[e s];refine⟨fun I=>?_,(noin65 i s).2⟩;rw[e (wI s I)];exact(noin65 i s).1 I
 by_cases q70:i.op=70
 ·have e:∀z,stepI P i z=stp70 i z:=fun z=>by unfold stepI;rw[q70];rfl
  rw[e s];refine⟨fun I=>?_,(noin70 i s).2⟩;rw[e (wI s I)];exact(noin70 i s).1 I
 by_cases q71:i.op=71
 ·have e:∀z,stepI P i z=stp71 i z:=fun z=>by unfold stepI;rw[q71];rfl
  rw[e s];refine⟨fun I=>?_,(noin71 i s).2⟩;rw[e (wI s I)];exact(noin71 i s).1 I
 by_cases q72:i.op=72
 ·have e:∀z,stepI P i z=stp72 i z:=fun z=>by unfold stepI;rw[q72];rfl
  rw[e s];refine⟨fun I=>?_,(noin72 i s).2⟩;rw[e (wI s I)];exact(noin72 i s).1 I
 have e:∀z,stepI P i z=z:=fun z=>by
  unfold stepI;rw[if_neg q0,if_neg q1,if_neg q2,if_neg q3,if_neg q4,if_neg q5,if_neg q6,if_neg q7,if_neg q8,if_neg q9,if_neg q10,if_neg q11,if_neg q12,if_neg q13,if_neg q20,if_neg q21,if_neg q22,if_neg q23,if_neg q24,if_neg q27,if_neg q28,if_neg hi,if_neg q30,if_neg q31,if_neg q32,if_neg q60,if_neg q61,if_neg q62,if_neg q63,if_neg q64,if_neg q65,if_neg q70,if_neg q71,if_neg q72]
 rw[e s];exact⟨fun I=>e (wI s I),rfl,fun h=>by rw[h];decide,fun _ _=>⟨rfl,rfl⟩⟩
theorem step_one (P:Pr)(s:Fm)(h:s.e=0):stepsM P s 1=stepM P s:=by
 show(if s.e=0 then stepM P s else s)=_;rw[if_pos h]
theorem in_step (P:Pr)(i:Fi)(s:Fm)(hi:i.op=29):stepI P i s=stp29 i s:=by unfold stepI;rw[hi];rfl
def WAtG (w:World)(b o:Nat)(L:List Int):Prop:=∀k (h:k<L.length),b<w.heap.size∧w.cell? ⟨b,o+k,none⟩=some (.int .u64 L[k])
theorem u64_at {w:World}{b o:Nat}{L:List Int}(h:WAtG w b o L):∀j u,(L.map u64I)[j]?=some u→w.cell? ((⟨b,o,none⟩:Addr).add j)=some u:=fun j u q=>by
 have hj:j<L.length:=by have:=(List.getElem?_eq_some_iff.1 q).1;simpa using this
 rw[addr_addZ,(h j hj).2,←q];simp[hj,u64I]
theorem u64_one (L:List Int):∀u∈L.map u64I,u.oneCell'=true:=fun u hu=>by
 obtain⟨y,_,rfl⟩:=List.mem_map.1 hu
 rfl
theorem kp_setsG (g:Nat):∀(vs:List Value) (o:Nat) (w:World),Kp (fun k=>some g=some k) w (w.setCells g o vs):=fun vs o w=>by
 have h:=kp_setsZ w g vs o;exact⟨h.os,h.tape,h.output,h.size,fun k hk hn=>h.block k hk (fun e=>hn (by rw[e]))⟩
theorem run_append_iv (w:World)(v:Value)(L A:List Int)(hv:IvIn w v L)(b2 o2 c:Nat)(hA:WAtG w b2 o2 A)(hl:L.length+A.length≤3000000)(ty:TypeId):
 ∃v' w',(Builtin.append_ #[26,26] ty #[v,.slice (some ⟨b2,o2,none⟩) A.length c]).run Tryz.prog w=.ok v' w'∧IvIn w' v' (L++A)∧Kp (fun k=>v.ownBlock=some k) w w'∧(∀k,v'.ownBlock=some k→v.ownBlock=some k∨w.heap.size≤k):=by
 obtain⟨i0,hi0,hz0,hz1,hz2⟩:=T.info_parts' (show(Tryz.prog.info? 51).map (fun i=>(i.zero,i.size,i.bytes))=some (some (.int .u64 0),1,8)by kernel_rfl);have hlA:(A.map u64I).length=A.length*1:=by simp
 obtain⟨a,cap,e1,e2⟩:=hv.rm;obtain⟨a',cap',f1,f2,f3⟩:=hv.go;rw[e1]at f1;injection f1 with g1 _ g3;subst g1 g3;rcases e2 with⟨rfl,rfl⟩|⟨b,off,rfl,rm⟩
 ·have hL:L=[]:=List.eq_nil_of_length_eq_zero (by omega);subst hL;obtain⟨v',w',k1,k2,k3,_,k5⟩:=run_append_own_at (P:=Tryz.prog) w w.heap.size 26 ty 51 i0 (.int .u64 0) 1 8 Tryz.underlying26 hi0 hz0 hz1 hz2 rfl (by decide) (.slice none 0 0) 0 [] (World.ownsRow_nil _ _ _ _) ⟨b2,o2,none⟩ A.length c (A.map u64I) hlA (u64_at hA) (u64_one A) (by unfold maxLen;omega) (by omega) (Nat.le_refl _);rw[Nat.zero_add,List.nil_append]at k2;obtain⟨k6,k7⟩:=own_iv k2;refine⟨v',w',by rw[e1];exact k1,k6,?_,fun k q=>.inr (k7 k q)⟩;rw[e1];exact kp_grown k3
 ·have hAt:L.length=0∨WAtG w b off L:=by
   rcases f3 with f3|⟨b',off',f4,f5⟩
   ·exact .inl f3
   ·cases f4
    exact .inr (fun k hk=>⟨hv.lt b (by rw[e1];rfl),f5 k hk⟩)
  have hblt:b<w.heap.size:=hv.lt b (by rw[e1];rfl);by_cases hr:L.length+A.length≤cap
  ·have hrun:=run_append_room_cells (P:=Tryz.prog) w 26 ty 51 i0 Tryz.underlying26 hi0 b off L.length cap ⟨b2,o2,none⟩ A.length c (A.map u64I) (by rw[hz1];exact hlA) (u64_at hA) (u64_one A) hr
    (fun j hj=>by rw[hz1,Nat.mul_one,Nat.add_assoc];exact(rm _ (by rw[List.length_map]at hj;omega)).1) (fun j hj=>by rw[hz1,Nat.mul_one,Nat.add_assoc];exact(rm _ (by rw[List.length_map]at hj;omega)).2)
   rw[hz1,Nat.mul_one]at hrun;have hsz:(w.setCells b (off+L.length) (A.map u64I)).heap.size=w.heap.size:=setCells_size b (A.map u64I) (off+L.length) w;refine⟨_,_,by rw[e1];exact hrun,⟨⟨_,cap,by rw[List.length_append],by rw[List.length_append];exact hr,.inr ⟨b,off,rfl,fun i hi=>?_⟩⟩,fun k q=>?_,⟨_,cap,by rw[List.length_append],.inr ⟨b,off,rfl,fun j hj=>?_⟩⟩⟩,?_,fun k q=>.inl (by rw[e1];exact q)⟩
   ·by_cases hiL:i<L.length
    ·rw[World.cell?_setCells_out b _ _ w _ (fun _ _=>.inl (show off+i<off+L.length by omega)),List.getElem_append_left hiL];rcases hAt with h0|h0
     ·omega
     ·exact(h0 i hiL).2
    ·have hj:i - L.length<A.length:=by rw[List.length_append]at hi;omega
     have hq:=World.cell?_setCells_in b (A.map u64I) (off+L.length) w (fun j hj=>by rw[Nat.add_assoc];exact(rm _ (by rw[List.length_map]at hj;omega)).1) (i - L.length) (by rw[List.length_map];exact hj);rw[show off+L.length+(i - L.length)=off+i by omega]at hq;rw[hq,List.getElem_map,List.getElem_append_right (by omega)]
     rfl
   ·cases q
    rw[hsz];exact hblt
   ·refine⟨World.isSome_setCells b _ _ w _ (rm j hj).1,?_⟩;rw[World.frozen?_setCells];exact(rm j hj).2
   ·rw[e1];exact kp_setsG b (A.map u64I) (off+L.length) w
  ·obtain⟨v',w',k1,k2,k3⟩:=run_append_arg_grows (P:=Tryz.prog) w 26 ty 51 i0 (.int .u64 0) 1 8 Tryz.underlying26 hi0 hz0 hz1 hz2 rfl (by decide) ⟨b,off,none⟩ L.length cap (L.map u64I) (by simp) (fun j u q=>by
    rcases hAt with h0|h0
    ·have:=(List.getElem?_eq_some_iff.1 q).1;rw[List.length_map]at this;omega
    ·exact u64_at h0 j u q) ⟨b2,o2,none⟩ A.length c (A.map u64I) hlA (u64_at hA) (by omega) (by unfold maxLen;omega) (by omega)
   rw[←List.map_append,←List.length_append]at k2;obtain⟨k6,k7⟩:=own_iv k2;refine⟨v',w',by rw[e1];exact k1,k6,?_,fun k q=>.inr (k7 k q)⟩;have hk:=kp_grown k3;exact⟨hk.os,hk.tape,hk.output,hk.size,fun k h1 _=>hk.block k h1 (fun e=>by cases e)⟩
theorem append_nil0 (w:World)(ty:TypeId):(Builtin.append_ #[26,26] ty #[.slice none 0 0,.slice none 0 0]).run Tryz.prog w=.ok (.slice none 0 0) w:=by
 obtain⟨i0,hi0,hz0,hz1,hz2⟩:=T.info_parts' (show(Tryz.prog.info? 51).map (fun i=>(i.zero,i.size,i.bytes))=some (some (.int .u64 0),1,8)by kernel_rfl);simp[Builtin.append_,run_underlying Tryz.underlying26,sizeOf,typeInfo,hi0,Builtin.lenOf,Builtin.firstCells]
theorem run_append_iv0 (w:World)(v:Value)(L:List Int)(hv:IvIn w v L)(ty:TypeId):(Builtin.append_ #[26,26] ty #[v,.slice none 0 0]).run Tryz.prog w=.ok v w:=by
 obtain⟨i0,hi0,hz0,hz1,hz2⟩:=T.info_parts' (show(Tryz.prog.info? 51).map (fun i=>(i.zero,i.size,i.bytes))=some (some (.int .u64 0),1,8)by kernel_rfl);obtain⟨a,cap,e1,e2⟩:=hv.rm;obtain⟨a',cap',f1,f2,_⟩:=hv.go;rw[e1]at f1;injection f1 with g1 _ g3;subst g1 g3;rcases e2 with⟨rfl,rfl⟩|⟨b,off,rfl,rm⟩
 ·have hL:L.length=0:=by omega
  rw[e1,hL];exact append_nil0 w ty
 ·have hrun:=run_append_room_src (P:=Tryz.prog) w 26 26 ty 51 i0 Tryz.underlying26 hi0 b off L.length cap (.slice none 0 0) 0 [] (Src.ofNil (P:=Tryz.prog) w Tryz.underlying26 0) f2 (fun j hj=>absurd hj (Nat.not_lt_zero j)) (fun j hj=>absurd hj (Nat.not_lt_zero j));rw[e1];exact hrun
theorem wp_append_iv {o:Oper}{a:Act}{K:Act→World→Prop}{Q:Exit→Act→World→Prop}{w:World}(s x:Operand)
 (ho:o.op=.call {callee:=.builtin .append,args:=#[s,x],argTypes:=#[26,26]})(v:Value)(L A:List Int)(hs:a.eval s=v)(xv:Value)(hx:a.eval x=xv)
 (hrun:∀ty,∃v' w',(Builtin.append_ #[26,26] ty #[v,xv]).run Tryz.prog w=.ok v' w'∧IvIn w' v' (L++A)∧Kp (fun k=>v.ownBlock=some k) w w'∧(∀k,v'.ownBlock=some k→v.ownBlock=some k∨w.heap.size≤k))
 (h:∀v' w',IvIn w' v' (L++A)→Kp (fun k=>v.ownBlock=some k) w w'→(∀k,v'.ownBlock=some k→v.ownBlock=some k∨w.heap.size≤k)→K (a.put o.dst v') w'):o.wp Tryz.prog a w K Q:=by
 obtain⟨v',w',hr,h2,h3,h4⟩:=hrun o.type;unfold Oper.wp execOp;simp only[ho,resolve,invoke,builtin,Sem.run_bind,Sem.run_pure,Result.andThen_ok,List.map_toArray,List.map_cons,List.map_nil,hs,hx,hr];exact h v' w' h2 h3 h4
theorem MIn.app_in {B:Nat}{W W2:World}{a:Nat}{P:Pr}{s:Fm}{l:List Ob}{q:Pt}(L:List Int)(v:Value)(h:Sep B W (obs B a P s q++l))(le:B≤W.heap.size)(hv:IvIn W2 v L)(hk:Kp (fun k=>q.iv.ownBlock=some k) W W2)(hn:∀k,v.ownBlock=some k→q.iv.ownBlock=some k∨W.heap.size≤k):
 Bx W2 a (bxOf P s q)∧MIn B (W2.setCell ⟨a,23,none⟩ v) a P {s with inp:=L} l∧Below B W (W2.setCell ⟨a,23,none⟩ v):=by
 have h1:=sep_change (l1:=[bxOb a (bxOf P s q),flOb q.F q.mp s.m,stOb B q.sv s.st]) (o:=inOb q.iv s.inp) (o':=inOb v L) (l2:=ouOb B q.ov_ s.out::tcOb B q.tv s.tc::pgOb q.SP q.cv q.gv P::l) h hv hk hn le;have b1:=sep_below (l1:=[bxOb a (bxOf P s q),flOb q.F q.mp s.m,stOb B q.sv s.st]) (o:=inOb q.iv s.inp) (l2:=ouOb B q.ov_ s.out::tcOb B q.tv s.tc::pgOb q.SP q.cv q.gv P::l) h hk le;obtain⟨h2,b2⟩:=sep_box (bxOf P s q) (bxOf P {s with inp:=L} {q with iv:=v}) h1 v 23 (fun hb=>hb.iv _) (Nat.le_trans le b1.size);exact⟨h1.ins (bxOb a (bxOf P s q)) (by simp),⟨⟨{q with iv:=v},h2⟩,Nat.le_trans le (b1.trans b2).size⟩,b1.trans b2⟩
theorem MIn.calmed {B:Nat}{W:World}{a:Nat}{P:Pr}{s:Fm}{l:List Ob}(h:MIn B W a P s l):
 MIn B (((W.setCell ⟨a,26,none⟩ (.int .i64 0)).setCell ⟨a,27,none⟩ (.int .u64 0)).setCell ⟨a,28,none⟩ (.int .i64 0)) a P {s with e:=0,v:=0,f:=0} l∧Below B W (((W.setCell ⟨a,26,none⟩ (.int .i64 0)).setCell ⟨a,27,none⟩ (.int .u64 0)).setCell ⟨a,28,none⟩ (.int .i64 0)):=by
 obtain⟨⟨q,h1⟩,le⟩:=h;have hB:=((h1.ins (bxOb a (bxOf P s q)) (by simp[obs]):Bx W a (bxOf P s q)).e 0).v 0 |>.f 0;have hk:Kp (fun k=>k=a) W (((W.setCell ⟨a,26,none⟩ (.int .i64 0)).setCell ⟨a,27,none⟩ (.int .u64 0)).setCell ⟨a,28,none⟩ (.int .i64 0)):=kp_set1 (kp_set1 (kp_set1 (Kp.refl _ W) 26 _) 27 _) 28 _;have h2:=sep_change (l1:=[]) (o:=bxOb a (bxOf P s q)) (o':=bxOb a (bxOf P {s with e:=0,v:=0,f:=0} q)) h1 hB hk (fun _ r=>.inl r) le;exact⟨⟨⟨q,h2⟩,Nat.le_trans le hk.size⟩,sep_below (l1:=[]) (o:=bxOb a (bxOf P s q)) h1 hk le⟩
theorem giveM_not (s:Fm)(A:List Int)(h:¬(s.e=6∧s.inp++A≠[])):giveM s A={s with inp:=s.inp++A}:=if_neg h
theorem giveM_yes (s:Fm)(A:List Int)(h:s.e=6∧s.inp++A≠[]):giveM s A={s with inp:=s.inp++A,e:=0,v:=0,f:=0}:=if_pos h
theorem give_core (B:Nat)(W:World)(b:Nat)(P:Pr)(s:Fm)(l:List Ob)(A:List Int)(va:Option Addr)(n vc:Nat)(h:MIn B W b P s l)
 (hrun:∀v,IvIn W v s.inp→∀ty,∃v' w',(Builtin.append_ #[26,26] ty #[v,.slice va n vc]).run Tryz.prog W=.ok v' w'∧IvIn w' v' (s.inp++A)∧Kp (fun k=>v.ownBlock=some k) W w'∧(∀k,v'.ownBlock=some k→v.ownBlock=some k∨W.heap.size≤k)):
 Calls Tryz.prog 59 #[.pointer (some ⟨b,0,none⟩),.slice va n vc] W fun x w'=>x=.returned (.tuple #[])∧MIn B w' b P (giveM s A) l∧Below B W w':=by
 obtain⟨⟨q,h1⟩,le⟩:=h;have hb:=h1.ins (bxOb b (bxOf P s q)) (by simp[obs]);have hI:IvIn W q.iv s.inp:=h1.ins (inOb q.iv s.inp) (by simp[obs]);obtain⟨ia,ic,e1, -, -⟩:=hI.go;have c23:W.cell? ⟨b,23,none⟩=some (.slice ia s.inp.length ic):=by rw[←e1];exact hb.at_ 23 (by omega)
 have hr:=ζ (hrun q.iv hI);rw[e1]at hr;have hap:Hz (∀v' w',IvIn w' v' (s.inp++A)→Kp (fun k=>(Value.slice ia s.inp.length ic).ownBlock=some k) W w'→(∀k,v'.ownBlock=some k→(Value.slice ia s.inp.length ic).ownBlock=some k∨W.heap.size≤k)→Bx w' b (bxOf P s q)∧MIn B (w'.setCell ⟨b,23,none⟩ v') b P {s with inp:=s.inp++A} l∧Below B W (w'.setCell ⟨b,23,none⟩ v')):=ζ (fun v' w' k1 k2 k3=>MIn.app_in (s.inp++A) v' h1 le k1 (by rw[e1];exact k2) (by rw[e1];exact k3));clear hrun hI e1 h1 le hb;go_enter Tryz.func59,Tryz.ntmps59;go_upto_region 1 with fail
 refine wp_region_lit ?_;iterate 6 (refine xp fun K hK=>?_;go_simp;with_reducible refine hK _ _ ?_;clear hK K;(try simp only[xap]))
 refine wpList_plain rfl (fun K' hK=>?_);refine wp_append_iv _ _ rfl (.slice ia s.inp.length ic) s.inp A rfl (.slice va n vc) rfl hr.out (fun v' W2 k1 k2 k3=>?_);obtain⟨hb2,hM2,hBn⟩:=hap.out v' W2 k1 k2 k3;obtain⟨a',c',ev, -, -⟩:=k1.go;obtain⟨m,hm⟩:∃m,(s.inp++A).length=m:=⟨_,rfl⟩;rw[hm]at ev;rw[ev]at hM2 hBn ⊢;replace hm:=ζ hm;with_reducible refine hK _ _ ?_
 clear hK K' hr hap k1 k2 k3 c23 ev;try simp only[xap]
 have c23:∃x,W2.cell? ⟨b,23,none⟩=some x:=⟨_,hb2.at_ 23 (by omega)⟩;obtain⟨x23,c23⟩:=c23;have f23:=hb2.fr 23;clear hb2;replace hM2:=ζ hM2;replace hBn:=ζ hBn;go_upto_region 2 with fail
 generalize hW3:W2.setCell ⟨b,23,none⟩ (.slice a' m c')=W3 at*;clear hW3 c23 f23;have hM:=hM2;clear hM2;obtain⟨q3,hb3⟩:=hM.out.bx;have c6:W3.cell? ⟨b,26,none⟩=some (.int .i64 s.e):=hb3.at_ 26 (by omega);have c3:∃a c,W3.cell? ⟨b,23,none⟩=some (.slice a (s.inp++A).length c):=by
  obtain⟨⟨q4,h4⟩,_⟩:=hM.out;obtain⟨a4,c4,e4, -, -⟩:=(h4.ins (inOb q4.iv (s.inp++A)) (by simp[obs]):IvIn W3 q4.iv (s.inp++A)).go;exact⟨a4,c4,by rw[←e4];exact(h4.ins (bxOb b (bxOf P {s with inp:=s.inp++A} q4)) (by simp[obs]):Bx W3 b _).at_ 23 (by omega)⟩
 obtain⟨a3,cc3,c3⟩:=c3;have hblt:=hb3.lt;have f6:=hb3.fr 26;have f7:=hb3.fr 27;have f8:=hb3.fr 28;have c7:W3.cell? ⟨b,27,none⟩=some (.int .u64 s.v):=hb3.at_ 27 (by omega);have c8:W3.cell? ⟨b,28,none⟩=some (.int .i64 s.f):=hb3.at_ 28 (by omega);replace hb3:=ζ hb3;rw[hm.out]at c3;by_cases h6:s.e=6
 ·have h61:(s.e==6)=true:=by simp[h6]
  by_cases h7:m=0
  ·have hgm:Hz (giveM s A={s with inp:=s.inp++A}):=ζ (giveM_not s A (fun q=>q.2 (List.eq_nil_of_length_eq_zero (by rw[hm.out];exact h7))));have hm0:¬(0:Int)<(m:Int):=by omega
   clear hm h6 h7;go_wp2_with fail
   first|go_end0|((try simp only[Exit.inBlock,Exit.then]);refine xre ?_)
   rw[hgm.out];exact⟨rfl,hM.out,hBn.out⟩
  ·have hgm:Hz (giveM s A={s with inp:=s.inp++A,e:=0,v:=0,f:=0}):=ζ (giveM_yes s A ⟨h6,fun q=>h7 (by rw[←hm.out,q];rfl)⟩);have hm0:(0:Int)<(m:Int):=by omega
   have hcm:=ζ hM.out.calmed;clear hm h6 h7;go_wp2_with fail
   first|go_end0|((try simp only[Exit.inBlock,Exit.then]);refine xre ?_)
   rw[hgm.out];exact⟨rfl,hcm.out.1,hBn.out.trans hcm.out.2⟩
 ·have h61:(s.e==6)=false:=beq_false_of_ne h6;have hgm:Hz (giveM s A={s with inp:=s.inp++A}):=ζ (giveM_not s A (fun q=>h6 q.1));clear hm h6;go_wp2_with fail
  first|go_end0|((try simp only[Exit.inBlock,Exit.then]);refine xre ?_)
  rw[hgm.out];exact⟨rfl,hM.out,hBn.out⟩
theorem give_some (B:Nat)(W:World)(b:Nat)(P:Pr)(s:Fm)(l:List Ob)(A:List Int)(b2 o2 vc:Nat)(h:MIn B W b P s l)(hA:WAtG W b2 o2 A)(hl:s.inp.length+A.length≤3000000):
 Calls Tryz.prog 59 #[.pointer (some ⟨b,0,none⟩),.slice (some ⟨b2,o2,none⟩) A.length vc] W fun x w'=>x=.returned (.tuple #[])∧MIn B w' b P (giveM s A) l∧Below B W w':=
 give_core B W b P s l A _ _ vc h (fun v hv ty=>run_append_iv W v s.inp A hv b2 o2 vc hA hl ty)
def LfIn (B:Nat)(w:World)(la:Option Addr)(lc:Nat)(Lf:List Int):Prop:=Lf.length≤lc∧((la=none∧lc=0)∨∃b off,la=some ⟨b,off,none⟩∧b<B∧b<w.heap.size∧∀i (h:i<Lf.length),w.cell? ⟨b,off+i,none⟩=some (.int .u64 Lf[i]))
theorem LfIn.below {B:Nat}{w W:World}{la:Option Addr}{lc:Nat}{Lf:List Int}(h:LfIn B w la lc Lf)(q:Below B w W):LfIn B W la lc Lf:=by
 obtain⟨h1,h2⟩:=h;refine⟨h1,?_⟩;rcases h2 with h2|⟨b,off,e,h3,h4,h5⟩
 ·exact .inl h2
 ·exact .inr ⟨b,off,e,h3,Nat.lt_of_lt_of_le h4 q.size,fun i hi=>(T.cell_of_block (q.block b h3) _).trans (h5 i hi)⟩
theorem LfIn.of {w:World}{ia:Option Addr}{ic:Nat}{L:List Int}(h:InL w ia ic L)(hc:∀a,ia=some a→L.length≤ic)(B:Nat)(hB:w.heap.size≤B):LfIn B w ia ic L:=by
 rcases h with⟨rfl,rfl,rfl⟩|⟨b,off,rfl,h3,h4⟩
 ·exact⟨Nat.le_refl _,.inl ⟨rfl,rfl⟩⟩
 ·exact⟨hc _ rfl,.inr ⟨b,off,rfl,by omega,h3,h4⟩⟩
theorem inp_step (P:Pr)(s:Fm):(stepsM P s 1).inp.length≤s.inp.length:=by
 by_cases he:s.e=0
 ·rw[step_one P s he];unfold stepM
  split
  ·rename_i i hc
   by_cases hi:i.op=29
   ·rw[in_step P i s hi];unfold stp29
    split
    ·exact Nat.le_refl _
    ·rename_i hq
     rw[hq];exact Nat.le_succ _
   ·rw[(noin_all P i s hi).2.1];exact Nat.le_refl _
  ·exact Nat.le_refl _
 ·rw[stepsM_end P s 1 he];exact Nat.le_refl _
section
variable (B:Nat) (W:World) (b:Nat) (P:Pr) (s:Fm) (I:List Int) (l:List Ob)
end
structure Dc where
 ca:Option Addr
 ga:Option Addr
 cc:Nat
 gc:Nat
 pm:Value
structure Dq where
 sv:Value
 mv:Value
 iv:Value
 ov_:Value
 tv:Value
def dxOf (c:Dc)(P:Pr)(s:Fm)(q:Dq)(og op:Nat):Dx:=⟨.slice c.ca P.code.length c.cc,.slice c.ga P.gates.length c.gc,c.pm,P.dep,s.g,s.p,s.r,q.sv,q.mv,q.iv,q.ov_,q.tv,s.e,s.v,s.f,og,op⟩
def mV (m:Nat→UInt8):List Value:=(List.range 65536).map fun i=>Value.int .u8 (m i).toNat
def dobs (B b:Nat)(c:Dc)(P:Pr)(s:Fm)(q:Dq)(og op:Nat):List Ob:=[dbOb b (dxOf c P s q og op),rowOb B 144 18 q.sv s.st.length (s.st.flatMap Fr.vals),rowOb B 5 1 q.mv 65536 (mV s.m),ouOb B q.ov_ s.out,tcOb B q.tv s.tc]
def giOb (B:Nat)(iv:Value)(L:List Int):Ob:=⟨fun k=>B≤k∧∃off n c,iv=.slice (some ⟨k,off,none⟩) n c,fun W=>∀k off n c,iv=.slice (some ⟨k,off,none⟩) n c→B≤k→k<W.heap.size∧∀i (h:i<L.length),W.cell? ⟨k,off+i,none⟩=some (.int .u64 L[i]),fun _ h k q=>by
 obtain⟨hB,off,n,c,e⟩:=q;exact(h k off n c e hB).1,fun _ _ _ h hk hd k off n c e hB=>⟨Nat.lt_of_lt_of_le (h k off n c e hB).1 hk.size,fun i hi=>(T.cell_of_block (hk.block k (h k off n c e hB).1 (hd k ⟨hB,off,n,c,e⟩)) _).trans ((h k off n c e hB).2 i hi)⟩⟩
def LgIn (B:Nat)(w:World)(la:Option Addr)(lc:Nat)(Lf:List Int):Prop:=Lf.length≤lc∧((la=none∧lc=0)∨∃b off,la=some ⟨b,off,none⟩∧(b<B→b<w.heap.size∧∀i (h:i<Lf.length),w.cell? ⟨b,off+i,none⟩=some (.int .u64 Lf[i])))
theorem LgIn.below {B:Nat}{w W:World}{la:Option Addr}{lc:Nat}{Lf:List Int}(h:LgIn B w la lc Lf)(q:Below B w W):LgIn B W la lc Lf:=by
 obtain⟨h1,h2⟩:=h;refine⟨h1,?_⟩;rcases h2 with h2|⟨b,off,e,h3⟩
 ·exact .inl h2
 ·exact .inr ⟨b,off,e,fun hb=>⟨Nat.lt_of_lt_of_le (h3 hb).1 q.size,fun i hi=>(T.cell_of_block (q.block b hb) _).trans ((h3 hb).2 i hi)⟩⟩
theorem LgIn.of {B:Nat}{w:World}{la:Option Addr}{lc:Nat}{Lf:List Int}(h:LfIn B w la lc Lf):LgIn B w la lc Lf:=by
 obtain⟨h1,h2⟩:=h;refine⟨h1,?_⟩;rcases h2 with h2|⟨b,off,e,_,h4,h5⟩
 ·exact .inl h2
 ·exact .inr ⟨b,off,e,fun _=>⟨h4,h5⟩⟩
theorem gi_low {B:Nat}{W:World}{l:List Ob}(h:Sep B W l){iv:Value}{L:List Int}(hi:∀k off n c,iv=.slice (some ⟨k,off,none⟩) n c→k<B):Sep B W (giOb B iv L::l):=by
 refine⟨fun o ho=>?_,List.pairwise_cons.2 ⟨fun p hp k q _=>?_,h.dis⟩,fun o ho k q=>?_⟩
 ·rcases List.mem_cons.1 ho with rfl|r
  ·exact fun k off n c e hB=>absurd (hi k off n c e) (by omega)
  ·exact h.ins o r
 ·obtain⟨hB,off,n,c,e⟩:=q;have:=hi k off n c e;omega
 ·rcases List.mem_cons.1 ho with rfl|r
  ·exact q.1
  ·exact h.ge o r k q
theorem LfIn.lows {B:Nat}{w:World}{la:Option Addr}{lc:Nat}{Lf:List Int}(h:LfIn B w la lc Lf)(n0:Nat):∀k off n c,Value.slice la n0 lc=.slice (some ⟨k,off,none⟩) n c→k<B:=by
 intro k off n c e;injection e with e1 e2 e3
 rcases h.2 with⟨h2,_⟩|⟨b,off2,e4,h3,_⟩
 ·rw[h2]at e1
  cases e1
 ·rw[e4]at e1;injection e1 with e1
  injection e1 with e1
  omega
def DIo (B:Nat)(W:World)(b:Nat)(c:Dc)(P:Pr)(s:Fm)(og op:Nat)(l:List Ob):Prop:=(∃q,Sep B W (dobs B b c P s q og op++giOb B q.iv s.inp::l)∧∃ia ic,q.iv=.slice ia s.inp.length ic∧LgIn B W ia ic s.inp)∧B≤W.heap.size
section
variable {B:Nat} {W W':World} {b:Nat} {c:Dc} {P:Pr} {s s':Fm} {og op og' op':Nat} {l:List Ob}
theorem DIo.le (h:DIo B W b c P s og op l):B≤W.heap.size:=h.2
theorem DIo.gr (h:DIo B W b c P s og op l)(hb:Below W.heap.size W W'):DIo B W' b c P s og op l:=by
 obtain⟨⟨q,h1,ia,ic,e,h2⟩,le⟩:=h;exact⟨⟨q,h1.gr hb,ia,ic,e,h2.below (hb.mono le)⟩,Nat.le_trans le hb.size⟩
theorem DIo.box (h:DIo B W b c P s og op l):∃q,DBx W b (dxOf c P s q og op):=by
 obtain⟨⟨q,h1,_⟩,_⟩:=h;exact⟨q,h1.ins (dbOb b (dxOf c P s q og op)) (by simp[dobs])⟩
theorem DIo.onBox (h:DIo B W b c P s og op l)(hs:s'.st=s.st∧s'.m=s.m∧s'.inp=s.inp∧s'.out=s.out∧s'.tc=s.tc){f:Nat}{args:Array Value}{r:Ending}(hc:∀q,DBx W b (dxOf c P s q og op)→Calls Tryz.prog f args W fun x w'=>x=r∧DB1 b (dxOf c P s' q og' op') W w'):
 Calls Tryz.prog f args W fun x w'=>x=r∧DIo B w' b c P s' og' op' l∧Below B W w':=by
 obtain⟨⟨q,h1,ia,ic,e,h2⟩,le⟩:=h;obtain⟨e1,e2,e3,e4,e5⟩:=hs;refine(hc q (h1.ins (dbOb b (dxOf c P s q og op)) (by simp[dobs]))).mono ?_;rintro x w' ⟨rfl,hB,hk⟩;have h3:=sep_change (l1:=[]) (o:=dbOb b (dxOf c P s q og op)) (o':=dbOb b (dxOf c P s' q og' op')) h1 hB hk (fun _ r=>.inl r) le;have hb:=sep_below (l1:=[]) (o:=dbOb b (dxOf c P s q og op)) h1 hk le;refine⟨rfl,⟨⟨q,?_,ia,ic,by rw[e3];exact e,by rw[e3];exact h2.below hb⟩,Nat.le_trans le hk.size⟩,hb⟩;unfold dobs;rw[e1,e2,e3,e4,e5];exact h3
end
theorem dnumbers_any (P:Pr)(i:Fi)(s:Fm)(n:Nat)(hs:s.Ok P)(ho:i.Ok n P.gates.length)(hop:i.op<20)(B:Nat)(W:World)(b:Nat)(c:Dc)(og op:Nat)(l:List Ob)(h:DIo B W b c P s og op l):
 Calls Tryz.prog 54 #[.pointer (some ⟨b,0,none⟩),.agg #[.int .u8 i.op,.int .i64 i.a,.int .i64 i.b,.int .i64 i.c,.int .u64 i.i]] W fun x w'=>x=.returned (.tuple #[])∧DIo B w' b c P (stepI P i s) og op l∧Below B W w':=by
 have ia:=ho.a;have ib:=ho.b;have hp:s.p≤1000000:=Nat.le_trans hs.p (by omega);have hc:i.c<16:=by have:=ho.c;omega
 have hn:i.op=0∨i.op=1∨i.op=2∨i.op=3∨i.op=4∨i.op=5∨i.op=6∨i.op=7∨i.op=8∨i.op=9∨i.op=10∨i.op=11∨i.op=12∨i.op=13:=by have:=ho.op;unfold Named at this;omega
 rcases hn with e|e|e|e|e|e|e|e|e|e|e|e|e|e
 all_goals rw[e]
 ·rw[show stepI P i s=stp0 s by unfold stepI;rw[e];rfl];exact h.onBox (s':=stp0 s) ⟨rfl,rfl,rfl,rfl,rfl⟩ (fun q hb=>dnum0 b _ i.a i.b i.c i.i W hb ib hp)
 ·rw[show stepI P i s=stp1 i s by unfold stepI;rw[e];rfl];exact h.onBox (s':=stp1 i s) ⟨rfl,rfl,rfl,rfl,rfl⟩ (fun q hb=>dnum1 b _ i.a i.b i.c i.i W hb ia ib hp)
 ·rw[show stepI P i s=stp2 i s by unfold stepI;rw[e];rfl];exact h.onBox (s':=stp2 i s) ⟨rfl,rfl,rfl,rfl,rfl⟩ (fun q hb=>dnum2 b _ i.a i.b i.c i.i W hb ia ib hp)
 ·rw[show stepI P i s=stp3 i s by unfold stepI;rw[e];rfl];exact h.onBox (s':=stp3 i s) ⟨rfl,rfl,rfl,rfl,rfl⟩ (fun q hb=>dnum3 b _ i.a i.b i.c i.i W hb ia hc ib hp)
 ·rw[show stepI P i s=stp4 i s by unfold stepI;rw[e];rfl];exact h.onBox (s':=stp4 i s) ⟨rfl,rfl,rfl,rfl,rfl⟩ (fun q hb=>dnum4 b _ i.a i.b i.c i.i W hb ia hc ib hp)
 ·rw[show stepI P i s=stp5 i s by unfold stepI;rw[e];rfl];exact h.onBox (s':=stp5 i s) ⟨rfl,rfl,rfl,rfl,rfl⟩ (fun q hb=>dnum5 b _ i.a i.b i.c i.i W hb ia hc ib hp)
 ·rw[show stepI P i s=stp6 i s by unfold stepI;rw[e];rfl];exact h.onBox (s':=stp6 i s) ⟨rfl,rfl,rfl,rfl,rfl⟩ (fun q hb=>dnum6 b _ i.a i.b i.c i.i W hb ia hc ib hp)
 ·rw[show stepI P i s=stp7 i s by unfold stepI;rw[e];rfl];exact h.onBox (s':=stp7 i s) ⟨rfl,rfl,rfl,rfl,rfl⟩ (fun q hb=>dnum7 b _ i.a i.b i.c i.i W hb ia hc ib hp)
 ·rw[show stepI P i s=stp8 i s by unfold stepI;rw[e];rfl];exact h.onBox (s':=stp8 i s) ⟨rfl,rfl,rfl,rfl,rfl⟩ (fun q hb=>dnum8 b _ i.a i.b i.c i.i W hb ia hc ib hp)
 ·rw[show stepI P i s=stp9 i s by unfold stepI;rw[e];rfl];exact h.onBox (s':=stp9 i s) ⟨rfl,rfl,rfl,rfl,rfl⟩ (fun q hb=>dnum9 b _ i.a i.b i.c i.i W hb ia hc (hs.r i.c).1 ib hp)
 ·rw[show stepI P i s=stp10 i s by unfold stepI;rw[e];rfl];exact h.onBox (s':=stp10 i s) ⟨rfl,rfl,rfl,rfl,rfl⟩ (fun q hb=>dnum10 b _ i.a i.b i.c i.i W hb ia hc (hs.r i.c).1 ib hp)
 ·rw[show stepI P i s=stp11 i s by unfold stepI;rw[e];rfl];exact h.onBox (s':=stp11 i s) ⟨rfl,rfl,rfl,rfl,rfl⟩ (fun q hb=>dnum11 b _ i.a i.b i.c i.i W hb ia ib hp)
 ·rw[show stepI P i s=stp12 i s by unfold stepI;rw[e];rfl];exact h.onBox (s':=stp12 i s) ⟨rfl,rfl,rfl,rfl,rfl⟩ (fun q hb=>dnum12 b _ i.a i.b i.c i.i W hb ia hc ib hp)
 ·rw[show stepI P i s=stp13 i s by unfold stepI;rw[e];rfl];exact h.onBox (s':=stp13 i s) ⟨rfl,rfl,rfl,rfl,rfl⟩ (fun q hb=>dnum13 b _ i.a i.b i.c i.i W hb ia hc ib hp)
end Z
end Go.Proofs.YtdidjhillmgccaaGreat
