import Derived.Test.YtkhbiaaangnkdaaGreatDoorJ22
import Derived.Test.YtkhbiaaangnkdaaGreatDoorJ23
import Derived.Test.YtkhbiaaangnkdaaGreatDoorJ31
import Derived.Recover
import Derived.Defers
import Derived.Test.YtkhbiaaangnkdaaGreatDoorJ02
import Derived.RegionDies
import Derived.Deep.RegionHeld3
import Derived.Test.YtkhbiaaangnkdaaGreatDoorJ07
import Derived.OrdersHeld
namespace Go.Proofs.YtkhbiaaangnkdaaGreatDoor
namespace T
open Go.RowKit
end T
set_option maxRecDepth 100000
set_option maxHeartbeats 40000000
namespace T
open Go.RowKit
def ofI (x:Int):Vl:=⟨false,x.toNat,Cp.zero⟩
theorem ofI_agg (x:Int)(h:0≤x):(ofI x).agg=.agg #[.bool false,.int .u64 x,.int .u64 0,.int .u64 0,.int .u64 0,.int .u8 0,.int .i64 0]:=by
 have:((x.toNat:Nat):Int)=x:=by omega
 simp[ofI,Vl.agg,Cp.zero,this]
def toldI (b:Bool):Int:=if b then 1 else 0
def twoI (op b c:Int):Int:=
 if op=3 then IntKind.u64.wrap (b+c)else if op=4 then IntKind.u64.wrap (b - c)else if op=5 then IntKind.u64.wrap (b*c)else if op=6 then bits .and .u64 b c
 else if op=7 then bits .or .u64 b c else if op=8 then bits .xor .u64 b c else if op=9 then IntKind.u64.wrap (b*2^(c%64).toNat)else if op=10 then b/2^(c%64).toNat
 else if op=12 then toldI (decide (b<c))else toldI (b==c)
theorem twoI_nonneg (op b c:Int)(hb:0≤b):0≤twoI op b c:=by
 unfold twoI toldI
 repeat' split
 all_goals first
  |exact wrap_u64_nonneg _
  |exact bits_lo_u64 _ _ _
  |exact Int.ediv_nonneg hb (Int.le_of_lt (Int.pow_pos (by omega)))
  |omega
theorem integer_any (n:Int)(w:World):Calls Tryz.prog 65 #[.int .u64 n] w fun x w'=>x=.returned (.agg #[.bool false,.int .u64 n,.int .u64 0,.int .u64 0,.int .u64 0,.int .u8 0,.int .i64 0])∧w'=w.alloc (.cells #[.bool false,.int .u64 n,.int .u64 0,.int .u64 0,.int .u64 0,.int .u8 0,.int .i64 0] 75):=by
 go_enter Tryz.func65,Tryz.ntmps65;go_wp2_with fail;simp[bodyPost,results,Tryz.results65,go_sem]
theorem capability_any (b e c p s:Int)(w:World):Calls Tryz.prog 64 #[.agg #[.int .u64 b,.int .u64 e,.int .u64 c,.int .u8 p,.int .i64 s]] w fun x w'=>x=.returned (.agg #[.bool true,.int .u64 0,.int .u64 b,.int .u64 e,.int .u64 c,.int .u8 p,.int .i64 s])∧w'=(w.alloc (.cells #[.int .u64 b,.int .u64 e,.int .u64 c,.int .u8 p,.int .i64 s] 73)).alloc (.cells #[.bool true,.int .u64 0,.int .u64 b,.int .u64 e,.int .u64 c,.int .u8 p,.int .i64 s] 75):=by
 go_enter Tryz.func64,Tryz.ntmps64;go_wp2_with fail;simp[bodyPost,results,Tryz.results64,go_sem]
theorem told_any (b:Bool)(w:World):Calls Tryz.prog 109 #[.bool b] w fun x w'=>x=.returned (.int .u64 (toldI b))∧w'=w:=by
 cases b
 all_goals
  go_enter Tryz.func109,Tryz.ntmps109;go_wp2_with fail;go_ret;exact⟨rfl,rfl⟩
theorem ofTwo_any (op b c:Int)(w:World)(hop:op=3∨op=4∨op=5∨op=6∨op=7∨op=8∨op=9∨op=10∨op=12∨op=13)(hc:0≤c∧c<18446744073709551616):
 Calls Tryz.prog 99 #[.int .u8 op,.int .u64 b,.int .u64 c] w fun x w'=>x=.returned (.int .u64 (twoI op b c))∧w'=w:=by
 have hT:=told_any;rcases hop with rfl|rfl|rfl|rfl|rfl|rfl|rfl|rfl|rfl|rfl
 all_goals
  go_enter Tryz.func99,Tryz.ntmps99;go_wp2_with(refine(hT _ _).mono ?_;rintro x w1 ⟨rfl,rfl⟩);go_ret;exact⟨rfl,rfl⟩
end T
namespace C
open Go.RowKit
open T (Sep Ob Kp Mf TgIn boxOb Fm Tc Ed Vl Cp Bx tgOb mRow updV flt twoI ofI ofI_agg twoI_nonneg integer_any ofTwo_any)
def Rv:Except Ed Vl→Ending
 |.ok v=>.returned v.agg
 |.error e=>pan e
def insA (op:Int)(A B C:Nat)(m:Int):Value:=.agg #[.int .u8 op,.int .i64 A,.int .i64 B,.int .i64 C,.int .i64 m]
def twoR (op:Int)(v u:Vl):Except Ed Vl:=if v.g then .error (flt 2)else if u.g then .error (flt 2)else .ok (ofI (twoI op v.n u.n))
theorem results_row {fn:Func}{p:Tmp}{ty:TypeId}{v:Value}{a:Addr}(h:fn.results=#[.cell p ty])(tmps:Array Value)(w:World)(ht:tmps.getD p undef=.pointer (some a))(hl:(loadVar ty a).run Tryz.prog w=.ok v w):
 (results fn tmps).run Tryz.prog w=.ok v w:=by
 have ht':tmps[p]?.getD undef=.pointer (some a):=by simpa using ht
 simp[results,h,ht',asAddr,hl]
theorem reckoned_b (a:Nat)(op:Int)(A B C:Nat)(m:Int)(v u:Vl)(w:World)(hv:RgAt w a B v)(_hu:RgAt w a C u)(_hn:u.n<18446744073709551616)(hop:op=3∨op=4∨op=5∨op=6∨op=7∨op=8∨op=9∨op=10∨op=12∨op=13)(hg:v.g=true):
 Calls Tryz.prog 67 #[.pointer (some ⟨a,0,none⟩),insA op A B C m] w fun x w'=>x=Rv (twoR op v u)∧Gr w w':=by
 unfold insA;have q0:=ζ (⟨(At.new w #[.int .u8 op,.int .i64 A,.int .i64 B,.int .i64 C,.int .i64 m] 29).alloc (.cells (List.toArray [Value.bool false,.int .u64 0,.int .u64 0,.int .u64 0,.int .u64 0,.int .u8 0,.int .i64 0]) 75),At.new (w.alloc (.cells #[.int .u8 op,.int .i64 A,.int .i64 B,.int .i64 C,.int .i64 m] 29)) (List.toArray [Value.bool false,.int .u64 0,.int .u64 0,.int .u64 0,.int .u64 0,.int .u8 0,.int .i64 0]) 75,(Gr.refl (w.alloc (.cells #[.int .u8 op,.int .i64 A,.int .i64 B,.int .i64 C,.int .i64 m] 29))).alloc (.cells (List.toArray [Value.bool false,.int .u64 0,.int .u64 0,.int .u64 0,.int .u64 0,.int .u8 0,.int .i64 0]) 75)⟩:At ((w.alloc (.cells #[.int .u8 op,.int .i64 A,.int .i64 B,.int .i64 C,.int .i64 m] 29)).alloc (.cells (List.toArray [Value.bool false,.int .u64 0,.int .u64 0,.int .u64 0,.int .u64 0,.int .u8 0,.int .i64 0]) 75)) w.heap.size #[.int .u8 op,.int .i64 A,.int .i64 B,.int .i64 C,.int .i64 m]∧At ((w.alloc (.cells #[.int .u8 op,.int .i64 A,.int .i64 B,.int .i64 C,.int .i64 m] 29)).alloc (.cells (List.toArray [Value.bool false,.int .u64 0,.int .u64 0,.int .u64 0,.int .u64 0,.int .u8 0,.int .i64 0]) 75)) (w.alloc (.cells #[.int .u8 op,.int .i64 A,.int .i64 B,.int .i64 C,.int .i64 m] 29)).heap.size (List.toArray [Value.bool false,.int .u64 0,.int .u64 0,.int .u64 0,.int .u64 0,.int .u8 0,.int .i64 0])∧Gr (w.alloc (.cells #[.int .u8 op,.int .i64 A,.int .i64 B,.int .i64 C,.int .i64 m] 29)) ((w.alloc (.cells #[.int .u8 op,.int .i64 A,.int .i64 B,.int .i64 C,.int .i64 m] 29)).alloc (.cells (List.toArray [Value.bool false,.int .u64 0,.int .u64 0,.int .u64 0,.int .u64 0,.int .u8 0,.int .i64 0]) 75)))
 have KS:Hz (∀X,Gr (w.alloc (.cells #[.int .u8 op,.int .i64 A,.int .i64 B,.int .i64 C,.int .i64 m] 29)) X→X.cell? ⟨w.heap.size,0,none⟩=some (.int .u8 op)∧X.cell? ⟨w.heap.size,2,none⟩=some (.int .i64 B)∧X.cell? ⟨w.heap.size,3,none⟩=some (.int .i64 C)∧X.cell? ⟨w.heap.size,4,none⟩=some (.int .i64 m)):=ζ (fun X g=>have q:=(At.new w #[.int .u8 op,.int .i64 A,.int .i64 B,.int .i64 C,.int .i64 m] 29).gr g;⟨q.2.1 0,q.2.1 2,q.2.1 3,q.2.1 4⟩);have hw0:Hz (Gr w (w.alloc (.cells #[.int .u8 op,.int .i64 A,.int .i64 B,.int .i64 C,.int .i64 m] 29))):=ζ ((Gr.refl w).alloc _);have o1:(op==1)=false:=by simpa using(by omega:¬op=1)
 have o2:(op==2)=false:=by simpa using(by omega:¬op=2)
 have o3:(op==11)=false:=by simpa using(by omega:¬op=11)
 have er:twoR op v u=.error (flt 2):=by unfold twoR;rw[hg];rfl
 rw[er];clear er;have hM1:=ζ (fun X g=>number_bad a B v X (hv.gr g) hg);unfold pan at hM1;simp only[Rv,pan];clear hv hop;go_enter Tryz.func67,Tryz.ntmps67;go_upto_region 8 with fail
 have hsz:(w.alloc (.cells #[.int .u8 op,.int .i64 A,.int .i64 B,.int .i64 C,.int .i64 m] 29)).heap.size=w.heap.size+1:=by simp
 refine wp_world (fun W=>At W (w.heap.size+1) (List.toArray [Value.bool false,.int .u64 0,.int .u64 0,.int .u64 0,.int .u64 0,.int .u8 0,.int .i64 0])∧Gr (w.alloc (.cells #[.int .u8 op,.int .i64 A,.int .i64 B,.int .i64 C,.int .i64 m] 29)) W) ⟨by rw[←hsz];exact q0.out.2.1,q0.out.2.2⟩ ?_;clear q0;have hk1:Hz ((w.alloc (.cells #[.int .u8 op,.int .i64 A,.int .i64 B,.int .i64 C,.int .i64 m] 29)).heap.size≤w.heap.size+1):=ζ (Nat.le_of_eq hsz);clear hsz;rintro W ⟨A0,g0⟩;generalize w.alloc (.cells #[.int .u8 op,.int .i64 A,.int .i64 B,.int .i64 C,.int .i64 m] 29)=V0 at*;generalize w.heap.size+1=kr at*;generalize w.heap.size=kb at*;replace A0:=ζ (A0.gr (Gr.refl W).drew);replace g0:Gr V0 W.drew:=g0.drew;refine wp_region_held_drew (S:=(fun X=>X.cell? ⟨kb,0,none⟩=some (.int .u8 op)∧X.cell? ⟨kb,2,none⟩=some (.int .i64 B)∧X.cell? ⟨kb,3,none⟩=some (.int .i64 C)∧X.cell? ⟨kb,4,none⟩=some (.int .i64 m))) (by kernel_rfl) (KS.out _ g0) (fun hHeld=>?_)
 refine xz 0 rfl (h:=xz 1 rfl (h:=xz 2 rfl (h:=xz 3 rfl (h:=xz 4 rfl (h:=xz 6 rfl (h:=xz 7 rfl (h:=xz 8 rfl (h:=?_))))))));try simp only[xap]
 refine xrd 5 rfl (fun K hK=>?_);go_simp;go_wp2_with(refine(hM1.out _ (hw0.out.trans g0)).mono ?_;rintro r X1 ⟨rfl,e1⟩;(try unfold pan));exact⟨rfl,rfl,(hw0.out.trans g0).trans e1⟩
theorem reckoned_c (a:Nat)(op:Int)(A B C:Nat)(m:Int)(v u:Vl)(w:World)(hv:RgAt w a B v)(hu:RgAt w a C u)(_hn:u.n<18446744073709551616)(hop:op=3∨op=4∨op=5∨op=6∨op=7∨op=8∨op=9∨op=10∨op=12∨op=13)(hg:v.g=false)(hg2:u.g=true):
 Calls Tryz.prog 67 #[.pointer (some ⟨a,0,none⟩),insA op A B C m] w fun x w'=>x=Rv (twoR op v u)∧Gr w w':=by
 unfold insA;have q0:=ζ (⟨(At.new w #[.int .u8 op,.int .i64 A,.int .i64 B,.int .i64 C,.int .i64 m] 29).alloc (.cells (List.toArray [Value.bool false,.int .u64 0,.int .u64 0,.int .u64 0,.int .u64 0,.int .u8 0,.int .i64 0]) 75),At.new (w.alloc (.cells #[.int .u8 op,.int .i64 A,.int .i64 B,.int .i64 C,.int .i64 m] 29)) (List.toArray [Value.bool false,.int .u64 0,.int .u64 0,.int .u64 0,.int .u64 0,.int .u8 0,.int .i64 0]) 75,(Gr.refl (w.alloc (.cells #[.int .u8 op,.int .i64 A,.int .i64 B,.int .i64 C,.int .i64 m] 29))).alloc (.cells (List.toArray [Value.bool false,.int .u64 0,.int .u64 0,.int .u64 0,.int .u64 0,.int .u8 0,.int .i64 0]) 75)⟩:At ((w.alloc (.cells #[.int .u8 op,.int .i64 A,.int .i64 B,.int .i64 C,.int .i64 m] 29)).alloc (.cells (List.toArray [Value.bool false,.int .u64 0,.int .u64 0,.int .u64 0,.int .u64 0,.int .u8 0,.int .i64 0]) 75)) w.heap.size #[.int .u8 op,.int .i64 A,.int .i64 B,.int .i64 C,.int .i64 m]∧At ((w.alloc (.cells #[.int .u8 op,.int .i64 A,.int .i64 B,.int .i64 C,.int .i64 m] 29)).alloc (.cells (List.toArray [Value.bool false,.int .u64 0,.int .u64 0,.int .u64 0,.int .u64 0,.int .u8 0,.int .i64 0]) 75)) (w.alloc (.cells #[.int .u8 op,.int .i64 A,.int .i64 B,.int .i64 C,.int .i64 m] 29)).heap.size (List.toArray [Value.bool false,.int .u64 0,.int .u64 0,.int .u64 0,.int .u64 0,.int .u8 0,.int .i64 0])∧Gr (w.alloc (.cells #[.int .u8 op,.int .i64 A,.int .i64 B,.int .i64 C,.int .i64 m] 29)) ((w.alloc (.cells #[.int .u8 op,.int .i64 A,.int .i64 B,.int .i64 C,.int .i64 m] 29)).alloc (.cells (List.toArray [Value.bool false,.int .u64 0,.int .u64 0,.int .u64 0,.int .u64 0,.int .u8 0,.int .i64 0]) 75)))
 have KS:Hz (∀X,Gr (w.alloc (.cells #[.int .u8 op,.int .i64 A,.int .i64 B,.int .i64 C,.int .i64 m] 29)) X→X.cell? ⟨w.heap.size,0,none⟩=some (.int .u8 op)∧X.cell? ⟨w.heap.size,2,none⟩=some (.int .i64 B)∧X.cell? ⟨w.heap.size,3,none⟩=some (.int .i64 C)∧X.cell? ⟨w.heap.size,4,none⟩=some (.int .i64 m)):=ζ (fun X g=>have q:=(At.new w #[.int .u8 op,.int .i64 A,.int .i64 B,.int .i64 C,.int .i64 m] 29).gr g;⟨q.2.1 0,q.2.1 2,q.2.1 3,q.2.1 4⟩);have hw0:Hz (Gr w (w.alloc (.cells #[.int .u8 op,.int .i64 A,.int .i64 B,.int .i64 C,.int .i64 m] 29))):=ζ ((Gr.refl w).alloc _);have o1:(op==1)=false:=by simpa using(by omega:¬op=1)
 have o2:(op==2)=false:=by simpa using(by omega:¬op=2)
 have o3:(op==11)=false:=by simpa using(by omega:¬op=11)
 have er:twoR op v u=.error (flt 2):=by unfold twoR;rw[hg,hg2];rfl
 rw[er];clear er;have hN1:=ζ (fun X g=>number_ok a B v X (hv.gr g) hg);have hM2:=ζ (fun X g=>number_bad a C u X (hu.gr g) hg2);unfold pan at hM2;simp only[Rv,pan];clear hv hu hop;go_enter Tryz.func67,Tryz.ntmps67;go_upto_region 8 with fail
 have hsz:(w.alloc (.cells #[.int .u8 op,.int .i64 A,.int .i64 B,.int .i64 C,.int .i64 m] 29)).heap.size=w.heap.size+1:=by simp
 refine wp_world (fun W=>At W (w.heap.size+1) (List.toArray [Value.bool false,.int .u64 0,.int .u64 0,.int .u64 0,.int .u64 0,.int .u8 0,.int .i64 0])∧Gr (w.alloc (.cells #[.int .u8 op,.int .i64 A,.int .i64 B,.int .i64 C,.int .i64 m] 29)) W) ⟨by rw[←hsz];exact q0.out.2.1,q0.out.2.2⟩ ?_;clear q0;have hk1:Hz ((w.alloc (.cells #[.int .u8 op,.int .i64 A,.int .i64 B,.int .i64 C,.int .i64 m] 29)).heap.size≤w.heap.size+1):=ζ (Nat.le_of_eq hsz);clear hsz;rintro W ⟨A0,g0⟩;generalize w.alloc (.cells #[.int .u8 op,.int .i64 A,.int .i64 B,.int .i64 C,.int .i64 m] 29)=V0 at*;generalize w.heap.size+1=kr at*;generalize w.heap.size=kb at*;replace A0:=ζ (A0.gr (Gr.refl W).drew);replace g0:Gr V0 W.drew:=g0.drew;refine wp_region_held_drew (S:=(fun X=>X.cell? ⟨kb,0,none⟩=some (.int .u8 op)∧X.cell? ⟨kb,2,none⟩=some (.int .i64 B)∧X.cell? ⟨kb,3,none⟩=some (.int .i64 C)∧X.cell? ⟨kb,4,none⟩=some (.int .i64 m))) (by kernel_rfl) (KS.out _ g0) (fun hHeld=>?_)
 refine xz 0 rfl (h:=xz 1 rfl (h:=xz 2 rfl (h:=xz 3 rfl (h:=xz 4 rfl (h:=xz 6 rfl (h:=xz 7 rfl (h:=xz 8 rfl (h:=?_))))))));try simp only[xap]
 refine xrd 5 rfl (fun K hK=>?_);go_simp;go_wp2_with(refine(hN1.out _ (hw0.out.trans g0)).mono ?_;rintro r X1 ⟨rfl,e1⟩;have g1:=g0.trans e1;have A1:=ζ (A0.out.gr e1);clear e1 g0 A0 hHeld);refine hK.out _ _ (KS.out _ g1) (fun hHeld=>?_);clear hK K;try simp only[xap]
 refine xrd 9 rfl (fun K hK=>?_);go_simp;go_wp2_with(refine(hM2.out _ (hw0.out.trans g1)).mono ?_;rintro r X2 ⟨rfl,e2⟩;(try unfold pan));exact⟨rfl,rfl,(hw0.out.trans g1).trans e2⟩
theorem reckoned_ok (a:Nat)(op:Int)(A B C:Nat)(m:Int)(v u:Vl)(w:World)(hv:RgAt w a B v)(hu:RgAt w a C u)(hn:u.n<18446744073709551616)(hop:op=3∨op=4∨op=5∨op=6∨op=7∨op=8∨op=9∨op=10∨op=12∨op=13)(hg:v.g=false)(hg2:u.g=false):
 Calls Tryz.prog 67 #[.pointer (some ⟨a,0,none⟩),insA op A B C m] w fun x w'=>x=Rv (twoR op v u)∧Gr w w':=by
 unfold insA;have q0:=ζ (⟨(At.new w #[.int .u8 op,.int .i64 A,.int .i64 B,.int .i64 C,.int .i64 m] 29).alloc (.cells (List.toArray [Value.bool false,.int .u64 0,.int .u64 0,.int .u64 0,.int .u64 0,.int .u8 0,.int .i64 0]) 75),At.new (w.alloc (.cells #[.int .u8 op,.int .i64 A,.int .i64 B,.int .i64 C,.int .i64 m] 29)) (List.toArray [Value.bool false,.int .u64 0,.int .u64 0,.int .u64 0,.int .u64 0,.int .u8 0,.int .i64 0]) 75,(Gr.refl (w.alloc (.cells #[.int .u8 op,.int .i64 A,.int .i64 B,.int .i64 C,.int .i64 m] 29))).alloc (.cells (List.toArray [Value.bool false,.int .u64 0,.int .u64 0,.int .u64 0,.int .u64 0,.int .u8 0,.int .i64 0]) 75)⟩:At ((w.alloc (.cells #[.int .u8 op,.int .i64 A,.int .i64 B,.int .i64 C,.int .i64 m] 29)).alloc (.cells (List.toArray [Value.bool false,.int .u64 0,.int .u64 0,.int .u64 0,.int .u64 0,.int .u8 0,.int .i64 0]) 75)) w.heap.size #[.int .u8 op,.int .i64 A,.int .i64 B,.int .i64 C,.int .i64 m]∧At ((w.alloc (.cells #[.int .u8 op,.int .i64 A,.int .i64 B,.int .i64 C,.int .i64 m] 29)).alloc (.cells (List.toArray [Value.bool false,.int .u64 0,.int .u64 0,.int .u64 0,.int .u64 0,.int .u8 0,.int .i64 0]) 75)) (w.alloc (.cells #[.int .u8 op,.int .i64 A,.int .i64 B,.int .i64 C,.int .i64 m] 29)).heap.size (List.toArray [Value.bool false,.int .u64 0,.int .u64 0,.int .u64 0,.int .u64 0,.int .u8 0,.int .i64 0])∧Gr (w.alloc (.cells #[.int .u8 op,.int .i64 A,.int .i64 B,.int .i64 C,.int .i64 m] 29)) ((w.alloc (.cells #[.int .u8 op,.int .i64 A,.int .i64 B,.int .i64 C,.int .i64 m] 29)).alloc (.cells (List.toArray [Value.bool false,.int .u64 0,.int .u64 0,.int .u64 0,.int .u64 0,.int .u8 0,.int .i64 0]) 75)))
 have KS:Hz (∀X,Gr (w.alloc (.cells #[.int .u8 op,.int .i64 A,.int .i64 B,.int .i64 C,.int .i64 m] 29)) X→X.cell? ⟨w.heap.size,0,none⟩=some (.int .u8 op)∧X.cell? ⟨w.heap.size,2,none⟩=some (.int .i64 B)∧X.cell? ⟨w.heap.size,3,none⟩=some (.int .i64 C)∧X.cell? ⟨w.heap.size,4,none⟩=some (.int .i64 m)):=ζ (fun X g=>have q:=(At.new w #[.int .u8 op,.int .i64 A,.int .i64 B,.int .i64 C,.int .i64 m] 29).gr g;⟨q.2.1 0,q.2.1 2,q.2.1 3,q.2.1 4⟩);have hw0:Hz (Gr w (w.alloc (.cells #[.int .u8 op,.int .i64 A,.int .i64 B,.int .i64 C,.int .i64 m] 29))):=ζ ((Gr.refl w).alloc _);have o1:(op==1)=false:=by simpa using(by omega:¬op=1)
 have o2:(op==2)=false:=by simpa using(by omega:¬op=2)
 have o3:(op==11)=false:=by simpa using(by omega:¬op=11)
 have er:twoR op v u=.ok (ofI (twoI op v.n u.n)):=by unfold twoR;rw[hg,hg2];rfl
 rw[er];clear er;have hN1:=ζ (fun X g=>number_ok a B v X (hv.gr g) hg);have hN2:=ζ (fun X g=>number_ok a C u X (hu.gr g) hg2);have hn0:=twoI_nonneg op v.n u.n (by omega);have hO:Hz (∀X,Calls Tryz.prog 99 #[.int .u8 op,.int .u64 v.n,.int .u64 u.n] X fun x w'=>x=.returned (.int .u64 (twoI op v.n u.n))∧Gr X w'):=ζ (fun X=>(ofTwo_any op v.n u.n X hop (by omega)).mono (by rintro x w' ⟨rfl,rfl⟩;exact⟨rfl,Gr.refl _⟩));rw[show Rv (.ok (ofI (twoI op v.n u.n)))=.returned (ofI (twoI op v.n u.n)).agg from rfl,ofI_agg _ hn0];generalize twoI op v.n u.n=n at*;have hI:Hz (∀X,Calls Tryz.prog 65 #[.int .u64 n] X fun x w'=>x=.returned (.agg #[.bool false,.int .u64 n,.int .u64 0,.int .u64 0,.int .u64 0,.int .u8 0,.int .i64 0])∧Gr X w'):=ζ (fun X=>(integer_any n X).mono (by rintro x w' ⟨rfl,rfl⟩;exact⟨rfl,(Gr.refl _).alloc _⟩));clear hn0;clear hv hu hn hop;go_enter Tryz.func67,Tryz.ntmps67;go_upto_region 8 with fail
 have hsz:(w.alloc (.cells #[.int .u8 op,.int .i64 A,.int .i64 B,.int .i64 C,.int .i64 m] 29)).heap.size=w.heap.size+1:=by simp
 refine wp_world (fun W=>At W (w.heap.size+1) (List.toArray [Value.bool false,.int .u64 0,.int .u64 0,.int .u64 0,.int .u64 0,.int .u8 0,.int .i64 0])∧Gr (w.alloc (.cells #[.int .u8 op,.int .i64 A,.int .i64 B,.int .i64 C,.int .i64 m] 29)) W) ⟨by rw[←hsz];exact q0.out.2.1,q0.out.2.2⟩ ?_;clear q0;have hk1:Hz ((w.alloc (.cells #[.int .u8 op,.int .i64 A,.int .i64 B,.int .i64 C,.int .i64 m] 29)).heap.size≤w.heap.size+1):=ζ (Nat.le_of_eq hsz);clear hsz;rintro W ⟨A0,g0⟩;generalize w.alloc (.cells #[.int .u8 op,.int .i64 A,.int .i64 B,.int .i64 C,.int .i64 m] 29)=V0 at*;generalize w.heap.size+1=kr at*;generalize w.heap.size=kb at*;replace A0:=ζ (A0.gr (Gr.refl W).drew);replace g0:Gr V0 W.drew:=g0.drew;refine wp_region_held_drew (S:=(fun X=>X.cell? ⟨kb,0,none⟩=some (.int .u8 op)∧X.cell? ⟨kb,2,none⟩=some (.int .i64 B)∧X.cell? ⟨kb,3,none⟩=some (.int .i64 C)∧X.cell? ⟨kb,4,none⟩=some (.int .i64 m))) (by kernel_rfl) (KS.out _ g0) (fun hHeld=>?_)
 refine xz 0 rfl (h:=xz 1 rfl (h:=xz 2 rfl (h:=xz 3 rfl (h:=xz 4 rfl (h:=xz 6 rfl (h:=xz 7 rfl (h:=xz 8 rfl (h:=?_))))))));try simp only[xap]
 refine xrd 5 rfl (fun K hK=>?_);go_simp;go_wp2_with(refine(hN1.out _ (hw0.out.trans g0)).mono ?_;rintro r X1 ⟨rfl,e1⟩;have g1:=g0.trans e1;have A1:=ζ (A0.out.gr e1);clear e1 g0 A0 hHeld);refine hK.out _ _ (KS.out _ g1) (fun hHeld=>?_);clear hK K;try simp only[xap]
 refine xrd 9 rfl (fun K hK=>?_);go_simp;go_wp2_with(refine(hN2.out _ (hw0.out.trans g1)).mono ?_;rintro r X2 ⟨rfl,e2⟩;have g2:=g1.trans e2;have A2:=ζ (A1.out.gr e2);clear e2 g1 A1 hHeld);refine hK.out _ _ (KS.out _ g2) (fun hHeld=>?_);clear hK K;try simp only[xap]
 refine xrd 10 rfl (fun K hK=>?_);go_simp;go_wp2_with(refine(hO.out _).mono ?_;rintro r X3 ⟨rfl,e3⟩;have g3:=g2.trans e3;have A3:=ζ (A2.out.gr e3);clear e3 g2 A2 hHeld);refine hK.out _ _ (KS.out _ g3) (fun hHeld=>?_);clear hK K;try simp only[xap]
 refine xrd 11 rfl (fun K hK=>?_);go_simp;go_wp2_with(refine(hI.out _).mono ?_;rintro r X4 ⟨rfl,e4⟩;have g4:=g3.trans e4;have A4:=ζ (A3.out.gr e4);clear e4 g3 A3 hHeld);refine hK.out _ _ (KS.out _ g4) (fun hHeld=>?_);clear hK K;try simp only[xap]
 refine xrd 12 rfl (fun K hK=>?_);rw[if_pos (by rfl)];refine wp_store_mid _ _ _ rfl _ _ (List.toArray [Value.bool false,.int .u64 n,.int .u64 0,.int .u64 0,.int .u64 0,.int .u8 0,.int .i64 0]) rfl rfl (At.there A4.out 0 7 (by decide)) (by kernel_rfl) (by simp[Value.oneCell']) ?_;refine hK.out _ _ (KS.out _ (g4.setCells kr hk1.out _ _)) (fun hHeld=>?_);clear hK K hHeld;try simp only[Act.put]
 refine xdn ?_ _;have A9:=ζ (At.setAll (cs:=[Value.bool false,.int .u64 0,.int .u64 0,.int .u64 0,.int .u64 0,.int .u8 0,.int .i64 0]) A4.out [Value.bool false,.int .u64 n,.int .u64 0,.int .u64 0,.int .u64 0,.int .u8 0,.int .i64 0] rfl);have g9:=hw0.out.trans (g4.setCells kr hk1.out [Value.bool false,.int .u64 n,.int .u64 0,.int .u64 0,.int .u64 0,.int .u8 0,.int .i64 0] 0);try simp only[Act.put]
 generalize World.setCells _ _ _ _=V9 at*;have hrun:=ζ (run_loadVar_mid (P:=Tryz.prog) V9 kr 0 75 [Value.bool false,.int .u64 n,.int .u64 0,.int .u64 0,.int .u64 0,.int .u8 0,.int .i64 0] _ (fun j v q=>by rw[Nat.zero_add];exact(A9.out.2.1 j).trans (by simpa using q)) Tryz.underlying75 rfl (by kernel_rfl));replace g9:=ζ g9;go_wp2_with fail;refine bodyPost_ret (v:=.agg #[.bool false,.int .u64 n,.int .u64 0,.int .u64 0,.int .u64 0,.int .u8 0,.int .i64 0]) ?_ rfl ⟨rfl,g9.out⟩;exact results_row Tryz.results67 _ _ rfl hrun.out
open T (Sep Ob Kp Mf TgIn boxOb Fm Tc Ed Vl Cp Bx tgOb mRow updV flt holdsB hasB keyF IncR SetB AndP SealR UnsealR)
def Bl (w W:World):Prop:=Below w.heap.size w W
theorem Bl.refl (w:World):Bl w w:=Below.refl _ _
theorem Bl.trans {w W X:World}(h:Bl w W)(g:Bl W X):Bl w X:=Below.trans h (Below.mono g h.size)
theorem Bl.gr {w W:World}(h:Gr w W):Bl w W:=h.below
theorem Bl.drew {w W:World}(h:Bl w W):Bl w W.drew:=Below.drew h
theorem Bl.alloc {w W:World}(h:Bl w W)(o:Obj):Bl w (W.alloc o):=Below.alloc h h.size o
theorem Bl.at_ {w W:World}{k:Nat}{cs:Array Value}(h:Bl w W)(A:At w k cs):At W k cs:=by
 have hb:W.heap[k]?=w.heap[k]?:=h.block k A.1;exact⟨Nat.lt_of_lt_of_le A.1 h.size,fun o=>(T.cell_of_block hb o).trans (A.2.1 o),fun o=>(T.frozen_of_block hb o).trans (A.2.2 o)⟩
theorem Bl.sets {w W:World}(h:Bl w W)(b:Nat)(hb:w.heap.size≤b):∀(vs:List Value) (o:Nat),Bl w (W.setCells b o vs):=fun vs=>by
 induction vs generalizing W with
 |nil=>exact fun _=>h
 |cons v vs ih=>exact fun o=>ih (W:=W.setCell ⟨b,o,none⟩ v) (Below.setCell (p:=⟨b,o,none⟩) h hb v) (o+1)
theorem RgAt.bl {w W:World}{a r:Nat}{v:Vl}(h:RgAt w a r v)(g:Bl w W):RgAt W a r v:=by
 have hb:W.heap[a]?=w.heap[a]?:=g.block a h.lt;exact⟨h.rl,Nat.lt_of_lt_of_le h.lt g.size,(T.cell_of_block hb _).trans h.c0,(T.cell_of_block hb _).trans h.c1,(T.cell_of_block hb _).trans h.c2,(T.cell_of_block hb _).trans h.c3,(T.cell_of_block hb _).trans h.c4,(T.cell_of_block hb _).trans h.c5,(T.cell_of_block hb _).trans h.c6⟩
def incF (k:Cp)(n:Int):Cp×Int:=if k.s=0 then(⟨k.b,k.e,IntKind.u64.wrap (k.c+n),k.p,k.s⟩,0)else(Cp.zero,3)
def setF (k:Cp)(n:Int):Cp×Int:=if k.s=0 then(if holdsB k.b k.e k.c n then(⟨k.c,IntKind.u64.wrap (k.c+n),k.c,k.p,k.s⟩,0)else(Cp.zero,5))else(Cp.zero,3)
def andF (k:Cp)(q:Int):Cp×Int:=if k.s=0 then(⟨k.b,k.e,k.c,bits .and .u8 k.p q,k.s⟩,0)else(Cp.zero,3)
def keyC (y:Cp)(q:Int):Int:=keyF y.b y.e y.c y.p y.s q
def sealF (k y:Cp):Cp×Int:=if k.s=0 then(if keyC y 32=0 then(if y.c<1∨15<y.c then(Cp.zero,6)else(⟨k.b,k.e,k.c,k.p,y.c⟩,0))else(Cp.zero,keyC y 32))else(Cp.zero,3)
def unsF (k y:Cp):Cp×Int:=if k.s=0 then(Cp.zero,3)else if keyC y 64=0 then(if k.s<0∨y.c≠k.s then(Cp.zero,6)else(⟨k.b,k.e,k.c,k.p,0⟩,0))else(Cp.zero,keyC y 64)
theorem cp_eq {b e c p s f b' e' c' p' s' f':Int}(h:b=b'∧e=e'∧c=c'∧p=p'∧s=s'∧f=f'):((⟨b,e,c,p,s⟩:Cp),f)=(⟨b',e',c',p',s'⟩,f'):=by
 obtain⟨rfl,rfl,rfl,rfl,rfl,rfl⟩:=h
 rfl
theorem inc_fn {k:Cp}{n b' e' c' p' s' f:Int}(h:IncR k.b k.e k.c k.p k.s n b' e' c' p' s' f):((⟨b',e',c',p',s'⟩:Cp),f)=incF k n:=by
 unfold incF Cp.zero;rcases h with⟨h0,h⟩|⟨h0,h⟩
 ·rw[if_neg h0];exact cp_eq h
 ·rw[if_pos h0];exact cp_eq h
theorem set_fn {k:Cp}{n b' e' c' p' s' f:Int}(h:SetB k.b k.e k.c k.p k.s n b' e' c' p' s' f):((⟨b',e',c',p',s'⟩:Cp),f)=setF k n:=by
 unfold setF Cp.zero;rcases h with⟨h0,h⟩|⟨h0,h1,h⟩|⟨h0,h1,h⟩
 ·rw[if_neg h0];exact cp_eq h
 ·rw[if_pos h0,h1];exact cp_eq h
 ·rw[if_pos h0,h1];exact cp_eq h
theorem and_fn {k:Cp}{n b' e' c' p' s' f:Int}(h:AndP k.b k.e k.c k.p k.s n b' e' c' p' s' f):((⟨b',e',c',p',s'⟩:Cp),f)=andF k n:=by
 unfold andF Cp.zero;rcases h with⟨h0,h⟩|⟨h0,h⟩
 ·rw[if_neg h0];exact cp_eq h
 ·rw[if_pos h0];exact cp_eq h
theorem seal_fn {k y:Cp}{b' e' c' p' s' f:Int}(h:SealR k.b k.e k.c k.p k.s y.b y.e y.c y.p y.s b' e' c' p' s' f):((⟨b',e',c',p',s'⟩:Cp),f)=sealF k y:=by
 unfold sealF keyC Cp.zero;rcases h with⟨h0,h⟩|⟨h0,h1,h⟩|⟨h0,h1,h2,h⟩|⟨h0,h1,h2,h3,h⟩
 ·rw[if_neg h0];exact cp_eq h
 ·rw[if_pos h0,if_neg h1];exact cp_eq h
 ·rw[if_pos h0,if_pos h1,if_pos h2];exact cp_eq h
 ·rw[if_pos h0,if_pos h1,if_neg (by omega)];exact cp_eq h
theorem uns_fn {k y:Cp}{b' e' c' p' s' f:Int}(h:UnsealR k.b k.e k.c k.p k.s y.b y.e y.c y.p y.s b' e' c' p' s' f):((⟨b',e',c',p',s'⟩:Cp),f)=unsF k y:=by
 unfold unsF keyC Cp.zero;rcases h with⟨h0,h⟩|⟨h0,h1,h⟩|⟨h0,h1,h2,h⟩|⟨h0,h1,h2,h3,h⟩
 ·rw[if_pos h0];exact cp_eq h
 ·rw[if_neg h0,if_neg h1];exact cp_eq h
 ·rw[if_neg h0,if_pos h1,if_pos h2];exact cp_eq h
 ·rw[if_neg h0,if_pos h1,if_neg (by omega)];exact cp_eq h
def CfV (r:Cp×Int):Value:=.tuple #[.agg #[.int .u64 r.1.b,.int .u64 r.1.e,.int .u64 r.1.c,.int .u8 r.1.p,.int .i64 r.1.s],.int .i64 r.2]
theorem cwInc (k:Cp)(n:Int)(w:World):Calls Tryz.prog 142 #[Cp.val k,.int .u64 n] w fun x w'=>x=.returned (CfV (incF k n))∧Bl w w':=by
 refine(T.inc_any k.b k.e k.c k.p k.s n w).mono ?_;rintro x w' ⟨b',e',c',p',s',f,rfl,h,hb⟩;rw[←inc_fn h];exact⟨rfl,hb⟩
theorem cwSet (k:Cp)(n:Int)(w:World):Calls Tryz.prog 143 #[Cp.val k,.int .u64 n] w fun x w'=>x=.returned (CfV (setF k n))∧Bl w w':=by
 refine(T.setBounds_any k.b k.e k.c k.p k.s n w).mono ?_;rintro x w' ⟨b',e',c',p',s',f,rfl,h,hb⟩;rw[←set_fn h];exact⟨rfl,hb⟩
theorem cwAnd (k:Cp)(n:Int)(w:World):Calls Tryz.prog 144 #[Cp.val k,.int .u8 n] w fun x w'=>x=.returned (CfV (andF k n))∧Bl w w':=by
 refine(T.andPerm_any k.b k.e k.c k.p k.s n w).mono ?_;rintro x w' ⟨b',e',c',p',s',f,rfl,h,hb⟩;rw[←and_fn h];exact⟨rfl,hb⟩
theorem cwSeal (k y:Cp)(w:World):Calls Tryz.prog 145 #[Cp.val k,Cp.val y] w fun x w'=>x=.returned (CfV (sealF k y))∧Bl w w':=by
 refine(T.sealBy_any k.b k.e k.c k.p k.s y.b y.e y.c y.p y.s w).mono ?_;rintro x w' ⟨b',e',c',p',s',f,rfl,h,hb⟩;rw[←seal_fn h];exact⟨rfl,hb⟩
theorem cwUns (k y:Cp)(w:World)(hs:k.s<9223372036854775808):Calls Tryz.prog 146 #[Cp.val k,Cp.val y] w fun x w'=>x=.returned (CfV (unsF k y))∧Bl w w':=by
 refine(T.unsealBy_any k.b k.e k.c k.p k.s y.b y.e y.c y.p y.s w hs).mono ?_;rintro x w' ⟨b',e',c',p',s',f,rfl,h,hb⟩;rw[←uns_fn h];exact⟨rfl,hb⟩
end C
end Go.Proofs.YtkhbiaaangnkdaaGreatDoor
