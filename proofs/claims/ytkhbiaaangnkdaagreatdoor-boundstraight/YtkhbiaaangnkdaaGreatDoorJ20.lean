import Derived.Test.YtkhbiaaangnkdaaGreatDoorJTShelf
import Derived.Test.YtkhbiaaangnkdaaGreatDoorJ17
import Derived.Test.YtkhbiaaangnkdaaGreatDoorJ18
namespace Go.Proofs.YtkhbiaaangnkdaaGreatDoor
namespace T
open Go.RowKit
theorem addr_add (k j:Nat):(⟨k,0,none⟩:Addr).add j=⟨k,j,none⟩:=by by_cases h0:j=0<;>simp[Addr.add,h0]
structure TgIn (S:Nat→Prop)(w:World)(a:Nat)(b:Nat→UInt8)(t:Nat→Option Cp):Prop where
 go:∃P C,PgIn P w a b∧CgIn C w a t∧(∀k,P k→¬C k)∧∀k,S k↔k=a∨P k∨C k
theorem TgIn.lt {S:Nat→Prop}{w:World}{a:Nat}{b:Nat→UInt8}{t:Nat→Option Cp}(h:TgIn S w a b t):∀k,S k→k<w.heap.size:=by
 obtain⟨P,C,⟨pg,h1⟩,⟨cg,h2⟩,h3,h4⟩:=h.go;intro k hk;rcases(h4 k).1 hk with q|q|q
 ·subst q;exact h1.lt
 ·exact h1.own k q
 ·exact h2.own k q
theorem TgIn.keep {S S1:Nat→Prop}{w w':World}{a:Nat}{b:Nat→UInt8}{t:Nat→Option Cp}(h:TgIn S w a b t)(hk:Kp S1 w w')(hd:∀k,S k→¬S1 k):TgIn S w' a b t:=by
 have hl:=h.lt;obtain⟨P,C,h1,h2,h3,h4⟩:=h.go;have hb:∀k,S k→w'.heap[k]?=w.heap[k]?:=fun k q=>hk.block k (hl k q) (hd k q)
 have ha:=hb a ((h4 a).2 (.inl rfl));exact⟨P,C,h1.keep hk.size (fun i _=>⟨cell_of_block ha i,frozen_of_block ha i⟩) (fun k q _=>hb k ((h4 k).2 (.inr (.inl q)))),h2.keep hk.size (fun i _=>⟨cell_of_block ha i,frozen_of_block ha i⟩) (fun k q _=>hb k ((h4 k).2 (.inr (.inr q)))),h3,h4⟩
theorem TgIn.gr {S:Nat→Prop}{w w':World}{a:Nat}{b:Nat→UInt8}{t:Nat→Option Cp}(h:TgIn S w a b t)(hb:Below w.heap.size w w'):TgIn S w' a b t:=h.keep (S1:=fun _=>False) (Kp.of_below hb) (fun _ _ q=>q)
structure Mf (S S':Nat→Prop)(w w':World):Prop where
 up:∀k,S k→S' k
 new:∀k,S' k→S k∨w.heap.size≤k
 kp:Kp S w w'
theorem Mf.refl (S:Nat→Prop)(w:World):Mf S S w w:=⟨fun _ h=>h,fun _ h=>.inl h,Kp.refl _ w⟩
theorem Mf.trans {S S1 S2:Nat→Prop}{w w1 w2:World}(h:Mf S S1 w w1)(g:Mf S1 S2 w1 w2):Mf S S2 w w2:=
 ⟨fun k q=>g.up k (h.up k q),fun k q=>by
  rcases g.new k q with r|r
  ·exact h.new k r
  ·exact .inr (Nat.le_trans h.kp.size r),h.kp.trans g.kp h.new⟩
theorem Mf.below {S:Nat→Prop}{w w':World}(h:Below w.heap.size w w'):Mf S S w w':=⟨fun _ q=>q,fun _ q=>.inl q,Kp.of_below h⟩
theorem TgIn.bytes {S P C P':Nat→Prop}{w w':World}{a:Nat}{b':Nat→UInt8}{t:Nat→Option Cp}(h2:CgIn C w a t)(h3:∀k,P k→¬C k)(h4:∀k,S k↔k=a∨P k∨C k)
 (g1:PgIn P' w' a b')(g2:Fr P P' w w' a):∃S',TgIn S' w' a b' t∧Mf S S' w w':=by
 have hCl:∀k,C k→k<w.heap.size:=by
  obtain⟨cg,h2⟩:=h2;exact h2.own
 have hCa:¬C a:=by
  obtain⟨cg,h2⟩:=h2;exact h2.no
 have hbk:∀k,C k→k<w.heap.size→w'.heap[k]?=w.heap[k]?:=fun k q hk=>g2.kp.block k hk (fun r=>by
  rcases r with r|r
  ·exact hCa (r▸q)
  ·exact h3 k r q)
 refine⟨fun k=>k=a∨P' k∨C k,⟨P',C,g1,h2.keep g2.kp.size g2.rest hbk,fun k q r=>?_,fun k=>Iff.rfl⟩,fun k q=>?_,fun k q=>?_,g2.kp.mono (fun k q=>?_)⟩
 ·rcases g2.new k q with s|s
  ·exact h3 k s r
  ·have:=hCl k r;omega
 ·rcases(h4 k).1 q with s|s|s
  ·exact .inl s
  ·exact .inr (.inl (g2.up k s))
  ·exact .inr (.inr s)
 ·rcases q with q|q|q
  ·exact .inl ((h4 k).2 (.inl q))
  ·rcases g2.new k q with s|s
   ·exact .inl ((h4 k).2 (.inr (.inl s)))
   ·exact .inr s
  ·exact .inl ((h4 k).2 (.inr (.inr q)))
 ·rcases q with q|q
  ·exact .inl ((h4 k).2 (.inl q))
  ·exact .inl ((h4 k).2 (.inr (.inl q)))
theorem TgIn.tags {S P C C':Nat→Prop}{w w':World}{a:Nat}{b:Nat→UInt8}{t':Nat→Option Cp}(h1:PgIn P w a b)(h3:∀k,P k→¬C k)(h4:∀k,S k↔k=a∨P k∨C k)
 (g1:CgIn C' w' a t')(g2:Gf C C' w w' a):∃S',TgIn S' w' a b t'∧Mf S S' w w':=by
 have hPl:∀k,P k→k<w.heap.size:=by
  obtain⟨cg,h2⟩:=h1;exact h2.own
 have hPa:¬P a:=by
  obtain⟨cg,h2⟩:=h1;exact h2.no
 have hbk:∀k,P k→k<w.heap.size→w'.heap[k]?=w.heap[k]?:=fun k q hk=>g2.kp.block k hk (fun r=>by
  rcases r with r|r
  ·exact hPa (r▸q)
  ·exact h3 k q r)
 refine⟨fun k=>k=a∨P k∨C' k,⟨P,C',h1.keep g2.kp.size (fun i hi=>g2.rest i hi) hbk,g1,fun k q r=>?_,fun k=>Iff.rfl⟩,fun k q=>?_,fun k q=>?_,g2.kp.mono (fun k q=>?_)⟩
 ·rcases g2.new k r with s|s
  ·exact h3 k q s
  ·have:=hPl k q;omega
 ·rcases(h4 k).1 q with s|s|s
  ·exact .inl s
  ·exact .inr (.inl s)
  ·exact .inr (.inr (g2.up k s))
 ·rcases q with q|q|q
  ·exact .inl ((h4 k).2 (.inl q))
  ·exact .inl ((h4 k).2 (.inr (.inl q)))
  ·rcases g2.new k q with s|s
   ·exact .inl ((h4 k).2 (.inr (.inr s)))
   ·exact .inr s
 ·rcases q with q|q
  ·exact .inl ((h4 k).2 (.inl q))
  ·exact .inl ((h4 k).2 (.inr (.inr q)))
theorem TgIn.onBytes {S:Nat→Prop}{w:World}{a:Nat}{b b':Nat→UInt8}{t:Nat→Option Cp}(h:TgIn S w a b t){f:Nat}{args:Array Value}{r:Ending}
 (hc:∀P,PgIn P w a b→Calls Tryz.prog f args w fun x w'=>x=r∧∃P',PgIn P' w' a b'∧Fr P P' w w' a):Calls Tryz.prog f args w fun x w'=>x=r∧∃S',TgIn S' w' a b' t∧Mf S S' w w':=by
 obtain⟨P,C,h1,h2,h3,h4⟩:=h.go;refine(hc P h1).mono ?_;rintro x w' ⟨rfl,P',g1,g2⟩;exact⟨rfl,TgIn.bytes h2 h3 h4 g1 g2⟩
theorem TgIn.onTags {S:Nat→Prop}{w:World}{a:Nat}{b:Nat→UInt8}{t t':Nat→Option Cp}(h:TgIn S w a b t){f:Nat}{args:Array Value}{r:Ending}
 (hc:∀P,CgIn P w a t→Calls Tryz.prog f args w fun x w'=>x=r∧∃P',CgIn P' w' a t'∧Gf P P' w w' a):Calls Tryz.prog f args w fun x w'=>x=r∧∃S',TgIn S' w' a b t'∧Mf S S' w w':=by
 obtain⟨P,C,h1,h2,h3,h4⟩:=h.go;refine(hc C h2).mono ?_;rintro x w' ⟨rfl,P',g1,g2⟩;exact⟨rfl,TgIn.tags h1 h3 h4 g1 g2⟩
def wordB (addr size:Nat):Bool:=(decide (size=1) || decide (size=8))&&decide (addr+size≤65536)
def granB (addr:Nat):Bool:=decide (addr%16=0)&&decide (addr<65536)
theorem isWord_any (addr size:Nat)(w:World)(ha:addr<18446744073709551616)(hs:size<18446744073709551616):
 Calls Tryz.prog 166 #[.int .u64 addr,.int .u64 size] w fun x w'=>x=.returned (.bool (wordB addr size))∧w'=w:=by
 by_cases h1:size=1
 ·subst h1;by_cases h2:addr≤65535
  ·have:wordB addr 1=true:=by simp[wordB];omega
   rw[this];have d1:(addr:Int)≤65535:=by omega
   go_enter Tryz.func166,Tryz.ntmps166;go_wp2_with fail;go_ret;exact⟨rfl,rfl⟩
  ·have:wordB addr 1=false:=by simp[wordB];omega
   rw[this];have d1:¬(addr:Int)≤65535:=by omega
   go_enter Tryz.func166,Tryz.ntmps166;go_wp2_with fail;go_ret;exact⟨rfl,rfl⟩
 ·have e1:((size:Int)==1)=false:=by simpa using(by omega:¬(size:Int)=1)
  by_cases h8:size=8
  ·subst h8;by_cases h2:addr≤65528
   ·have:wordB addr 8=true:=by simp[wordB];omega
    rw[this];have d1:(addr:Int)≤65528:=by omega
    go_enter Tryz.func166,Tryz.ntmps166;go_wp2_with fail;go_ret;exact⟨rfl,rfl⟩
   ·have:wordB addr 8=false:=by simp[wordB];omega
    rw[this];have d1:¬(addr:Int)≤65528:=by omega
    go_enter Tryz.func166,Tryz.ntmps166;go_wp2_with fail;go_ret;exact⟨rfl,rfl⟩
  ·have e8:((size:Int)==8)=false:=by simpa using(by omega:¬(size:Int)=8)
   have:wordB addr size=false:=by simp[wordB,h1,h8]
   rw[this];replace h1:=Hid.mk h1;replace h8:=Hid.mk h8;go_enter Tryz.func166,Tryz.ntmps166;go_wp2_with fail;go_ret;exact⟨rfl,rfl⟩
theorem isGranule_any (addr:Nat)(w:World)(ha:addr<18446744073709551616):
 Calls Tryz.prog 134 #[.int .u64 addr] w fun x w'=>x=.returned (.bool (granB addr))∧w'=w:=by
 by_cases h1:addr%16=0
 ·have d1:(addr:Int)%16=0:=by omega
  by_cases h2:addr<65536
  ·have:granB addr=true:=by simp[granB];omega
   rw[this];have d2:(addr:Int)<65536:=by omega
   go_enter Tryz.func134,Tryz.ntmps134;go_wp2_with fail;go_ret;exact⟨rfl,rfl⟩
  ·have:granB addr=false:=by simp[granB];omega
   rw[this];have d2:¬(addr:Int)<65536:=by omega
   go_enter Tryz.func134,Tryz.ntmps134;go_wp2_with fail;go_ret;exact⟨rfl,rfl⟩
 ·have d1:((addr:Int)%16==0)=false:=by simpa using(by omega:¬(addr:Int)%16=0)
  have:granB addr=false:=by simp[granB];omega
  rw[this];replace h1:=Hid.mk h1;go_enter Tryz.func134,Tryz.ntmps134;go_wp2_with fail;go_ret;exact⟨rfl,rfl⟩
end T
set_option maxRecDepth 100000
set_option maxHeartbeats 40000000
namespace T
open Go.RowKit
def ldV (b:Nat→UInt8)(addr size:Nat):Nat:=if wordB addr size then leB b addr size else 0
def ldE (addr size:Nat):Int:=if wordB addr size then 0 else 60
def stB (b:Nat→UInt8)(addr size n:Nat):Nat→UInt8:=if wordB addr size then putB b addr n size else b
def stT (t:Nat→Option Cp)(addr size:Nat):Nat→Option Cp:=if wordB addr size then offT t addr (addr+size)else t
theorem wordB_in {addr size:Nat}(h:wordB addr size=true):addr+size≤65536∧size≤8:=by
 simp[wordB]at h;omega
theorem granB_in {addr:Nat}(h:granB addr=true):addr%16=0∧addr+16≤65536:=by
 simp[granB]at h;omega
theorem tgLoad_any (S:Nat→Prop)(a addr size:Nat)(b:Nat→UInt8)(t:Nat→Option Cp)(w:World)(h:TgIn S w a b t)(ha:addr<18446744073709551616)(hs:size<18446744073709551616):
 Calls Tryz.prog 148 #[.pointer (some ⟨a,0,none⟩),.int .u64 addr,.int .u64 size] w fun x w'=>x=.returned (.tuple #[.int .u64 (ldV b addr size),.int .i64 (ldE addr size)])∧Below w.heap.size w w':=by
 have hW:=fun W=>isWord_any addr size W ha hs
 cases e:wordB addr size with
 |false=>
  rw[e]at hW;simp only[ldV,ldE,e,Bool.false_eq_true,if_false];replace h:=Hid.mk h;go_enter Tryz.func148,Tryz.ntmps148;go_wp2_with(refine(hW _).mono ?_;rintro x w1 ⟨rfl,rfl⟩);go_ret2;exact⟨rfl,Below.refl _ _⟩
 |true=>
  rw[e]at hW;have hi:=wordB_in e;obtain⟨P,C,h1,h2,h3,h4⟩:=h.go;have hN:=number_any P a addr size b w h1 hi.1 hi.2;simp only[ldV,ldE,e,if_true];replace h:=Hid.mk h;replace h1:=Hid.mk h1;replace h2:=Hid.mk h2;clear h3 h4;go_enter Tryz.func148,Tryz.ntmps148;go_wp2_with(first|(go_at_call 166;refine(hW _).mono ?_;rintro x w1 ⟨rfl,rfl⟩)|(go_at_call 167;refine hN.mono ?_;rintro x w1 ⟨rfl,rfl⟩));go_ret2;exact⟨rfl,Below.refl _ _⟩
theorem tgStore_any (S:Nat→Prop)(a addr size n:Nat)(b:Nat→UInt8)(t:Nat→Option Cp)(w:World)(h:TgIn S w a b t)(ha:addr<18446744073709551616)(hs:size<18446744073709551616):
 Calls Tryz.prog 151 #[.pointer (some ⟨a,0,none⟩),.int .u64 addr,.int .u64 size,.int .u64 n] w fun x w'=>x=.returned (.int .i64 (ldE addr size))∧∃S',TgIn S' w' a (stB b addr size n) (stT t addr size)∧Mf S S' w w':=by
 have hW:=fun W=>isWord_any addr size W ha hs
 cases e:wordB addr size with
 |false=>
  rw[e]at hW;simp only[stB,stT,ldE,e,Bool.false_eq_true,if_false];replace h:=Hid.mk h;go_enter Tryz.func151,Tryz.ntmps151;go_wp2_with(refine(hW _).mono ?_;rintro x w1 ⟨rfl,rfl⟩);go_ret;exact⟨rfl,S,h.out,Mf.refl _ _⟩
 |true=>
  rw[e]at hW;have hi:=wordB_in e;have hN:=h.onBytes fun P hP=>setNumber_any P a addr size n b w hP hi.1 hi.2
  have hF:=fun S1 W b1 (h1:TgIn S1 W a b1 t)=>h1.onTags fun C hC=>(forget_any C a addr size t W hC hi.1).mono (R':=fun x w'=>x=.returned (.tuple #[])∧∃P',CgIn P' w' a (offT t addr (addr+size))∧Gf C P' W w' a) (fun x w' q=>⟨q.1,C,q.2.1,q.2.2⟩)
  simp only[stB,stT,ldE,e,if_true];replace h:=Hid.mk h;replace hF:=Hid.mk hF;generalize putB b addr n size=b1 at*;generalize offT t addr (addr+size)=t1 at*;go_enter Tryz.func151,Tryz.ntmps151;go_wp2_with(go_at_call 166;refine(hW _).mono ?_;rintro x w1 ⟨rfl,rfl⟩);refine hN.mono ?_;rintro x w1 ⟨rfl,S1,h1,f1⟩;replace h1:=Hid.mk h1;replace f1:=Hid.mk f1;go_wp2_with fail;refine(hF.out S1 _ b1 h1.out).mono ?_;rintro x w2 ⟨rfl,S2,h2,f2⟩;replace h2:=Hid.mk h2;replace f2:=Hid.mk f2;go_wp2_with fail;go_ret;exact⟨rfl,S2,h2.out,f1.out.trans f2.out⟩
structure Vl where
 g:Bool
 n:Nat
 c:Cp
def Vl.agg (v:Vl):Value:=.agg #[.bool v.g,.int .u64 v.n,.int .u64 v.c.b,.int .u64 v.c.e,.int .u64 v.c.c,.int .u8 v.c.p,.int .i64 v.c.s]
def Vl.zero:Vl:=⟨false,0,Cp.zero⟩
def lcV (b:Nat→UInt8)(t:Nat→Option Cp)(addr:Nat):Vl:=
 if granB addr then(match t (addr/16)with
  |none=>⟨false,leB b addr 8,Cp.zero⟩
  |some c=>⟨true,0,c⟩)else Vl.zero
def lcE (addr:Nat):Int:=if granB addr then 0 else 60
def Vl.num (v:Vl):Nat:=if v.g then v.c.c.toNat else v.n
def scB (b:Nat→UInt8)(addr:Nat)(v:Vl):Nat→UInt8:=if granB addr then putB (putB b addr v.num 8) (addr+8) 0 8 else b
def scT (t:Nat→Option Cp)(addr:Nat)(v:Vl):Nat→Option Cp:=
 if granB addr then(if v.g then updT (offT t addr (addr+16)) (addr/16) (some v.c)else offT t addr (addr+16))else t
theorem at_below {w w1:World}{B k:Nat}{cs:Array Value}(h:At w k cs)(hb:Below B w w1)(hk:k<B):At w1 k cs:=
 ⟨Nat.lt_of_lt_of_le h.1 hb.size,fun o=>(hb.cell (p:=⟨k,o,none⟩) hk).trans (h.2.1 o),fun o=>(hb.frozen (p:=⟨k,o,none⟩) hk).trans (h.2.2 o)⟩
theorem at_kp {S:Nat→Prop}{w w1:World}{k:Nat}{cs:Array Value}(h:At w k cs)(hb:Kp S w w1)(hk:¬S k):At w1 k cs:=
 ⟨Nat.lt_of_lt_of_le h.1 hb.size,fun o=>(cell_of_block (hb.block k h.1 hk) o).trans (h.2.1 o),fun o=>(frozen_of_block (hb.block k h.1 hk) o).trans (h.2.2 o)⟩
theorem tgLoadCap_any (S:Nat→Prop)(a addr:Nat)(b:Nat→UInt8)(t:Nat→Option Cp)(w:World)(h:TgIn S w a b t)(ha:addr<18446744073709551616):
 Calls Tryz.prog 153 #[.pointer (some ⟨a,0,none⟩),.int .u64 addr] w fun x w'=>x=.returned (.tuple #[(lcV b t addr).agg,.int .i64 (lcE addr)])∧Below w.heap.size w w':=by
 have hW:=fun W=>isGranule_any addr W ha
 cases e:granB addr with
 |false=>
  rw[e]at hW;simp only[lcV,lcE,e,Bool.false_eq_true,if_false];replace h:=Hid.mk h;go_enter Tryz.func153,Tryz.ntmps153;go_wp2_with(refine(hW _).mono ?_;rintro x w1 ⟨rfl,rfl⟩);simp[bodyPost,results,Tryz.results153,go_sem,Vl.zero,Vl.agg,Cp.zero];exact(Below.refl _ w).alloc (Nat.le_refl _) _
 |true=>
  rw[e]at hW;have hi:=granB_in e;obtain⟨P,C,h1,h2,h3,h4⟩:=h.go;have hN:=fun W (q:Below w.heap.size w W)=>number_any P a addr 8 b W (h1.gr q) (by omega) (by omega)
  have hH:=fun W (q:Below w.heap.size w W)=>held_any C a addr t W (h2.gr q) (by omega)
  simp only[lcV,lcE,e,if_true];replace h:=Hid.mk h;replace h1:=Hid.mk h1;replace h2:=Hid.mk h2;clear h3 h4
  cases q:t (addr/16)with
  |none=>
   rw[q]at hH;simp only[plCap,plTag,Cp.agg,Cp.zero,Vl.agg]at hH ⊢;go_enter Tryz.func153,Tryz.ntmps153;go_wp2_with(go_at_call 134;refine(hW _).mono ?_;rintro x w1 ⟨rfl,rfl⟩);refine(hH _ ((Below.refl _ w).alloc (Nat.le_refl _) _)).mono ?_;rintro x w1 ⟨rfl,hB⟩;have A0:=at_below (At.new w _ _) hB (by simp);replace hB:=((Below.refl _ w).alloc (Nat.le_refl _) _).trans (hB.mono (by simp));have hsz:=A0.1;have z0:w1.cell? ⟨w.heap.size,0,none⟩=some (.bool false):=A0.2.1 0;have z1:w1.cell? ⟨w.heap.size,1,none⟩=some (.int .u64 0):=A0.2.1 1;have z2:w1.cell? ⟨w.heap.size,2,none⟩=some (.int .u64 0):=A0.2.1 2;have z3:w1.cell? ⟨w.heap.size,3,none⟩=some (.int .u64 0):=A0.2.1 3;have z4:w1.cell? ⟨w.heap.size,4,none⟩=some (.int .u64 0):=A0.2.1 4;have z5:w1.cell? ⟨w.heap.size,5,none⟩=some (.int .u8 0):=A0.2.1 5;have z6:w1.cell? ⟨w.heap.size,6,none⟩=some (.int .i64 0):=A0.2.1 6;have zf:=A0.2.2;replace A0:=Hid.mk A0
   replace hB:=Hid.mk hB;clear hH;go_wp2_with fail;refine(hN _ (hB.out.alloc (by omega) _)).mono ?_;rintro x w2 ⟨rfl,rfl⟩;clear hN;go_wp2_with fail;simp[bodyPost,results,Tryz.results153,go_sem,hsz,z0,z1,z2,z3,z4,z5,z6];exact(((((((hB.out.setCell (Nat.le_refl _) _).setCell (Nat.le_refl _) _).setCell (Nat.le_refl _) _).setCell (Nat.le_refl _) _).setCell (Nat.le_refl _) _).setCell (Nat.le_refl _) _).setCell (Nat.le_refl _) _).alloc (by simp;omega) _
  |some c=>
   rw[q]at hH;simp only[plCap,plTag,Cp.agg,Vl.agg]at hH ⊢;go_enter Tryz.func153,Tryz.ntmps153;go_wp2_with(go_at_call 134;refine(hW _).mono ?_;rintro x w1 ⟨rfl,rfl⟩);refine(hH _ ((Below.refl _ w).alloc (Nat.le_refl _) _)).mono ?_;rintro x w1 ⟨rfl,hB⟩;have A0:=at_below (At.new w _ _) hB (by simp);replace hB:=((Below.refl _ w).alloc (Nat.le_refl _) _).trans (hB.mono (by simp));have hsz:=A0.1;have z0:w1.cell? ⟨w.heap.size,0,none⟩=some (.bool false):=A0.2.1 0;have z1:w1.cell? ⟨w.heap.size,1,none⟩=some (.int .u64 0):=A0.2.1 1;have z2:w1.cell? ⟨w.heap.size,2,none⟩=some (.int .u64 0):=A0.2.1 2;have z3:w1.cell? ⟨w.heap.size,3,none⟩=some (.int .u64 0):=A0.2.1 3;have z4:w1.cell? ⟨w.heap.size,4,none⟩=some (.int .u64 0):=A0.2.1 4;have z5:w1.cell? ⟨w.heap.size,5,none⟩=some (.int .u8 0):=A0.2.1 5;have z6:w1.cell? ⟨w.heap.size,6,none⟩=some (.int .i64 0):=A0.2.1 6;have zf:=A0.2.2;replace A0:=Hid.mk A0;replace hB:=Hid.mk hB
   clear hH hN;go_wp2_with fail;simp[bodyPost,results,Tryz.results153,go_sem,hsz,z0,z1,z2,z3,z4,z5,z6];exact(((((((hB.out.setCell (Nat.le_refl _) _).setCell (Nat.le_refl _) _).setCell (Nat.le_refl _) _).setCell (Nat.le_refl _) _).setCell (Nat.le_refl _) _).setCell (Nat.le_refl _) _).setCell (Nat.le_refl _) _).alloc (by simp;omega) _
theorem tgStoreCap_any (S:Nat→Prop)(a addr:Nat)(b:Nat→UInt8)(t:Nat→Option Cp)(v:Vl)(w:World)(h:TgIn S w a b t)(ha:addr<18446744073709551616)(hv:0≤v.c.c):
 Calls Tryz.prog 95 #[.pointer (some ⟨a,0,none⟩),.int .u64 addr,v.agg] w fun x w'=>x=.returned (.int .i64 (lcE addr))∧∃S',TgIn S' w' a (scB b addr v) (scT t addr v)∧Mf S S' w w':=by
 have hW:=fun W=>isGranule_any addr W ha
 cases e:granB addr with
 |false=>
  rw[e]at hW;simp only[scB,scT,lcE,e,Bool.false_eq_true,if_false,Vl.agg];replace h:=Hid.mk h;go_enter Tryz.func95,Tryz.ntmps95;go_wp2_with(refine(hW _).mono ?_;rintro x w1 ⟨rfl,rfl⟩);go_ret;exact⟨rfl,S,h.out.gr ((Below.refl _ w).alloc (Nat.le_refl _) _),Mf.below ((Below.refl _ w).alloc (Nat.le_refl _) _)⟩
 |true=>
  rw[e]at hW;have hi:=granB_in e;have hlt:=h.lt;have h0:=fun o=>h.gr ((Below.refl _ w).alloc (Nat.le_refl _) o)
  have hN1:=fun S1 W b1 t1 n (h1:TgIn S1 W a b1 t1)=>h1.onBytes fun P hP=>setNumber_any P a addr 8 n b1 W hP (by omega) (by omega)
  have hN2:=fun S1 W b1 t1 (h1:TgIn S1 W a b1 t1)=>h1.onBytes fun P hP=>setNumber_any P a (addr+8) 8 0 b1 W hP (by omega) (by omega)
  have hF:=fun S1 W b1 (h1:TgIn S1 W a b1 t)=>h1.onTags fun C hC=>(forget_any C a addr 16 t W hC (by omega)).mono (R':=fun x w'=>x=.returned (.tuple #[])∧∃P',CgIn P' w' a (offT t addr (addr+16))∧Gf C P' W w' a) (fun x w' q=>⟨q.1,C,q.2.1,q.2.2⟩)
  have hH:=fun S1 W b1 t1 (h1:TgIn S1 W a b1 t1)=>h1.onTags fun C hC=>hold_any C a addr t1 v.c W hC (by omega)
  have m0:IntKind.u64.wrap ((addr:Int)+8)=(addr:Int)+8:=by rw[IntKind.wrap_u64];omega
  rw[Int.natCast_add]at hN2;simp only[scB,scT,lcE,e,if_true];replace h:=Hid.mk h;replace h0:=Hid.mk h0;replace hN1:=Hid.mk hN1;replace hN2:=Hid.mk hN2;replace hF:=Hid.mk hF;replace hH:=Hid.mk hH;replace hi:=Hid.mk hi
  cases q:v.g with
  |false=>
   simp only[q,Vl.num,Bool.false_eq_true,if_false,Vl.agg];have hN1':=fun S1 W b1 t1 h1=>hN1.out S1 W b1 t1 v.n h1
   replace hN1':=Hid.mk hN1';generalize offT t addr (addr+16)=t1 at*;have nS:¬S w.heap.size:=fun q=>by have:=hlt _ q;omega
   replace nS:=Hid.mk nS;clear hN1;go_enter Tryz.func95,Tryz.ntmps95;go_wp2_with(go_at_call 134;refine(hW _).mono ?_;rintro x w1 ⟨rfl,rfl⟩);refine(hN1'.out _ _ _ _ (h0.out _)).mono ?_;rintro x w1 ⟨rfl,S1,h1,f1⟩;have A1:=at_kp (At.new w _ _) f1.kp nS.out;have y1_0:w1.cell? ⟨w.heap.size,0,none⟩=some (.bool false):=A1.2.1 0;have y1_1:w1.cell? ⟨w.heap.size,1,none⟩=some (.int .u64 v.n):=A1.2.1 1;have y1_2:w1.cell? ⟨w.heap.size,2,none⟩=some (.int .u64 v.c.b):=A1.2.1 2;have y1_3:w1.cell? ⟨w.heap.size,3,none⟩=some (.int .u64 v.c.e):=A1.2.1 3;have y1_4:w1.cell? ⟨w.heap.size,4,none⟩=some (.int .u64 v.c.c):=A1.2.1 4;have y1_5:w1.cell? ⟨w.heap.size,5,none⟩=some (.int .u8 v.c.p):=A1.2.1 5;have y1_6:w1.cell? ⟨w.heap.size,6,none⟩=some (.int .i64 v.c.s):=A1.2.1 6;replace A1:=Hid.mk A1;replace f1:=Hid.mk f1;replace h1:=Hid.mk h1;go_wp2_with fail;refine(hN2.out _ _ _ _ h1.out).mono ?_;rintro x w2 ⟨rfl,S2,h2,f2⟩
   replace f2:=f1.out.trans f2;have A2:=at_kp (At.new w _ _) f2.kp nS.out;have y2_0:w2.cell? ⟨w.heap.size,0,none⟩=some (.bool false):=A2.2.1 0;have y2_1:w2.cell? ⟨w.heap.size,1,none⟩=some (.int .u64 v.n):=A2.2.1 1;have y2_2:w2.cell? ⟨w.heap.size,2,none⟩=some (.int .u64 v.c.b):=A2.2.1 2;have y2_3:w2.cell? ⟨w.heap.size,3,none⟩=some (.int .u64 v.c.e):=A2.2.1 3;have y2_4:w2.cell? ⟨w.heap.size,4,none⟩=some (.int .u64 v.c.c):=A2.2.1 4;have y2_5:w2.cell? ⟨w.heap.size,5,none⟩=some (.int .u8 v.c.p):=A2.2.1 5;have y2_6:w2.cell? ⟨w.heap.size,6,none⟩=some (.int .i64 v.c.s):=A2.2.1 6;replace A2:=Hid.mk A2;replace f2:=Hid.mk f2;replace h2:=Hid.mk h2;clear f1 h1 A1;go_wp2_with fail;refine(hF.out _ _ _ h2.out).mono ?_;rintro x w3 ⟨rfl,S3,h3,f3⟩;replace f3:=f2.out.trans f3;have A3:=at_kp (At.new w _ _) f3.kp nS.out;have y3_0:w3.cell? ⟨w.heap.size,0,none⟩=some (.bool false):=A3.2.1 0;have y3_1:w3.cell? ⟨w.heap.size,1,none⟩=some (.int .u64 v.n):=A3.2.1 1
   have y3_2:w3.cell? ⟨w.heap.size,2,none⟩=some (.int .u64 v.c.b):=A3.2.1 2;have y3_3:w3.cell? ⟨w.heap.size,3,none⟩=some (.int .u64 v.c.e):=A3.2.1 3;have y3_4:w3.cell? ⟨w.heap.size,4,none⟩=some (.int .u64 v.c.c):=A3.2.1 4;have y3_5:w3.cell? ⟨w.heap.size,5,none⟩=some (.int .u8 v.c.p):=A3.2.1 5;have y3_6:w3.cell? ⟨w.heap.size,6,none⟩=some (.int .i64 v.c.s):=A3.2.1 6;replace A3:=Hid.mk A3;replace f3:=Hid.mk f3;replace h3:=Hid.mk h3;clear f2 h2 A2;go_wp2_with fail;go_ret;exact⟨rfl,S3,h3.out,(Mf.below ((Below.refl _ w).alloc (Nat.le_refl _) _)).trans f3.out⟩
  |true=>
   simp only[q,Vl.num,if_true,Vl.agg];have hn:((v.c.c.toNat:Nat):Int)=v.c.c:=by omega
   have hN1':=fun S1 W b1 t1 h1=>hN1.out S1 W b1 t1 v.c.c.toNat h1
   simp only[hn]at hN1';clear hn;simp only[Cp.agg]at hH;replace hN1':=Hid.mk hN1';generalize offT t addr (addr+16)=t1 at*;have nS:¬S w.heap.size:=fun q=>by have:=hlt _ q;omega
   replace nS:=Hid.mk nS;clear hN1;go_enter Tryz.func95,Tryz.ntmps95;go_wp2_with(go_at_call 134;refine(hW _).mono ?_;rintro x w1 ⟨rfl,rfl⟩);refine(hN1'.out _ _ _ _ (h0.out _)).mono ?_;rintro x w1 ⟨rfl,S1,h1,f1⟩;have A1:=at_kp (At.new w _ _) f1.kp nS.out;have y1_0:w1.cell? ⟨w.heap.size,0,none⟩=some (.bool true):=A1.2.1 0;have y1_1:w1.cell? ⟨w.heap.size,1,none⟩=some (.int .u64 v.n):=A1.2.1 1;have y1_2:w1.cell? ⟨w.heap.size,2,none⟩=some (.int .u64 v.c.b):=A1.2.1 2;have y1_3:w1.cell? ⟨w.heap.size,3,none⟩=some (.int .u64 v.c.e):=A1.2.1 3;have y1_4:w1.cell? ⟨w.heap.size,4,none⟩=some (.int .u64 v.c.c):=A1.2.1 4;have y1_5:w1.cell? ⟨w.heap.size,5,none⟩=some (.int .u8 v.c.p):=A1.2.1 5;have y1_6:w1.cell? ⟨w.heap.size,6,none⟩=some (.int .i64 v.c.s):=A1.2.1 6;replace A1:=Hid.mk A1;replace f1:=Hid.mk f1;replace h1:=Hid.mk h1;go_wp2_with fail;refine(hN2.out _ _ _ _ h1.out).mono ?_;rintro x w2 ⟨rfl,S2,h2,f2⟩
   replace f2:=f1.out.trans f2;have A2:=at_kp (At.new w _ _) f2.kp nS.out;have y2_0:w2.cell? ⟨w.heap.size,0,none⟩=some (.bool true):=A2.2.1 0;have y2_1:w2.cell? ⟨w.heap.size,1,none⟩=some (.int .u64 v.n):=A2.2.1 1;have y2_2:w2.cell? ⟨w.heap.size,2,none⟩=some (.int .u64 v.c.b):=A2.2.1 2;have y2_3:w2.cell? ⟨w.heap.size,3,none⟩=some (.int .u64 v.c.e):=A2.2.1 3;have y2_4:w2.cell? ⟨w.heap.size,4,none⟩=some (.int .u64 v.c.c):=A2.2.1 4;have y2_5:w2.cell? ⟨w.heap.size,5,none⟩=some (.int .u8 v.c.p):=A2.2.1 5;have y2_6:w2.cell? ⟨w.heap.size,6,none⟩=some (.int .i64 v.c.s):=A2.2.1 6;replace A2:=Hid.mk A2;replace f2:=Hid.mk f2;replace h2:=Hid.mk h2;clear f1 h1 A1;go_wp2_with fail;refine(hF.out _ _ _ h2.out).mono ?_;rintro x w3 ⟨rfl,S3,h3,f3⟩;replace f3:=f2.out.trans f3;have A3:=at_kp (At.new w _ _) f3.kp nS.out;have y3_0:w3.cell? ⟨w.heap.size,0,none⟩=some (.bool true):=A3.2.1 0;have y3_1:w3.cell? ⟨w.heap.size,1,none⟩=some (.int .u64 v.n):=A3.2.1 1
   have y3_2:w3.cell? ⟨w.heap.size,2,none⟩=some (.int .u64 v.c.b):=A3.2.1 2;have y3_3:w3.cell? ⟨w.heap.size,3,none⟩=some (.int .u64 v.c.e):=A3.2.1 3;have y3_4:w3.cell? ⟨w.heap.size,4,none⟩=some (.int .u64 v.c.c):=A3.2.1 4;have y3_5:w3.cell? ⟨w.heap.size,5,none⟩=some (.int .u8 v.c.p):=A3.2.1 5;have y3_6:w3.cell? ⟨w.heap.size,6,none⟩=some (.int .i64 v.c.s):=A3.2.1 6;replace A3:=Hid.mk A3;replace f3:=Hid.mk f3;replace h3:=Hid.mk h3;clear f2 h2 A2;go_wp2_with fail;have hH':=hH.out _ w3.drew _ _ (h3.out.gr (Below.drew (Below.refl _ _)));clear y1_0 y1_1 y1_2 y1_3 y1_4 y1_5 y1_6 y2_0 y2_1 y2_2 y2_3 y2_4 y2_5 y2_6;go_region_with (refine hH'.mono ?_;rintro x w4 ⟨rfl,S4,h4,f4⟩;replace f4:=(f3.out.trans (Mf.below (Below.drew (Below.refl _ _)))).trans f4;replace f4:=Hid.mk f4;replace h4:=Hid.mk h4)
   all_goals
    go_wp2_with fail;go_ret;exact⟨rfl,S4,h4.out,(Mf.below ((Below.refl _ w).alloc (Nat.le_refl _) _)).trans f4.out⟩
end T
end Go.Proofs.YtkhbiaaangnkdaaGreatDoor
