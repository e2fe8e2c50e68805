import Derived.Test.YtkhbiaaangnkdaaGreatDoorJ02
import Derived.Test.YtkhbiaaangnkdaaGreatDoorJTBase
import Derived.Deep.RegionHeld3
import Derived.Deep.AppendLies
namespace Go.Proofs.YtkhbiaaangnkdaaGreatDoor
set_option maxRecDepth 100000
set_option maxHeartbeats 40000000
namespace F
open Go.RowKit
open T
def wayN (op:Int):Int:=if op=20 then 1 else if op=21∨op=22∨op=23∨op=24 then 2 else if op=26 then 3 else if op=27∨op=28∨op=32 then 4 else 0
theorem wayOf_any (op:Int)(w:World):Calls Tryz.prog 120 #[.int .u8 op] w fun e w'=>e=.returned (.int .i64 (wayN op))∧w'=w:=by
 by_cases h:op=20∨op=21∨op=22∨op=23∨op=24∨op=26∨op=27∨op=28∨op=32
 ·rcases h with rfl|rfl|rfl|rfl|rfl|rfl|rfl|rfl|rfl<;>
  ·go_enter Tryz.func120,Tryz.ntmps120;go_wp2_with fail;go_ret;exact⟨rfl,rfl⟩
 ·simp only[not_or]at h;obtain⟨h1,h2,h3,h4,h5,h6,h7,h8,h9⟩:=h;have e0:wayN op=0:=by simp[wayN, *]
  rw[e0];have e1:(op==20)=false:=by simpa using h1
  have e2:(op==21)=false:=by simpa using h2
  have e3:(op==22)=false:=by simpa using h3
  have e4:(op==23)=false:=by simpa using h4
  have e5:(op==24)=false:=by simpa using h5
  have e6:(op==26)=false:=by simpa using h6
  have e7:(op==27)=false:=by simpa using h7
  have e8:(op==28)=false:=by simpa using h8
  have e9:(op==32)=false:=by simpa using h9
  clear h1 h2 h3 h4 h5 h6 h7 h8 h9;go_enter Tryz.func120,Tryz.ntmps120;go_wp2_with fail;go_ret;exact⟨rfl,rfl⟩
def tgtB (wy:Int):Bool:=decide (wy=1) || decide (wy=2)
def thB (n:Nat)(pc:Int):Bool:=decide (0≤pc)&&decide (pc<n)
theorem there_any (a:Option Addr)(n cap:Nat)(pc:Int)(w:World):Calls Tryz.prog 123 #[.slice a n cap,.int .i64 pc] w fun e w'=>e=.returned (.bool (thB n pc))∧w'=w:=by
 by_cases h1:0≤pc
 ·by_cases h2:pc<n
  ·have e0:thB n pc=true:=by simp[thB,h1,h2]
   rw[e0];go_enter Tryz.func123,Tryz.ntmps123;go_wp2_with fail;go_ret;exact⟨rfl,rfl⟩
  ·have e0:thB n pc=false:=by simp[thB,h2]
   rw[e0];go_enter Tryz.func123,Tryz.ntmps123;go_wp2_with fail;go_ret;exact⟨rfl,rfl⟩
 ·have e0:thB n pc=false:=by simp[thB,h1]
  rw[e0];go_enter Tryz.func123,Tryz.ntmps123;go_wp2_with fail;go_ret;exact⟨rfl,rfl⟩
def sv (X room:Nat):Value:=.agg #[.slice (some ⟨X,0,none⟩) ((room+63)/64) ((room+63)/64),.int .i64 room]
def SIn (w:World)(X room:Nat)(s:Nat→Bool):Prop:=
 ∃W:List Nat,W.length=(room+63)/64∧At w X (W.map fun n:Nat=>Value.int .u64 n).toArray∧(∀x∈W,x<18446744073709551616)∧∀n,n<room→s n=Nat.testBit (W[n/64]?.getD 0) (n%64)
theorem mayHave_any (X room:Nat)(pc:Int)(w:World):Calls Tryz.prog 154 #[sv X room,.int .i64 pc] w fun e w'=>e=.returned (.bool (thB room pc))∧∃o,w'=w.alloc o:=by
 unfold sv;generalize (room+63)/64=nw;by_cases h1:0≤pc
 ·by_cases h2:pc<room
  ·have e0:thB room pc=true:=by simp[thB,h1,h2]
   rw[e0];go_enter Tryz.func154,Tryz.ntmps154;go_wp2_with fail;go_ret;exact⟨rfl,_,rfl⟩
  ·have e0:thB room pc=false:=by simp[thB,h2]
   rw[e0];go_enter Tryz.func154,Tryz.ntmps154;go_wp2_with fail;go_ret;exact⟨rfl,_,rfl⟩
 ·have e0:thB room pc=false:=by simp[thB,h1]
  rw[e0];go_enter Tryz.func154,Tryz.ntmps154;go_wp2_with fail;go_ret;exact⟨rfl,_,rfl⟩
theorem wrap_pow (n:Nat):IntKind.u64.wrap (2^(n%64))=((2^(n%64):Nat):Int):=by
 rw[IntKind.wrap_u64];have h:2^(n%64)<2^64:=Nat.pow_lt_pow_right (by omega) (Nat.mod_lt _ (by omega));have e:((2:Int)^(n%64))=((2^(n%64):Nat):Int):=by simp
 rw[e];generalize 2^(n%64)=m at*;omega
theorem bitOf_any (n:Nat)(w:World)(hn:n<2000000):Calls Tryz.prog 155 #[.int .i64 n] w fun e w'=>e=.returned (.int .u64 (2^(n%64):Nat))∧w'=w:=by
 have hw:=wrap_pow n;go_enter Tryz.func155,Tryz.ntmps155;go_wp2_with fail;rw[hw];go_ret;exact⟨rfl,rfl⟩
theorem test_and (x k:Nat):Nat.testBit x k=(((x&&& 2^k:Nat):Int) != 0):=by
 cases h:x.testBit k with
 |true=>
  have:x&&& 2^k≠0:=by
   intro e;have:=congrArg (fun y=>Nat.testBit y k) e;simp[Nat.testBit_and,h,Nat.testBit_two_pow_self]at this
  generalize x&&& 2^k=y at*;have:¬(y:Int)=0:=by omega
  simpa using this
 |false=>
  have:x&&& 2^k=0:=by
   apply Nat.eq_of_testBit_eq;intro j;rw[Nat.testBit_and,Nat.zero_testBit];by_cases hj:k=j
   ·subst hj;rw[h];rfl
   ·rw[Nat.testBit_two_pow_of_ne hj,Bool.and_false]
  rw[this]
  rfl
theorem SIn.word {w:World}{X room n:Nat}{s:Nat→Bool}(h:SIn w X room s)(hn:n<room):∃x:Nat,x<18446744073709551616∧w.cell? ⟨X,n/64,none⟩=some (.int .u64 x)∧s n=Nat.testBit x (n%64):=by
 obtain⟨W,h1,h2,h3,h4⟩:=h;have hlt:n/64<W.length:=by rw[h1];omega
 refine⟨W[n/64],h3 _ (List.getElem_mem hlt),?_,?_⟩
 ·rw[h2.2.1];simp[hlt]
 ·rw[h4 n hn];simp[hlt]
theorem SIn.lt {w:World}{X room:Nat}{s:Nat→Bool}(h:SIn w X room s):X<w.heap.size:=by
 obtain⟨W,h1,h2,h3,h4⟩:=h;exact h2.1
theorem SIn.fr {w:World}{X room:Nat}{s:Nat→Bool}(h:SIn w X room s)(o:Nat):w.frozen? ⟨X,o,none⟩=false:=by
 obtain⟨W,h1,h2,h3,h4⟩:=h;exact h2.2.2 o
theorem at_below {w w1:World}{B k:Nat}{cs:Array Value}(h:At w k cs)(hb:Below B w w1)(hk:k<B):At w1 k cs:=
 ⟨Nat.lt_of_lt_of_le h.1 hb.size,fun o=>(hb.cell (p:=⟨k,o,none⟩) hk).trans (h.2.1 o),fun o=>(hb.frozen (p:=⟨k,o,none⟩) hk).trans (h.2.2 o)⟩
theorem SIn.below {w w1:World}{B X room:Nat}{s:Nat→Bool}(h:SIn w X room s)(hb:Below B w w1)(hk:X<B):SIn w1 X room s:=by
 obtain⟨W,h1,h2,h3,h4⟩:=h;exact⟨W,h1,at_below h2 hb hk,h3,h4⟩
theorem quo64 (n:Nat)(hn:n<2000000):IntKind.i64.wrap ((n:Int)/64)=((n/64:Nat):Int):=by rw[IntKind.wrap_i64];omega
theorem has_any (X room n:Nat)(s:Nat→Bool)(w:World)(h:SIn w X room s)(hr:room<2000000)(hn:n<room):
 Calls Tryz.prog 122 #[sv X room,.int .i64 n] w fun e w'=>e=.returned (.bool (s n))∧Below w.heap.size w w':=by
 have hM:=mayHave_any X room n;have hX:=h.lt;obtain⟨x,x1,x2,x3⟩:=h.word hn;have hB:=fun W=>bitOf_any n W (by omega)
 have e1:thB room n=true:=by simp[thB];omega
 rw[e1]at hM;simp only[x3,test_and];have hb:=u64_and_nat x (2^(n%64)) x1 (Nat.pow_lt_pow_right (m:=n%64) (n:=64) (by omega) (Nat.mod_lt _ (by omega)));have hnw:((n/64:Nat):Int)<(((room+63)/64:Nat):Int):=by omega
 have hq:=quo64 n (by omega);unfold sv at*;generalize (room+63)/64=nw at*;generalize 2^(n%64)=bt at*;generalize n/64=q at*;replace h:=Hid.mk h;replace hM:=Hid.mk hM;replace hB:=Hid.mk hB;replace x3:=Hid.mk x3;go_enter Tryz.func122,Tryz.ntmps122;go_wp2_with fail;go_region_held3 (fun W=>W.cell? ⟨w.heap.size,0,none⟩=some (.slice (some ⟨X,0,none⟩) nw nw)∧W.cell? ⟨w.heap.size,1,none⟩=some (.int .i64 room)∧W.cell? ⟨X,q,none⟩=some (.int .u64 x)) (simp[go_sem, *]) (first|(go_at_call 154;refine(hM.out _).mono ?_;rintro x w1 ⟨rfl,o,rfl⟩)|(go_at_call 155;refine(hB.out _).mono ?_;rintro x w1 ⟨rfl,rfl⟩))
 all_goals
  go_wp2_with fail;go_ret;exact⟨rfl,by(repeat(first|assumption|with_reducible exact Below.refl _ _|with_reducible refine Below.alloc ?_ (by simp<;>omega) _|with_reducible refine Below.setCell ?_ (by simp<;>omega) _|with_reducible refine Below.drew ?_))⟩
def adB (room:Nat)(s:Nat→Bool)(pc:Int):Bool:=thB room pc&&!s pc.toNat
def adS (s:Nat→Bool)(pc:Int):Nat→Bool:=fun n=>s n || decide ((n:Int)=pc)
theorem SIn.same {w:World}{X room:Nat}{s s':Nat→Bool}(h:SIn w X room s)(e:∀n,n<room→s' n=s n):SIn w X room s':=by
 obtain⟨W,h1,h2,h3,h4⟩:=h;exact⟨W,h1,h2,h3,fun n hn=>(e n hn).trans (h4 n hn)⟩
theorem SIn.put {w:World}{X room n x:Nat}{s:Nat→Bool}(h:SIn w X room s)(hn:n<room)(hx:w.cell? ⟨X,n/64,none⟩=some (.int .u64 x)):SIn (w.setCell ⟨X,n/64,none⟩ (.int .u64 ((x |||2^(n%64):Nat):Int))) X room (adS s n):=by
 obtain⟨W,h1,h2,h3,h4⟩:=h;have hlt:n/64<W.length:=by rw[h1];omega
 have e0:x=W[n/64]:=by
  rw[h2.2.1]at hx;simp[hlt]at hx;omega
 have hx':x<18446744073709551616:=by rw[e0];exact h3 _ (List.getElem_mem hlt)
 have hp:2^(n%64)<2^64:=Nat.pow_lt_pow_right (by omega) (Nat.mod_lt _ (by omega));have ho:x |||2^(n%64)<2^64:=Nat.or_lt_two_pow hx' hp
 refine⟨W.set (n/64) (x |||2^(n%64)),by simp[h1],?_,fun y hy=>?_,fun m hm=>?_⟩
 ·have:=h2.set (n/64) (.int .u64 ((x |||2^(n%64):Nat):Int)) (by simpa using hlt);simpa [List.map_set]using this
 ·rcases List.mem_or_eq_of_mem_set hy with r|r
  ·exact h3 y r
  ·rw[r];exact ho
 ·unfold adS;rw[h4 m hm];by_cases hq:m/64=n/64
  ·rw[hq];simp only[List.getElem?_set_self hlt,Option.getD_some,Nat.testBit_or,Nat.testBit_two_pow,List.getElem?_eq_getElem hlt,←e0]
   congr 1
   rw[decide_eq_decide];omega
  ·rw[List.getElem?_set_ne (fun q=>hq q.symm)];have:¬(m:Int)=n:=by omega
   simp[this]
theorem add_any (X room:Nat)(s:Nat→Bool)(pc:Int)(w:World)(h:SIn w X room s)(hr:room<2000000):
 Calls Tryz.prog 117 #[sv X room,.int .i64 pc] w fun e w'=>e=.returned (.bool (adB room s pc))∧SIn w' X room (adS s pc)∧Kp (fun k=>k=X) w w':=by
 have hM:=mayHave_any X room pc;have hX:=h.lt
 cases e0:thB room pc with
 |false=>
  rw[e0]at hM;have e1:adB room s pc=false:=by simp[adB,e0]
  rw[e1];have hS:∀W,Below w.heap.size w W→SIn W X room (adS s pc)∧Kp (fun k=>k=X) w W:=fun W q=>by
   refine⟨(h.below q hX).same (fun n hn=>?_),Kp.of_below q⟩;have:¬(n:Int)=pc:=by
    intro r;subst r;simp[thB]at e0;omega
   simp[adS,this]
  unfold sv at*;generalize (room+63)/64=nw at*;replace h:=Hid.mk h;replace hM:=Hid.mk hM;replace hS:=Hid.mk hS;go_enter Tryz.func117,Tryz.ntmps117;go_wp2_with(go_at_call 154;refine(hM.out _).mono ?_;rintro x w1 ⟨rfl,o,rfl⟩);go_ret;exact⟨rfl,hS.out _ (by(repeat(first|assumption|with_reducible exact Below.refl _ _|with_reducible refine Below.alloc ?_ (by simp<;>omega) _|with_reducible refine Below.setCell ?_ (by simp<;>omega) _|with_reducible refine Below.drew ?_)))⟩
 |true=>
  simp only[thB,Bool.and_eq_true,decide_eq_true_eq]at e0;obtain⟨n,rfl⟩:=Int.eq_ofNat_of_zero_le e0.1;have hn:n<room:=by omega
  have e1:thB room n=true:=by simp[thB];omega
  rw[e1]at hM;have hH:=fun W (q:Below w.heap.size w W)=>has_any X room n s W (h.below q hX) hr hn
  cases e2:s n with
  |true=>
   have e3:adB room s n=false:=by simp[adB,e2]
   rw[e3];rw[e2]at hH;have hS:∀W,Below w.heap.size w W→SIn W X room (adS s n)∧Kp (fun k=>k=X) w W:=fun W q=>by
    refine⟨(h.below q hX).same (fun m hm=>?_),Kp.of_below q⟩;by_cases r:m=n
    ·subst r;simp[adS,e2]
    ·have:¬(m:Int)=n:=by omega
     simp[adS,this]
   unfold sv at*;generalize (room+63)/64=nw at*;replace h:=Hid.mk h;replace hM:=Hid.mk hM;replace hH:=Hid.mk hH;replace hS:=Hid.mk hS;go_enter Tryz.func117,Tryz.ntmps117;go_wp2_with(first|(go_at_call 154;refine(hM.out _).mono ?_;rintro x w1 ⟨rfl,o,rfl⟩)|(go_at_call 122;refine(hH.out _ (by(repeat(first|assumption|with_reducible exact Below.refl _ _|with_reducible refine Below.alloc ?_ (by simp<;>omega) _|with_reducible refine Below.setCell ?_ (by simp<;>omega) _|with_reducible refine Below.drew ?_)))).mono ?_;rintro x w1 ⟨rfl,q1⟩;have Q1:Below w.heap.size w w1:=Below.trans (by(repeat(first|assumption|with_reducible exact Below.refl _ _|with_reducible refine Below.alloc ?_ (by simp<;>omega) _|with_reducible refine Below.setCell ?_ (by simp<;>omega) _|with_reducible refine Below.drew ?_))) (q1.mono (by simp<;>omega))));go_ret;exact⟨rfl,hS.out _ Q1⟩
  |false=>
   have e3:adB room s n=true:=by simp[adB,e2,e1]
   rw[e3];rw[e2]at hH;obtain⟨x,x1,x2,x3⟩:=h.word hn;have hB:=fun W=>bitOf_any n W (by omega)
   have hp:2^(n%64)<18446744073709551616:=Nat.pow_lt_pow_right (m:=n%64) (n:=64) (by omega) (Nat.mod_lt _ (by omega));have hb:=u64_or_nat x (2^(n%64)) x1 hp;have hnw:((n/64:Nat):Int)<(((room+63)/64:Nat):Int):=by omega
   have hq:=quo64 n (by omega);have hS:∀W,Below w.heap.size w W→SIn (W.setCell ⟨X,n/64,none⟩ (.int .u64 ((x |||2^(n%64):Nat):Int))) X room (adS s n)∧Kp (fun k=>k=X) w (W.setCell ⟨X,n/64,none⟩ (.int .u64 ((x |||2^(n%64):Nat):Int))):=fun W q=>
    ⟨(h.below q hX).put hn ((q.cell (p:=⟨X,n/64,none⟩) hX).trans x2),(Kp.of_below q).trans (Kp.set (S:=fun k=>k=X) W _ _ rfl) (fun k r=>.inl r)⟩
   have hC:∀W,Below w.heap.size w W→W.cell? ⟨X,n/64,none⟩=some (.int .u64 x)∧(∀o,W.frozen? ⟨X,o,none⟩=false):=fun W q=>⟨(q.cell (p:=⟨X,n/64,none⟩) hX).trans x2,fun o=>(q.frozen (p:=⟨X,o,none⟩) hX).trans (h.fr o)⟩
   unfold sv at*;generalize (room+63)/64=nw at*;generalize 2^(n%64)=bt at*;generalize n/64=q at*;replace h:=Hid.mk h;replace hM:=Hid.mk hM;replace hH:=Hid.mk hH;replace hS:=Hid.mk hS;replace hC:=Hid.mk hC;replace hB:=Hid.mk hB;clear x2 x3;go_enter Tryz.func117,Tryz.ntmps117;go_wp2_with(first|(go_at_call 154;refine(hM.out _).mono ?_;rintro x w1 ⟨rfl,o,rfl⟩)|(go_at_call 122;refine(hH.out _ (by(repeat(first|assumption|with_reducible exact Below.refl _ _|with_reducible refine Below.alloc ?_ (by simp<;>omega) _|with_reducible refine Below.setCell ?_ (by simp<;>omega) _|with_reducible refine Below.drew ?_)))).mono ?_;rintro x w1 ⟨rfl,q1⟩;have Q1:Below (w.heap.size+1) (w.alloc (.cells #[.slice (some ⟨X,0,none⟩) nw nw,.int .i64 room] 167)) w1:=Below.trans (by(repeat(first|assumption|with_reducible exact Below.refl _ _|with_reducible refine Below.alloc ?_ (by simp<;>omega) _|with_reducible refine Below.setCell ?_ (by simp<;>omega) _|with_reducible refine Below.drew ?_))) (q1.mono (by simp<;>omega))))
   have A1:=at_below (At.new w #[.slice (some ⟨X,0,none⟩) nw nw,.int .i64 room] 167) Q1 (Nat.lt_succ_self _);have Q2:Below w.heap.size w w1:=((Below.refl _ w).alloc (Nat.le_refl _) _).trans (Q1.mono (by omega));have z0:w1.cell? ⟨w.heap.size,0,none⟩=some (.slice (some ⟨X,0,none⟩) nw nw):=A1.2.1 0;have zl:=A1.1;obtain⟨c1,c2⟩:=hC.out w1 Q2;have hX':X<w1.heap.size:=Nat.lt_of_lt_of_le hX Q2.size;replace Q1:=Hid.mk Q1;replace Q2:=Hid.mk Q2;replace A1:=Hid.mk A1;go_region_with (go_at_call 155;refine(hB.out _).mono ?_;rintro x w2 ⟨rfl,rfl⟩)
   all_goals
    go_wp2_with fail;go_ret;exact⟨rfl,hS.out w1.drew Q2.out.drew⟩
theorem SIn.new (w:World)(room:Nat):SIn (w.alloc (.cells (Array.replicate ((room+63)/64) (.int .u64 0)) 25)) w.heap.size room (fun _=>false):=by
 refine⟨List.replicate ((room+63)/64) 0,by simp,?_,fun x hx=>?_,fun n hn=>?_⟩
 ·have:=At.new w (Array.replicate ((room+63)/64) (.int .u64 0)) 25;simpa using this
 ·rw[List.eq_of_mem_replicate hx];omega
 ·rw[List.getElem?_replicate]
  split<;>simp
theorem info_parts' {t:TypeId}{z:Value}{s b:Nat}(h:(Tryz.prog.info? t).map (fun i=>(i.zero,i.size,i.bytes))=some (some z,s,b)):
 ∃i,Tryz.prog.info? t=some i∧i.zero=some z∧i.size=s∧i.bytes=b:=by
 obtain⟨i,hi,he⟩:=Option.map_eq_some_iff.1 h;simp only[Prod.mk.injEq]at he;exact⟨i,hi,he.1,he.2.1,he.2.2⟩
theorem made_one (z:Value)(n:Nat):madeCells #[z] n=Array.replicate n z:=by
 apply Array.ext_getElem?;intro i;simp only[madeCells,Array.getElem?_map,Array.getElem?_range,Array.getElem?_replicate];by_cases h:i<n
 ·simp[h,Nat.mod_one]
 ·simp[h]
theorem make_row {t e:TypeId}{z:Value}{b:Nat}(ht:Tryz.prog.underlying t=some (.slice e))(hi:(Tryz.prog.info? e).map (fun i=>(i.zero,i.size,i.bytes))=some (some z,1,b))(hz:z.cells=#[z])(hb:b≤64)(n:Nat)(hn:n≤2000000)(w:World):
 (Instr.makeSlice t (.int .i64 n) (.int .i64 n)).run Tryz.prog w=.ok (.slice (some ⟨w.heap.size,0,none⟩) n n) (w.alloc (.cells (Array.replicate n z) e)):=by
 obtain⟨i0,hi0,hz0,hz1,hz2⟩:=info_parts' hi;have hbb:(i0.bytes:Int)*(n:Int)≤281474976710656:=by
  rw[hz2];have:b*n≤64*2000000:=Nat.mul_le_mul hb hn;have h:((b*n:Nat):Int)≤281474976710656:=by omega
  rwa [Int.natCast_mul]at h
 have h:=run_make (P:=Tryz.prog) w t e i0 z ht hi0 hz0 .i64 .i64 n n (by omega) (by omega) hbb (by omega);rw[hz1,hz,Nat.mul_one,Int.toNat_natCast,made_one]at h;exact h
theorem make_u64 (n:Nat)(hn:n≤2000000)(w:World):(Instr.makeSlice 46 (.int .i64 n) (.int .i64 n)).run Tryz.prog w=.ok (.slice (some ⟨w.heap.size,0,none⟩) n n) (w.alloc (.cells (Array.replicate n (.int .u64 0)) 25)):=
 make_row (b:=8) Tryz.underlying46 (by kernel_rfl) rfl (by decide) n hn w
theorem make_bools (n:Nat)(hn:n≤2000000)(w:World):(Instr.makeSlice 116 (.int .i64 n) (.int .i64 n)).run Tryz.prog w=.ok (.slice (some ⟨w.heap.size,0,none⟩) n n) (w.alloc (.cells (Array.replicate n (.bool false)) 4)):=
 make_row (b:=1) Tryz.underlying116 (by kernel_rfl) rfl (by decide) n hn w
theorem make_ints (n:Nat)(hn:n≤2000000)(w:World):(Instr.makeSlice 22 (.int .i64 n) (.int .i64 n)).run Tryz.prog w=.ok (.slice (some ⟨w.heap.size,0,none⟩) n n) (w.alloc (.cells (Array.replicate n (.int .i64 0)) 3)):=
 make_row (b:=8) Tryz.underlying22 (by kernel_rfl) rfl (by decide) n hn w
theorem newSet_any (room:Nat)(w:World)(hr:room<2000000):
 Calls Tryz.prog 116 #[.int .i64 room] w fun e w'=>e=.returned (sv (w.heap.size+1) room)∧SIn w' (w.heap.size+1) room (fun _=>false)∧Below w.heap.size w w'∧w'.heap.size=w.heap.size+2:=by
 have h3:((room:Int)+64 - 1)/64=(((room+63)/64:Nat):Int):=by omega
 have h4:(0:Int)≤(((room+63)/64:Nat):Int):=by omega
 have hN:=fun W=>SIn.new W room
 have hm:=make_u64 ((room+63)/64) (by omega);unfold sv;generalize (room+63)/64=nw at*;replace hN:=Hid.mk hN;go_enter Tryz.func116,Tryz.ntmps116;go_wp2_with fail;have hN1:=hN.out (w.alloc (.cells #[.slice (some ⟨w.heap.size+1,0,none⟩) nw nw,.int .i64 room] 167));rw[World.size_alloc]at hN1;simp[bodyPost,results,Tryz.results116,go_sem];exact⟨hN1,by(repeat(first|assumption|with_reducible exact Below.refl _ _|with_reducible refine Below.alloc ?_ (by simp<;>omega) _|with_reducible refine Below.setCell ?_ (by simp<;>omega) _|with_reducible refine Below.drew ?_))⟩
def FillAt (w0:World)(X nw room:Nat)(w:World)(j:Nat)(wr:World):Prop:=
 Hid (∃W:List Nat,W.length=nw∧At wr X (W.map fun n:Nat=>Value.int .u64 n).toArray∧(∀x∈W,x<18446744073709551616)∧(∀k,k<j→W[k]?=some 18446744073709551615)∧Kp (fun k=>k=X) w0 wr∧At wr w.heap.size #[.slice (some ⟨X,0,none⟩) nw nw,.int .i64 room]∧w0.heap.size=w.heap.size)
theorem fill_any (X room:Nat)(s:Nat→Bool)(w:World)(h:SIn w X room s)(hr:room<2000000):
 Calls Tryz.prog 121 #[sv X room] w fun e w'=>e=.returned (.tuple #[])∧SIn w' X room (fun _=>true)∧Kp (fun k=>k=X) w w':=by
 have hX:=h.lt;obtain⟨W0,h1,h2,h3,h4⟩:=h;unfold sv;have hnw:(room+63)/64≤2000000:=by omega
 have hF:FillAt w X ((room+63)/64) room w 0 (w.alloc (.cells #[.slice (some ⟨X,0,none⟩) ((room+63)/64) ((room+63)/64),.int .i64 room] 167)):=
  Hid.mk ⟨W0,h1,h2.alloc _,h3,fun k hk=>by omega,Kp.alloc _ _ _,At.new w _ _,rfl⟩
 have hE:∀wr,FillAt w X ((room+63)/64) room w ((room+63)/64) wr→SIn wr X room (fun _=>true)∧Kp (fun k=>k=X) w wr:=fun wr q=>by
  obtain⟨W,q1,q2,q3,q4,q5,q6,q7⟩:=q.out;refine⟨⟨W,q1,q2,q3,fun n hn=>?_⟩,q5⟩;rw[q4 (n/64) (by omega)];show true=Nat.testBit (2^64 - 1) (n%64);rw[Nat.testBit_two_pow_sub_one];have:=Nat.mod_lt n (show 0<64 by omega);simp[this]
 have hStep:∀j wr,FillAt w X ((room+63)/64) room w j wr→j<(room+63)/64→(∃y,wr.cell? ⟨X,j,none⟩=some y)∧wr.frozen? ⟨X,j,none⟩=false∧wr.cell? ⟨w.heap.size,0,none⟩=some (.slice (some ⟨X,0,none⟩) ((room+63)/64) ((room+63)/64))∧FillAt w X ((room+63)/64) room w (j+1) (wr.setCell ⟨X,j,none⟩ (.int .u64 18446744073709551615)):=fun j wr q hj=>by
  obtain⟨W,q1,q2,q3,q4,q5,q6,q7⟩:=q.out;have hjl:j<W.length:=by omega
  refine⟨⟨.int .u64 (W[j]:Nat),by rw[q2.2.1];simp[hjl]⟩,q2.2.2 j,q6.2.1 0,Hid.mk ⟨W.set j 18446744073709551615,by simp[q1],?_,fun x hx=>?_,fun k hk=>?_,q5.trans (Kp.set (S:=fun k=>k=X) wr _ _ rfl) (fun k r=>.inl r),q6.set_other _ (by omega),q7⟩⟩
  ·have:=q2.set j (.int .u64 18446744073709551615) (by simpa using hjl);simpa [List.map_set]using this
  ·rcases List.mem_or_eq_of_mem_set hx with r|r
   ·exact q3 x r
   ·rw[r];omega
  ·by_cases e:k=j
   ·subst e;simp[hjl]
   ·rw[List.getElem?_set_ne (fun r=>e r.symm)];exact q4 k (by omega)
 clear h1 h2 h3 h4;generalize (room+63)/64=nw at*;replace hE:=Hid.mk hE;replace hStep:=Hid.mk hStep;go_enter Tryz.func121,Tryz.ntmps121;go_wp2_with fail;go_loopw [6] (fun i wr=>∃j:Nat,i=.int .i64 j∧j≤nw∧FillAt w X nw room w j wr) (fun i _=>nw - (intOf i).toNat)
 case atStart=>exact⟨0,rfl,by omega,hF⟩
 case round=>
  obtain⟨j,rfl,hj,hI⟩:=hrel;by_cases hlt:j<nw
  ·obtain⟨⟨y,s1⟩,s2,s3,s4⟩:=hStep.out j wr hI hlt;have hi1:(j:Int)<nw:=by omega
   have hw1:IntKind.i64.wrap ((j:Int)+1)=((j+1:Nat):Int):=by rw[IntKind.wrap_i64];omega
   go_wp2_with fail;go_roundw
   all_goals first|exact⟨j+1,by simp,by omega,s4⟩|(simp only[intOf];omega)
  ·have hi1:¬(j:Int)<nw:=by omega
   have ej:j=nw:=by omega
   subst ej;go_wp2_with fail;go_end0;exact⟨rfl,hE.out _ hI⟩
def TruAt (w:World)(X nw room:Nat)(s:Nat→Bool)(j:Nat)(wr:World):Prop:=
 Hid (Below w.heap.size w wr∧At wr w.heap.size #[.slice (some ⟨X,0,none⟩) nw nw,.int .i64 room]∧w.heap.size+1<wr.heap.size∧
  (∀k,k<room→wr.cell? ⟨w.heap.size+1,k,none⟩=some (.bool (if k<j then s k else false)))∧(∀k,room≤k→wr.cell? ⟨w.heap.size+1,k,none⟩=none)∧∀o,wr.frozen? ⟨w.heap.size+1,o,none⟩=false)
theorem truths_any (X room:Nat)(s:Nat→Bool)(w:World)(h:SIn w X room s)(hr:room<2000000):
 Calls Tryz.prog 76 #[sv X room] w fun e w'=>∃g,e=.returned (.slice (some ⟨g,0,none⟩) room room)∧w.heap.size≤g∧At w' g ((List.range room).map fun k=>Value.bool (s k)).toArray∧Below w.heap.size w w':=by
 have hX:=h.lt;have hm:=make_bools room (by omega);have hH:=fun(k:Nat) (hk:k<room) W (q:Below w.heap.size w W)=>has_any X room k s W (h.below q hX) hr hk
 unfold sv at*;generalize (room+63)/64=nw at*;have h0:TruAt w X nw room s 0 ((w.alloc (.cells #[.slice (some ⟨X,0,none⟩) nw nw,.int .i64 room] 167)).alloc (.cells (Array.replicate room (.bool false)) 4)):=by
  have a2:=At.next w (.cells #[.slice (some ⟨X,0,none⟩) nw nw,.int .i64 room] 167) (Array.replicate room (.bool false)) 4;refine Hid.mk ⟨by(repeat(first|assumption|with_reducible exact Below.refl _ _|with_reducible refine Below.alloc ?_ (by simp<;>omega) _|with_reducible refine Below.setCell ?_ (by simp<;>omega) _|with_reducible refine Below.drew ?_)),(At.new w _ _).alloc _,a2.1,fun k hk=>?_,fun k hk=>?_,a2.2.2⟩
  ·rw[a2.2.1];simp[hk]
  ·rw[a2.2.1];simp;omega
 have hE:∀wr,TruAt w X nw room s room wr→At wr (w.heap.size+1) ((List.range room).map fun k=>Value.bool (s k)).toArray∧Below w.heap.size w wr:=fun wr q=>by
  obtain⟨q1,q2,q3,q4,q5,q6⟩:=q.out;refine⟨⟨q3,fun o=>?_,q6⟩,q1⟩;by_cases ho:o<room
  ·rw[q4 o ho];simp[ho]
  ·rw[q5 o (by omega),eq_comm,List.getElem?_toArray,List.getElem?_eq_none (by simp;omega)]
 have hS:∀j wr w1,TruAt w X nw room s j wr→j<room→Below wr.heap.size wr w1→TruAt w X nw room s (j+1) (w1.setCell ⟨w.heap.size+1,j,none⟩ (.bool (s j))):=fun j wr w1 q hj hb=>by
  obtain⟨q1,q2,q3,q4,q5,q6⟩:=q.out;have hsz:=q1.size;have hsb:=hb.size;refine Hid.mk ⟨(q1.trans (hb.mono hsz)).setCell (by simp) _,(at_below q2 hb q2.1).set_other _ (by omega),by simpa using Nat.lt_of_lt_of_le q3 hsb,fun k hk=>?_,fun k hk=>?_,fun o=>by simpa using(hb.frozen (p:=⟨w.heap.size+1,o,none⟩) q3).trans (q6 o)⟩
  ·by_cases e:k=j
   ·subst e;rw[World.cell?_setCell_same _ _ _ ((hb.cell (p:=⟨w.heap.size+1,k,none⟩) q3).trans (q4 k hk)),if_pos (by omega)]
   ·rw[cso (fun _ r=>e r.symm),hb.cell (p:=⟨w.heap.size+1,k,none⟩) q3,q4 k hk];by_cases e2:k<j
    ·rw[if_pos e2,if_pos (by omega)]
    ·rw[if_neg e2,if_neg (by omega)]
  ·rw[cso (fun _ r=>by omega),hb.cell (p:=⟨w.heap.size+1,k,none⟩) q3,q5 k hk]
 have hC:∀j wr,TruAt w X nw room s j wr→j<room→(∃y,wr.cell? ⟨w.heap.size+1,j,none⟩=some y)∧wr.frozen? ⟨w.heap.size+1,j,none⟩=false∧wr.cell? ⟨w.heap.size,0,none⟩=some (.slice (some ⟨X,0,none⟩) nw nw)∧wr.cell? ⟨w.heap.size,1,none⟩=some (.int .i64 room)∧Below w.heap.size w wr∧w.heap.size+1<wr.heap.size:=fun j wr q hj=>by
  obtain⟨q1,q2,q3,q4,q5,q6⟩:=q.out;exact⟨⟨_,q4 j hj⟩,q6 j,q2.2.1 0,q2.2.1 1,q1,q3⟩
 replace h:=Hid.mk h;replace hH:=Hid.mk hH;replace hE:=Hid.mk hE;replace hS:=Hid.mk hS;replace hC:=Hid.mk hC;go_enter Tryz.func76,Tryz.ntmps76;go_wp2_with fail;go_loopw [10] (fun i wr=>∃j:Nat,i=.int .i64 j∧j≤room∧TruAt w X nw room s j wr) (fun i _=>room - (intOf i).toNat)
 case atStart=>exact⟨0,rfl,by omega,h0⟩
 case round=>
  obtain⟨j,rfl,hj,hI⟩:=hrel;by_cases hlt:j<room
  ·obtain⟨⟨y,s1⟩,s2,s3,s4,s5,s6⟩:=hC.out j wr hI hlt;have hi1:(j:Int)<room:=by omega
   replace s5:=Hid.mk s5;go_wp2_with(go_at_call 122;refine(hH.out j hlt _ s5.out).mono ?_;rintro x w1 ⟨rfl,q1⟩;have c1:=(q1.cell (p:=⟨w.heap.size+1,j,none⟩) s6).trans s1;have c2:=(q1.frozen (p:=⟨w.heap.size+1,j,none⟩) s6).trans s2;have c3:=Hid.mk (hS.out j wr w1 hI hlt q1);replace q1:=Hid.mk q1);go_roundw
   all_goals first|exact⟨j+1,by simp,by omega,c3.out⟩|(simp only[intOf];omega)
  ·have hi1:¬(j:Int)<room:=by omega
   have ej:j=room:=by omega
   subst ej;go_wp2_with fail;go_ret;exact⟨_,rfl,by simp,(hE.out _ hI).1,(hE.out _ hI).2⟩
def cnt:Nat→(Nat→Bool)→Nat
 |0,_=>0
 |n+1,s=>cnt n s+if s n then 1 else 0
theorem cnt_le (n:Nat)(s:Nat→Bool):cnt n s≤n:=by
 induction n with
 |zero=>exact Nat.le_refl _
 |succ n ih=>unfold cnt;split<;>omega
theorem cnt_mono (n:Nat){s s':Nat→Bool}(h:∀q,q<n→s q=true→s' q=true):cnt n s≤cnt n s':=by
 induction n with
 |zero=>exact Nat.le_refl _
 |succ n ih=>
  have:=ih (fun q hq=>h q (by omega));have h1:=h n (by omega);unfold cnt
  cases e:s n
  ·simp only[Bool.false_eq_true,if_false];split<;>omega
  ·rw[h1 e];simp;exact this
theorem cnt_congr (n:Nat){s s':Nat→Bool}(h:∀q,q<n→s q=s' q):cnt n s=cnt n s':=by
 induction n with
 |zero=>rfl
 |succ n ih=>
  unfold cnt;rw[ih (fun q hq=>h q (by omega)),h n (by omega)]
theorem cnt_add (n p:Nat)(s:Nat→Bool)(hp:p<n)(h:s p=false):cnt n (adS s p)=cnt n s+1:=by
 induction n with
 |zero=>omega
 |succ n ih=>
  unfold cnt;by_cases e:p=n
  ·subst e;have:cnt p (adS s p)=cnt p s:=cnt_congr p (fun q hq=>by
    have:¬(q:Int)=p:=by omega
    simp[adS,this])
   rw[this,h];simp[adS]
  ·rw[ih (by omega)];have:¬(n:Int)=p:=by omega
   simp[adS,this];omega
def wyF (wy m:Int)(p q:Nat):Bool:=if wy=4 then false else if wy=3 then true else if wy=1 then decide ((q:Int)=m)else if wy=2 then decide ((q:Int)=m) || decide (q=p+1)else decide (q=p+1)
def folB (L:List Ins)(p q:Nat):Bool:=decide (q<L.length)&&match L[p]? with|none=>false|some k=>wyF (wayN k.op) k.m p q
inductive Rch (L:List Ins) (E:List Int) (out:Int):Nat→Prop
 |base {q:Nat}:(q:Int)∈E→q<L.length→(q:Int)≠out→Rch L E out q
 |step {p q:Nat}:Rch L E out p→folB L p q=true→(q:Int)≠out→Rch L E out q
theorem folB_lt {L:List Ins}{p q:Nat}(h:folB L p q=true):q<L.length:=by
 simp[folB]at h;exact h.1
theorem folB_lt' {L:List Ins}{p q:Nat}(h:folB L p q=true):p<L.length:=by
 simp only[folB,Bool.and_eq_true]at h;rcases Nat.lt_or_ge p L.length with e|e
 ·exact e
 ·rw[List.getElem?_eq_none e]at h;simp at h
theorem Rch.ne {L:List Ins}{E:List Int}{out:Int}{q:Nat}(h:Rch L E out q):(q:Int)≠out:=by
 cases h with
 |base _ _ h=>exact h
 |step _ _ h=>exact h
def Clo (L:List Ins)(out:Int)(R:Nat→Prop):Prop:=∀p q,R p→folB L p q=true→(q:Int)≠out→R q
structure Wk (L:List Ins)(out:Int)(s:Nat→Bool)(pc:Int)(s1:Nat→Bool)(D:List Int)(pc1:Int):Prop where
 mono:∀q,q<L.length→s q=true→s1 q=true
 cov:thB L.length pc=true→s1 pc.toNat=true∨pc∈D∨pc=pc1
 clo:∀p q,s1 p=true→s p=false→folB L p q=true→s1 q=true∨(q:Int)∈D∨(q:Int)=pc1
 snd:∀R:Nat→Prop,Clo L out R→(thB L.length pc=true→pc≠out→R pc.toNat)→
  (∀q,q<L.length→s1 q=true→s q=true∨R q)∧(∀d∈D,thB L.length d=true→d≠out→R d.toNat)∧(thB L.length pc1=true→pc1≠out→R pc1.toNat)
 ct:D.length+cnt L.length s≤cnt L.length s1
structure Wf (L:List Ins)(out:Int)(dp:Nat)(s:Nat→Bool)(pc:Int)(s1:Nat→Bool)(D:List Int):Prop where
 mono:∀q,q<L.length→s q=true→s1 q=true
 cov:thB L.length pc=true→s1 pc.toNat=true∨pc∈D
 clo:∀p q,s1 p=true→s p=false→folB L p q=true→s1 q=true∨(q:Int)∈D
 snd:∀R:Nat→Prop,Clo L out R→(thB L.length pc=true→pc≠out→R pc.toNat)→
  (∀q,q<L.length→s1 q=true→s q=true∨R q)∧(∀d∈D,thB L.length d=true→d≠out→R d.toNat)
 ct:D.length+cnt L.length s≤cnt L.length s1+dp
theorem thB_nat {n q:Nat}:thB n (q:Int)=true↔q<n:=by simp[thB]
theorem thB_elim {n:Nat}{pc:Int}(h:thB n pc=true):∃q:Nat,pc=q∧q<n:=by
 simp[thB]at h;exact⟨pc.toNat,by omega,by omega⟩
theorem Wf.deep (L:List Ins)(out:Int)(s:Nat→Bool)(pc:Int):Wf L out 1 s pc s [pc]:=
 ⟨fun _ _ h=>h,fun _=>.inr (by simp),fun p q h1 h2 _=>(by rw[h1]at h2;exact absurd h2 (by simp)),
  fun R _ h0=>⟨fun q _ h=>.inl h,fun d hd=>by rw[List.mem_singleton.1 hd];exact h0⟩,by simp;omega⟩
theorem Wk.start (L:List Ins)(out:Int)(s:Nat→Bool)(pc:Int):Wk L out s pc s [] pc:=
 ⟨fun _ _ h=>h,fun _=>.inr (.inr rfl),fun p q h1 h2 _=>(by rw[h1]at h2;exact absurd h2 (by simp)),
  fun R _ h0=>⟨fun q _ h=>.inl h,fun d hd=>by simp at hd,h0⟩,by simp⟩
theorem Wk.stop {L:List Ins}{out:Int}{s s1 s2:Nat→Bool}{pc pc1:Int}{D:List Int}(h:Wk L out s pc s1 D pc1)(hs:adB L.length s1 pc1=false)(hs2:s2=adS s1 pc1)(dp:Nat):∃s3,Wf L out dp s pc s3 D∧∀q,q<L.length→s2 q=s3 q:=by
 have hc:thB L.length pc1=true→s1 pc1.toNat=true:=by
  intro e;simp only[adB,e,Bool.true_and,Bool.not_eq_false']at hs;exact hs
 refine⟨s1,⟨h.mono,fun e=>?_,fun p q h1 h2 h3=>?_,fun R r1 r2=>⟨(h.snd R r1 r2).1,(h.snd R r1 r2).2.1⟩,by have:=h.ct;omega⟩,fun q hq=>?_⟩
 ·rcases h.cov e with r|r|r
  ·exact .inl r
  ·exact .inr r
  ·subst r;exact .inl (hc e)
 ·rcases h.clo p q h1 h2 h3 with r|r|r
  ·exact .inl r
  ·exact .inr r
  ·refine .inl ?_;have:=hc (by rw[←r,thB_nat];exact folB_lt h3);rw[←r]at this;simpa using this
 ·subst hs2;unfold adS;by_cases e:(q:Int)=pc1
  ·have:=hc (by rw[←e,thB_nat];exact hq);rw[←e]at this;simp at this;rw[this];rfl
  ·simp[e]
theorem Wk.snd1 {L:List Ins}{out:Int}{s s1:Nat→Bool}{pc:Int}{p:Nat}{D:List Int}(h:Wk L out s pc s1 D p)(hp:p<L.length)(hs:s1 p=false)(ho:thB L.length out=true→s out.toNat=true):(p:Int)≠out:=by
 intro e;subst e;have:=h.mono p hp (by simpa using ho (thB_nat.2 hp));rw[hs]at this
 cases this
theorem Wk.ends {L:List Ins}{out:Int}{s s1:Nat→Bool}{pc:Int}{p:Nat}{D:List Int}(h:Wk L out s pc s1 D p)(hp:p<L.length)(hs:s1 p=false)(ho:thB L.length out=true→s out.toNat=true)(hw:wayN (L[p]).op=4)(dp:Nat):Wf L out dp s pc (adS s1 p) D:=by
 have hne:=h.snd1 hp hs ho;refine⟨fun q hq e=>by simp[adS,h.mono q hq e],fun e=>?_,fun p' q h1 h2 h3=>?_,fun R r1 r2=>⟨fun q hq e=>?_,(h.snd R r1 r2).2.1⟩,?_⟩
 ·rcases h.cov e with r|r|r
  ·exact .inl (by simp[adS,r])
  ·exact .inr r
  ·subst r;exact .inl (by simp[adS])
 ·by_cases e:p'=p
  ·subst e;simp[folB,hp,wyF,hw]at h3
  ·have h1':s1 p'=true:=by
    have:¬(p':Int)=p:=by omega
    simpa [adS,this]using h1
   rcases h.clo p' q h1' h2 h3 with r|r|r
   ·exact .inl (by simp[adS,r])
   ·exact .inr r
   ·exact .inl (by simp[adS,r])
 ·by_cases e2:q=p
  ·subst e2;refine .inr ?_;have:=(h.snd R r1 r2).2.2 (thB_nat.2 hp) hne;simpa using this
  ·have:¬(q:Int)=p:=by omega
   exact(h.snd R r1 r2).1 q hq (by simpa [adS,this]using e)
 ·rw[cnt_add _ _ _ hp hs];have:=h.ct;omega
theorem Wk.any {L:List Ins}{out:Int}{s s1:Nat→Bool}{pc:Int}{p:Nat}{D:List Int}(h:Wk L out s pc s1 D p)(hp:p<L.length)(hs:s1 p=false)(ho:thB L.length out=true→s out.toNat=true)(hw:wayN (L[p]).op=3)(dp:Nat):Wf L out dp s pc (fun _=>true) D:=by
 have hne:=h.snd1 hp hs ho;refine⟨fun _ _ _=>rfl,fun _=>.inl rfl,fun _ _ _ _ _=>.inl rfl,fun R r1 r2=>⟨fun q hq _=>?_,(h.snd R r1 r2).2.1⟩,?_⟩
 ·by_cases e:(q:Int)=out
  ·refine .inl ?_;have:=ho (by rw[←e];exact thB_nat.2 hq);rw[←e]at this;simpa using this
  ·refine .inr (r1 p q ?_ ?_ e)
   ·have:=(h.snd R r1 r2).2.2 (thB_nat.2 hp) hne;simpa using this
   ·simp[folB,hp,hq,wyF,hw]
 ·have:=h.ct;have:=cnt_mono L.length (s:=s1) (s':=fun _=>true) (fun _ _ _=>rfl);omega
theorem Wk.on {L:List Ins}{out:Int}{s s1 s3:Nat→Bool}{pc tt:Int}{p:Nat}{D D':List Int}(h:Wk L out s pc s1 D p)(hp:p<L.length)(hs:s1 p=false)(ho:thB L.length out=true→s out.toNat=true)
 (h3:∀q,q<L.length→adS s1 p q=true→s3 q=true)
 (hto:∀q,folB L p q=true→(q:Int)=tt∨s3 q=true∨(q:Int)∈D')
 (hfo:thB L.length tt=true→folB L p tt.toNat=true)
 (hcl:∀p' q,s3 p'=true→adS s1 p p'=false→folB L p' q=true→s3 q=true∨(q:Int)∈D')
 (hsn:∀R:Nat→Prop,Clo L out R→R p→(∀q,q<L.length→s3 q=true→adS s1 p q=true∨R q)∧(∀d∈D',thB L.length d=true→d≠out→R d.toNat))
 (hct:D'.length+cnt L.length (adS s1 p)≤cnt L.length s3+1):Wk L out s pc s3 (D++D') tt:=by
 have hne:=h.snd1 hp hs ho;refine⟨fun q hq e=>h3 q hq (by simp[adS,h.mono q hq e]),fun e=>?_,fun p' q h1 h2 hf=>?_,fun R r1 r2=>?_,?_⟩
 ·obtain⟨n,rfl,hn⟩:=thB_elim e;rcases h.cov e with r|r|r
  ·exact .inl (h3 _ (by simpa using hn) (by simp at r;simp[adS,r]))
  ·exact .inr (.inl (by simp[r]))
  ·have:n=p:=by omega
   subst this;exact .inl (h3 _ (by simpa using hn) (by simp[adS]))
 ·have hq:=folB_lt hf;have hp':=folB_lt' hf;by_cases e:p'=p
  ·subst e;rcases hto q hf with r|r|r
   ·exact .inr (.inr r)
   ·exact .inl r
   ·exact .inr (.inl (by simp[r]))
  ·have epp:¬(p':Int)=p:=by omega
   cases e1:s1 p' with
   |true=>
    rcases h.clo p' q e1 h2 hf with r|r|r
    ·exact .inl (h3 q hq (by simp[adS,r]))
    ·exact .inr (.inl (by simp[r]))
    ·exact .inl (h3 q hq (by simp[adS,r]))
   |false=>
    rcases hcl p' q h1 (by simp[adS,e1,epp]) hf with r|r
    ·exact .inl r
    ·exact .inr (.inl (by simp[r]))
 ·have hR:R p:=by
   have:=(h.snd R r1 r2).2.2 (thB_nat.2 hp) hne;simpa using this
  obtain⟨g1,g2⟩:=hsn R r1 hR;refine⟨fun q hq e=>?_,fun d hd=>?_,fun e1 e2=>?_⟩
  ·rcases g1 q hq e with r|r
   ·by_cases e2:q=p
    ·subst e2;exact .inr hR
    ·have:¬(q:Int)=p:=by omega
     exact(h.snd R r1 r2).1 q hq (by simpa [adS,this]using r)
   ·exact .inr r
  ·rcases List.mem_append.1 hd with r|r
   ·exact(h.snd R r1 r2).2.1 d r
   ·exact g2 d r
  ·obtain⟨n,rfl,hn⟩:=thB_elim e1;exact r1 p n hR (by have:=hfo e1;simpa using this) e2
 ·rw[cnt_add _ _ _ hp hs]at hct;have:=h.ct;rw[List.length_append];omega
theorem addr_add (b off k:Nat):(⟨b,off,none⟩:Addr).add k=⟨b,off+k,none⟩:=by by_cases h:k=0<;>simp[Addr.add,h]
def IOwn (w:World)(base:Nat)(v:Value)(L:List Int):Prop:=w.ownsRow base 3 1 v L.length (L.map (Value.int .i64))
theorem wpList_append_int {ops:Array Oper}{rest:List Oper}{o:Oper}{a:Act}{Q:Exit→Act→World→Prop}{w:World}(hgd:o.guard=none)(s x:Operand)
 (ho:o.op=.call {callee:=.builtin .append,args:=#[s,x],argTypes:=#[22,22]})
 (base:Nat)(v:Value)(L:List Int)(y:Int)(hs:a.eval s=v)(hL:IOwn w base v L)
 (X:Nat)(hx:a.eval x=.slice (some ⟨X,0,none⟩) 1 1)(hX:At w X #[.int .i64 y])(hlen:L.length≤8000000)(hbase:base≤w.heap.size)
 (h:∀g cap w',IOwn w' base (.slice (some ⟨g,0,none⟩) (L.length+1) cap) (L++[y])→w.grownBy w' v.ownBlock→(v.ownBlock=some g∨g=w.heap.size)→g<w'.heap.size→wpList Tryz.prog ops Q rest (a.put o.dst (.slice (some ⟨g,0,none⟩) (L.length+1) cap)) w'):
 wpList Tryz.prog ops Q (o::rest) a w:=by
 obtain⟨i0,hi,hz0,hz1,hz2⟩:=info_parts' (t:=3) (z:=.int .i64 0) (s:=1) (b:=8) (by kernel_rfl);have hn:∀j u,[Value.int .i64 y][j]?=some u→w.cell? ((⟨X,0,none⟩:Addr).add j)=some u:=by
  intro j u hj;rw[addr_add,hX.2.1];simpa using hj
 refine wpList_append_lies _ hgd s x 22 ho base 3 i0 (.int .i64 0) 1 8 Tryz.underlying22 hi hz0 hz1 hz2 rfl (by decide) v L.length (L.map (Value.int .i64)) hs hL ⟨X,0,none⟩ 1 1 [.int .i64 y] hx rfl hn (by simp[Value.oneCell']) (by decide) (by unfold maxLen;omega) (by omega) hbase _ rfl ?_;intro g cap w' h1 h2 h3 h4;exact h g cap w' (by unfold IOwn;rw[List.length_append,List.map_append];exact h1) h2 h3 h4
structure CP where
 lo:Nat
 bw:Nat
 bs:Nat
 bc:Nat
 bk:Nat
 X:Nat
 cc:Nat
 ca:Option Addr
def CP.fv (p:CP):Value:=.func (.func 119) #[] #[.pointer (some ⟨p.bw,0,none⟩),.pointer (some ⟨p.bs,0,none⟩),.pointer (some ⟨p.bc,0,none⟩),.pointer (some ⟨p.bk,0,none⟩)]
structure CS (p:CP)(L:List Ins)(w:World)(v:Value)(s:Nat→Bool)(W:List Int):Prop where
 iw:At w p.bw #[v]
 row:IOwn w p.lo v W
 is_:At w p.bs #[.slice (some ⟨p.X,0,none⟩) ((L.length+63)/64) ((L.length+63)/64),.int .i64 L.length]
 ic:At w p.bc #[.slice p.ca L.length p.cc]
 ik:At w p.bk #[p.fv]
 st:SIn w p.X L.length s
 co:LIn p.lo w p.ca L
 ne:p.bw≠p.bs∧p.bw≠p.bc∧p.bw≠p.bk∧p.bw≠p.X∧p.X≠p.bs∧p.X≠p.bc∧p.X≠p.bk
 nv:∀g,v.ownBlock=some g→g≠p.bw∧g≠p.bs∧g≠p.bc∧g≠p.bk∧g≠p.X
 lo:p.lo≤p.X∧p.lo≤p.bw∧p.lo≤w.heap.size
theorem at_kp {S:Nat→Prop}{w w1:World}{k:Nat}{cs:Array Value}(h:At w k cs)(hb:Kp S w w1)(hk:¬S k):At w1 k cs:=
 ⟨Nat.lt_of_lt_of_le h.1 hb.size,fun o=>(cell_of_block (hb.block k h.1 hk) o).trans (h.2.1 o),fun o=>(frozen_of_block (hb.block k h.1 hk) o).trans (h.2.2 o)⟩
theorem own_kp {S:Nat→Prop}{w w1:World}{base e size n:Nat}{v:Value}{xs:List Value}(h:w.ownsRow base e size v n xs)(hb:Kp S w w1)(hk:∀g,v.ownBlock=some g→¬S g):w1.ownsRow base e size v n xs:=by
 refine⟨h.1,?_⟩;rcases h.2 with h2|⟨g,cap,cur,hv,hbg,hg,rest⟩
 ·exact .inl h2
 ·have hlt:g<w.heap.size:=(Array.getElem?_eq_some_iff.1 hg).1;exact .inr ⟨g,cap,cur,hv,hbg,(hb.block g hlt (hk g (by rw[hv];rfl))).trans hg,rest⟩
theorem sin_kp {S:Nat→Prop}{w w1:World}{X room:Nat}{s:Nat→Bool}(h:SIn w X room s)(hb:Kp S w w1)(hk:¬S X):SIn w1 X room s:=by
 obtain⟨W,h1,h2,h3,h4⟩:=h;exact⟨W,h1,at_kp h2 hb hk,h3,h4⟩
theorem CS.below {p:CP}{L:List Ins}{w w1:World}{v:Value}{s:Nat→Bool}{W:List Int}(h:CS p L w v s W)(hb:Below w.heap.size w w1):CS p L w1 v s W:=
 ⟨at_below h.iw hb h.iw.1,own_below h.row hb,at_below h.is_ hb h.is_.1,at_below h.ic hb h.ic.1,at_below h.ik hb h.ik.1,h.st.below hb h.st.lt,h.co.below (hb.mono h.lo.2.2),h.ne,h.nv,h.lo.1,h.lo.2.1,Nat.le_trans h.lo.2.2 hb.size⟩
theorem CS.same {p:CP}{L:List Ins}{w:World}{v:Value}{s s':Nat→Bool}{W:List Int}(h:CS p L w v s W)(e:∀q,q<L.length→s q=s' q):CS p L w v s' W:=
 ⟨h.iw,h.row,h.is_,h.ic,h.ik,h.st.same (fun n hn=>(e n hn).symm),h.co,h.ne,h.nv,h.lo⟩
theorem CS.sets {p:CP}{L:List Ins}{w w1:World}{v:Value}{s s1:Nat→Bool}{W:List Int}(h:CS p L w v s W)(hs:SIn w1 p.X L.length s1)(hb:Kp (fun k=>k=p.X) w w1):CS p L w1 v s1 W∧Below p.lo w w1:=by
 have hB:Below p.lo w w1:=hb.below h.lo.2.2 (fun k q=>by have:=h.lo.1;omega);obtain⟨n1,n2,n3,n4,n5,n6,n7⟩:=h.ne;exact⟨⟨at_kp h.iw hb n4,own_kp h.row hb (fun g q=>(h.nv g q).2.2.2.2),at_kp h.is_ hb (fun q=>n5 q.symm),at_kp h.ic hb (fun q=>n6 q.symm),at_kp h.ik hb (fun q=>n7 q.symm),hs,h.co.below hB,h.ne,h.nv,h.lo.1,h.lo.2.1,Nat.le_trans h.lo.2.2 hb.size⟩,hB⟩
theorem CS.push {p:CP}{L:List Ins}{w w1 w2:World}{v:Value}{s:Nat→Bool}{W:List Int}{g cap:Nat}{y:Int}(h:CS p L w v s W)(h1:Below w.heap.size w w1)
 (ho:IOwn w2 p.lo (.slice (some ⟨g,0,none⟩) (W.length+1) cap) (W++[y]))(hg:w1.grownBy w2 v.ownBlock)(hgg:v.ownBlock=some g∨g=w1.heap.size):
 CS p L (w2.setCell ⟨p.bw,0,none⟩ (.slice (some ⟨g,0,none⟩) (W.length+1) cap)) (.slice (some ⟨g,0,none⟩) (W.length+1) cap) s (W++[y])∧Below p.lo w (w2.setCell ⟨p.bw,0,none⟩ (.slice (some ⟨g,0,none⟩) (W.length+1) cap)):=by
 have q:=h.below h1;have hk:Kp (fun k=>v.ownBlock=some k) w1 w2:=⟨hg.os,hg.tape,hg.output,hg.size,fun k hk hn=>hg.block k hk (fun e=>hn e.symm)⟩;obtain⟨n1,n2,n3,n4,n5,n6,n7⟩:=h.ne;have hgn:g≠p.bw∧g≠p.bs∧g≠p.bc∧g≠p.bk∧g≠p.X:=by
  rcases hgg with r|r
  ·exact h.nv g r
  ·have a1:=q.iw.1;have a2:=q.is_.1;have a3:=q.ic.1;have a4:=q.ik.1;have a5:=q.st.lt;refine⟨?_,?_,?_,?_,?_⟩<;>omega
 have iw:=at_kp q.iw hk (fun r=>(h.nv _ r).1 rfl);have hs:Kp (fun k=>k=p.bw) w2 (w2.setCell ⟨p.bw,0,none⟩ (.slice (some ⟨g,0,none⟩) (W.length+1) cap)):=Kp.set (S:=fun k=>k=p.bw) w2 _ _ rfl;have hB:Below p.lo w2 (w2.setCell ⟨p.bw,0,none⟩ (.slice (some ⟨g,0,none⟩) (W.length+1) cap)):=(Below.refl _ _).setCell h.lo.2.1 _;have hB1:Below p.lo w1 w2:=Below.of_grown hg q.lo.2.2 (fun k r=>by
  rcases h.row.2 with⟨rfl,_⟩|⟨g',cap',cur,rfl,hbg,hh,rest⟩
  ·cases r
  ·have:g'=k:=by simpa [Value.ownBlock]using r
   omega)
 refine⟨⟨?_,?_,at_kp (at_kp q.is_ hk (fun r=>(h.nv _ r).2.1 rfl)) hs (fun r=>n1 r.symm),at_kp (at_kp q.ic hk (fun r=>(h.nv _ r).2.2.1 rfl)) hs (fun r=>n2 r.symm),at_kp (at_kp q.ik hk (fun r=>(h.nv _ r).2.2.2.1 rfl)) hs (fun r=>n3 r.symm),sin_kp (sin_kp q.st hk (fun r=>(h.nv _ r).2.2.2.2 rfl)) hs (fun r=>n4 r.symm),(q.co.below hB1).below hB,h.ne,?_,h.lo.1,h.lo.2.1,?_⟩,((h1.mono h.lo.2.2).trans hB1).trans hB⟩
 ·have:=iw.set 0 (.slice (some ⟨g,0,none⟩) (W.length+1) cap) (by simp);simpa using this
 ·have e:(W++[y]).length=W.length+1:=by simp
  unfold IOwn at*;exact own_kp ho hs (fun k r=>by
   have:g=k:=by simpa [Value.ownBlock]using r
   rw[←this];exact hgn.1)
 ·intro k r;have:g=k:=by simpa [Value.ownBlock]using r
  rw[←this];exact hgn
 ·have:=hg.size;have:=q.lo.2.2;simp;omega
def setOf (w:World)(X:Nat):Nat→Bool:=fun n=>match w.cell? ⟨X,n/64,none⟩with|some (.int _ v)=>Nat.testBit v.toNat (n%64)|_=>false
theorem setOf_eq {w:World}{X room:Nat}{s:Nat→Bool}(h:SIn w X room s):∀n,n<room→setOf w X n=s n:=fun n hn=>by
 obtain⟨x,x1,x2,x3⟩:=h.word hn;rw[x3];simp[setOf,x2]
theorem cnt_set {w:World}{X room:Nat}{s:Nat→Bool}(h:SIn w X room s):cnt room (setOf w X)=cnt room s:=cnt_congr room (setOf_eq h)
theorem CS.ins {p:CP}{L:List Ins}{w:World}{v:Value}{s:Nat→Bool}{W:List Int}(h:CS p L w v s W){b off q:Nat}(hq:q<L.length)(e:p.ca=some ⟨b,off,none⟩):
 b<w.heap.size∧w.cell? ⟨b,off+q*5,none⟩=some (.int .u8 L[q].op)∧w.cell? ⟨b,off+q*5+1+1+1+1,none⟩=some (.int .i64 L[q].m):=by
 obtain⟨b',off',e',h1,h2,h3⟩:=h.co q hq;rw[e]at e'
 cases e'
 exact⟨h2,h3.1,h3.2.2.2.2⟩
theorem CS.boxes {p:CP}{L:List Ins}{w:World}{v:Value}{s:Nat→Bool}{W:List Int}(h:CS p L w v s W):
 w.cell? ⟨p.bw,0,none⟩=some v∧w.cell? ⟨p.bs,0,none⟩=some (.slice (some ⟨p.X,0,none⟩) ((L.length+63)/64) ((L.length+63)/64))∧w.cell? ⟨p.bs,1,none⟩=some (.int .i64 L.length)∧w.cell? ⟨p.bc,0,none⟩=some (.slice p.ca L.length p.cc)∧w.cell? ⟨p.bk,0,none⟩=some p.fv:=
 ⟨h.iw.2.1 0,h.is_.2.1 0,h.is_.2.1 1,h.ic.2.1 0,h.ik.2.1 0⟩
theorem way_cases (op:Int):wayN op=4∨wayN op=3∨wayN op=1∨wayN op=2∨wayN op=0:=by
 unfold wayN
 split
 ·simp
 ·split
  ·simp
  ·split
   ·simp
   ·split<;>simp
theorem fol_jump {L:List Ins}{q r:Nat}(hq:q<L.length)(hw:wayN L[q].op=1):folB L q r=(decide (r<L.length)&&decide ((r:Int)=L[q].m)):=by
 simp[folB,hq,wyF,hw]
theorem fol_branch {L:List Ins}{q r:Nat}(hq:q<L.length)(hw:wayN L[q].op=2):folB L q r=(decide (r<L.length)&&(decide ((r:Int)=L[q].m) || decide (r=q+1))):=by
 simp[folB,hq,wyF,hw]
theorem fol_next {L:List Ins}{q r:Nat}(hq:q<L.length)(hw:wayN L[q].op=0):folB L q r=(decide (r<L.length)&&decide (r=q+1)):=by
 simp[folB,hq,wyF,hw]
theorem Wk.jump {L:List Ins}{out:Int}{s s1:Nat→Bool}{pc:Int}{p:Nat}{D:List Int}(h:Wk L out s pc s1 D p)(hp:p<L.length)(hs:s1 p=false)(ho:thB L.length out=true→s out.toNat=true)(hw:wayN (L[p]).op=1):Wk L out s pc (adS s1 p) D L[p].m:=by
 have:=h.on (s3:=adS s1 p) (D':=[]) (tt:=L[p].m) hp hs ho (fun _ _ e=>e) (fun r e=>.inl (by rw[fol_jump hp hw]at e;simpa using(by simp at e;exact e.2))) (fun e=>by
  obtain⟨n,hn,hl⟩:=thB_elim e;rw[fol_jump hp hw,hn];simp[hl]) (fun p' q h1 h2 _=>by rw[h1]at h2;cases h2) (fun R _ _=>⟨fun _ _ e=>.inl e,fun d hd=>by simp at hd⟩) (by simp)
 simpa using this
theorem Wk.next {L:List Ins}{out:Int}{s s1:Nat→Bool}{pc:Int}{p:Nat}{D:List Int}(h:Wk L out s pc s1 D p)(hp:p<L.length)(hs:s1 p=false)(ho:thB L.length out=true→s out.toNat=true)(hw:wayN (L[p]).op=0):Wk L out s pc (adS s1 p) D ((p+1:Nat):Int):=by
 have:=h.on (s3:=adS s1 p) (D':=[]) (tt:=((p+1:Nat):Int)) hp hs ho (fun _ _ e=>e) (fun r e=>.inl (by rw[fol_next hp hw]at e;simp at e;omega)) (fun e=>by
  rw[fol_next hp hw];rw[thB_nat]at e;simpa using e) (fun p' q h1 h2 _=>by rw[h1]at h2;cases h2) (fun R _ _=>⟨fun _ _ e=>.inl e,fun d hd=>by simp at hd⟩) (by simp)
 simpa using this
theorem Wk.branch {L:List Ins}{out:Int}{s s1 s3:Nat→Bool}{pc:Int}{p dp:Nat}{D D':List Int}(h:Wk L out s pc s1 D p)(hp:p<L.length)(hs:s1 p=false)(ho:thB L.length out=true→s out.toNat=true)(hw:wayN (L[p]).op=2)(f:Wf L out dp (adS s1 p) L[p].m s3 D')(hdp:dp≤1):Wk L out s pc s3 (D++D') ((p+1:Nat):Int):=by
 refine h.on hp hs ho f.mono (fun r e=>?_) (fun e=>?_) (fun p' q h1 h2 h3=>f.clo p' q h1 h2 h3) (fun R r1 r2=>f.snd R r1 (fun e1 e2=>?_)) (by have:=f.ct;omega)
 ·rw[fol_branch hp hw]at e;simp at e;rcases e.2 with r1|r1
  ·have:=f.cov (by rw[←r1,thB_nat];exact e.1);rw[←r1]at this;simpa using .inr this
  ·left;omega
 ·rw[thB_nat]at e;rw[fol_branch hp hw];simp;omega
 ·obtain⟨n,hn,hl⟩:=thB_elim e1;rw[hn]at e2 ⊢;exact r1 p n r2 (by rw[fol_branch hp hw];simp[hl,hn]) e2
def LI (p:CP)(L:List Ins)(out:Int)(w:World)(s:Nat→Bool)(W:List Int)(pc pc1:Int)(wr:World):Prop:=
 Hid (∃v1 s1 D,CS p L wr v1 s1 (W++D)∧Wk L out s pc s1 D pc1∧Below p.lo w wr)
theorem walk_any (p:CP)(L:List Ins)(out:Int)(hn:L.length<2000000):∀(k:Nat) (s:Nat→Bool) (W:List Int) (v:Value) (pc:Int) (dep:Nat) (w:World),CS p L w v s W→(thB L.length out=true→s out.toNat=true)→L.length - cnt L.length s≤k→dep≤1000→W.length+(L.length - cnt L.length s)<7000000→
 Calls Tryz.prog 119 #[.int .i64 pc,.int .i64 dep,.pointer (some ⟨p.bw,0,none⟩),.pointer (some ⟨p.bs,0,none⟩),.pointer (some ⟨p.bc,0,none⟩),.pointer (some ⟨p.bk,0,none⟩)] w
  fun e w'=>e=.returned (.tuple #[])∧∃v' s' D,CS p L w' v' s' (W++D)∧Wf L out (if dep=1000 then 1 else 0) s pc s' D∧Below p.lo w w':=by
 intro k
 induction k using Nat.strongRecOn with
 |_ k IH=>
 intro s W v pc dep w hC ho hk hd hW;by_cases e0:dep=1000
 ·subst e0;obtain⟨z1,z2,z3,z4,z5⟩:=hC.boxes;have hbl:=hC.iw.1;have fr:=hC.iw.2.2;have hp:=fun w2 g cap y=>hC.push (w1:=w.alloc (.cells #[.int .i64 pc] 3)) (w2:=w2) (g:=g) (cap:=cap) (y:=y) (by(repeat(first|assumption|with_reducible exact Below.refl _ _|with_reducible refine Below.alloc ?_ (by simp<;>omega) _|with_reducible refine Below.setCell ?_ (by simp<;>omega) _|with_reducible refine Below.drew ?_)))
  have hlo:=hC.lo.2.2;have hrow:IOwn (w.alloc (.cells #[.int .i64 pc] 3)) p.lo v W:=own_below hC.row (by(repeat(first|assumption|with_reducible exact Below.refl _ _|with_reducible refine Below.alloc ?_ (by simp<;>omega) _|with_reducible refine Below.setCell ?_ (by simp<;>omega) _|with_reducible refine Below.drew ?_)));have hnb:=hC.nv;have hWl:W.length≤8000000:=by omega
  replace hC:=Hid.mk hC;replace hp:=Hid.mk hp;replace hrow:=Hid.mk hrow;replace hnb:=Hid.mk hnb;clear IH;go_enter Tryz.func119,Tryz.ntmps119;go_wp2_with(at_builtin;refine wpList_append_int rfl (.tmp 10) (.tmp 12) rfl p.lo v W pc rfl hrow.out w.heap.size rfl (At.new w _ _) hWl (by simp;omega) ?_);intro g cap w2 g1 g2 g3 g4;have hbw:w2.cell? ⟨p.bw,0,none⟩=some v:=by
   rw[cell_of_block (g2.block p.bw (by simp;omega) (fun r=>(hnb.out _ r.symm).1 rfl)),World.cell?_alloc_past _ _ _ hbl];exact z1
  have hbf:w2.frozen? ⟨p.bw,0,none⟩=false:=by
   rw[frozen_of_block (g2.block p.bw (by simp;omega) (fun r=>(hnb.out _ r.symm).1 rfl))];have:=((hC.out.below (w1:=w.alloc (.cells #[.int .i64 pc] 3)) (by(repeat(first|assumption|with_reducible exact Below.refl _ _|with_reducible refine Below.alloc ?_ (by simp<;>omega) _|with_reducible refine Below.setCell ?_ (by simp<;>omega) _|with_reducible refine Below.drew ?_)))).iw).2.2 0;exact this
  have hp2:=Hid.mk (hp.out w2 g cap pc g1 g2 (by simpa using g3));replace g1:=Hid.mk g1;replace g2:=Hid.mk g2;go_wp2_with fail;refine bodyPost_ret (results_none (by kernel_rfl) _ _ _) rfl ?_;exact⟨rfl,_,s,[pc],hp2.out.1,Wf.deep L out s pc,hp2.out.2⟩
 ·have hde:((dep:Int)==1000)=false:=by simpa using(by omega:¬(dep:Int)=1000)
  rw[if_neg e0];have h0:LI p L out w s W pc pc w:=Hid.mk ⟨v,s,[],by simpa using hC,Wk.start L out s pc,Below.refl _ _⟩;replace hC:=Hid.mk hC;replace IH:=Hid.mk IH;replace ho:=Hid.mk ho;go_enter Tryz.func119,Tryz.ntmps119;go_wp2_with fail;go_loopw [0] (fun x wr=>∃pc1:Int,x=.int .i64 pc1∧LI p L out w s W pc pc1 wr) (fun _ wr=>L.length - cnt L.length (setOf wr p.X))
  case atStart=>exact⟨pc,rfl,h0⟩
  case round=>
   obtain⟨pc1,rfl,hI⟩:=hrel;obtain⟨v1,s1,D,hC1,hK,hB⟩:=hI.out;have hm:=cnt_set hC1.st;obtain⟨z1,z2,z3,z4,z5⟩:=hC1.boxes;have hA:=add_any p.X L.length s1 pc1 wr hC1.st hn;have hT:=fun w1 (q1:SIn w1 p.X L.length (adS s1 pc1)) (q2:Kp (fun k=>k=p.X) wr w1)=>hC1.sets q1 q2
   unfold sv at hA
   cases e1:adB L.length s1 pc1 with
   |false=>
    rw[e1]at hA;obtain⟨s3,f1,f2⟩:=hK.stop e1 rfl 0;generalize (L.length+63)/64=nw at*;replace hA:=Hid.mk hA;replace hT:=Hid.mk hT;replace hC1:=Hid.mk hC1;replace hB:=Hid.mk hB;replace f1:=Hid.mk f1;replace f2:=Hid.mk f2;go_wp2_with(go_at_call 117;refine hA.out.mono ?_;rintro x w1 ⟨rfl,q1,q2⟩);go_end0;have:=hT.out w1 q1 q2;exact⟨rfl,v1,s3,D,this.1.same f2.out,f1.out,hB.out.trans this.2⟩
   |true=>
    rw[e1]at hA;have e2:thB L.length pc1=true∧s1 pc1.toNat=false:=by simpa [adB]using e1
    obtain⟨q,rfl,hq⟩:=thB_elim e2.1;have e3:s1 q=false:=by simpa using e2.2
    obtain⟨b,off,hca,_⟩:=hC1.co q hq;have hT2:∀w1,SIn w1 p.X L.length (adS s1 q)→Kp (fun k=>k=p.X) wr w1→(w1.cell? ⟨p.bs,0,none⟩=some (.slice (some ⟨p.X,0,none⟩) ((L.length+63)/64) ((L.length+63)/64))∧w1.cell? ⟨p.bs,1,none⟩=some (.int .i64 L.length)∧w1.cell? ⟨p.bc,0,none⟩=some (.slice (some ⟨b,off,none⟩) L.length p.cc)∧w1.cell? ⟨p.bk,0,none⟩=some p.fv∧w1.cell? ⟨b,off+q*5,none⟩=some (.int .u8 L[q].op)∧w1.cell? ⟨b,off+q*5+1+1+1+1,none⟩=some (.int .i64 L[q].m))∧CS p L w1 v1 (adS s1 q) (W++D)∧Below p.lo w w1:=fun w1 q1 q2=>by
     have t:=hT w1 q1 q2;obtain⟨y1,y2,y3,y4,y5⟩:=t.1.boxes;rw[hca]at y4;exact⟨⟨y2,y3,y4,y5,(t.1.ins hq hca).2.1,(t.1.ins hq hca).2.2⟩,t.1,hB.trans t.2⟩
    have hWo:=wayOf_any L[q].op;have hq1:(q:Int)<L.length:=by omega
    have hq2:¬(L.length:Int)≤q:=by omega
    have hcn:=cnt_add L.length q s1 hq e3;have hcl:=cnt_le L.length (adS s1 q);clear hT e1 e2;rcases way_cases L[q].op with hy|hy|hy|hy|hy
    ·have f1:=hK.ends hq e3 ho.out hy 0;rw[hy]at hWo;generalize L[q].op=op at*;generalize L[q].m=im at*;generalize (L.length+63)/64=nw at*;replace hA:=Hid.mk hA;replace hT2:=Hid.mk hT2;replace hC1:=Hid.mk hC1;replace hB:=Hid.mk hB;replace f1:=Hid.mk f1;replace hWo:=Hid.mk hWo;replace hK:=Hid.mk hK;go_wp2_with(first|(go_at_call 117;refine hA.out.mono ?_;rintro x w1 ⟨rfl,q1,q2⟩;obtain⟨⟨y1,y2,y3,y4,y5,y6⟩,y7,y8⟩:=hT2.out w1 q1 q2;replace y7:=Hid.mk y7;replace y8:=Hid.mk y8;replace q1:=Hid.mk q1;replace q2:=Hid.mk q2)|(go_at_call 120;refine(hWo.out _).mono ?_;rintro x w2 ⟨rfl,rfl⟩));refine bodyPost_ret (results_none (by kernel_rfl) _ _ _) rfl ?_;exact⟨rfl,v1,_,D,y7.out,f1.out,y8.out⟩
    ·have f1:=hK.any hq e3 ho.out hy 0;rw[hy]at hWo;have hFl:=fun w1 (r:SIn w1 p.X L.length (adS s1 q))=>fill_any p.X L.length (adS s1 q) w1 r hn
     unfold sv at hFl;generalize L[q].op=op at*;generalize L[q].m=im at*;generalize (L.length+63)/64=nw at*;replace hA:=Hid.mk hA;replace hT2:=Hid.mk hT2;replace hC1:=Hid.mk hC1;replace hB:=Hid.mk hB;replace hWo:=Hid.mk hWo;replace hK:=Hid.mk hK;replace f1:=Hid.mk f1;replace hFl:=Hid.mk hFl;go_wp2_with(first|(go_at_call 117;refine hA.out.mono ?_;rintro x w1 ⟨rfl,q1,q2⟩;obtain⟨⟨y1,y2,y3,y4,y5,y6⟩,y7,y8⟩:=hT2.out w1 q1 q2;have y9:=cnt_set y7.st;replace y7:=Hid.mk y7;replace y8:=Hid.mk y8;replace q1:=Hid.mk q1;replace q2:=Hid.mk q2)|(go_at_call 120;refine(hWo.out _).mono ?_;rintro x w2 ⟨rfl,rfl⟩)|(go_at_call 121;refine(hFl.out _ q1.out).mono ?_;rintro x w2 ⟨rfl,r1,r2⟩));refine bodyPost_ret (results_none (by kernel_rfl) _ _ _) rfl ?_;have r3:=y7.out.sets r1 r2;exact⟨rfl,v1,_,D,r3.1,f1.out,y8.out.trans r3.2⟩
    ·have f1:=hK.jump hq e3 ho.out hy;rw[hy]at hWo;generalize L[q].op=op at*;generalize L[q].m=im at*;generalize (L.length+63)/64=nw at*;replace hA:=Hid.mk hA;replace hT2:=Hid.mk hT2;replace hC1:=Hid.mk hC1;replace hB:=Hid.mk hB;replace hWo:=Hid.mk hWo;replace hK:=Hid.mk hK;replace f1:=Hid.mk f1;go_wp2_with(first|(go_at_call 117;refine hA.out.mono ?_;rintro x w1 ⟨rfl,q1,q2⟩;obtain⟨⟨y1,y2,y3,y4,y5,y6⟩,y7,y8⟩:=hT2.out w1 q1 q2;have y9:=cnt_set y7.st;replace y7:=Hid.mk y7;replace y8:=Hid.mk y8;replace q1:=Hid.mk q1;replace q2:=Hid.mk q2)|(go_at_call 120;refine(hWo.out _).mono ?_;rintro x w2 ⟨rfl,rfl⟩));go_roundw
     case rel=>exact⟨im,rfl,Hid.mk ⟨v1,_,D,y7.out,f1.out,y8.out⟩⟩
     case measure=>omega
    ·have f1:=fun s3 dp D' (r1:Wf L out dp (adS s1 q) L[q].m s3 D') r2=>hK.branch hq e3 ho.out hy r1 r2
     rw[hy]at hWo;have hR:=fun w1 (r:CS p L w1 v1 (adS s1 q) (W++D))=>IH.out (k - 1) (by have:=cnt_mono L.length hK.mono;omega) (adS s1 q) (W++D) v1 L[q].m (dep+1) w1 r (fun e=>by
      obtain⟨n,rfl,hl⟩:=thB_elim e;have:=hK.mono n hl (by have:=ho.out e;simpa using this);simp[adS,this]) (by have:=cnt_mono L.length hK.mono;omega) (by omega) (by have:=hK.ct;rw[List.length_append];omega)
     have hd1:IntKind.i64.wrap ((dep:Int)+1)=((dep+1:Nat):Int):=by rw[IntKind.wrap_i64];omega
     unfold CP.fv at hT2;generalize L[q].op=op at*;generalize L[q].m=im at*;generalize (L.length+63)/64=nw at*;replace hA:=Hid.mk hA;replace hT2:=Hid.mk hT2;replace hC1:=Hid.mk hC1;replace hB:=Hid.mk hB;replace hWo:=Hid.mk hWo;replace hK:=Hid.mk hK;replace f1:=Hid.mk f1;replace hR:=Hid.mk hR;go_wp2_with(first|(go_at_call 117;refine hA.out.mono ?_;rintro x w1 ⟨rfl,q1,q2⟩;obtain⟨⟨y1,y2,y3,y4,y5,y6⟩,y7,y8⟩:=hT2.out w1 q1 q2;have y9:=cnt_set y7.st;replace y7:=Hid.mk y7;replace y8:=Hid.mk y8;replace q1:=Hid.mk q1;replace q2:=Hid.mk q2)|(go_at_call 120;refine(hWo.out _).mono ?_;rintro x w2 ⟨rfl,rfl⟩));go_region_with (go_at_call 119;refine(hR.out _ (y7.out.below (by(repeat(first|assumption|with_reducible exact Below.refl _ _|with_reducible refine Below.alloc ?_ (by simp<;>omega) _|with_reducible refine Below.setCell ?_ (by simp<;>omega) _|with_reducible refine Below.drew ?_))))).mono ?_;rintro x w3 ⟨rfl,v3,s3,D3,r1,r2,r3⟩;replace r1:=Hid.mk r1;replace r2:=Hid.mk r2;have r4:Hid (Below p.lo w2 w3):=Hid.mk (Below.trans (by(repeat(first|assumption|with_reducible exact Below.refl _ _|with_reducible refine Below.alloc ?_ (by simp<;>omega) _|with_reducible refine Below.setCell ?_ (by simp<;>omega) _|with_reducible refine Below.drew ?_))) r3);clear r3)
     all_goals
      go_wp2_with fail;go_roundw
      case rel=>exact⟨((q+1:Nat):Int),by simp,Hid.mk ⟨v3,_,D++D3,by have:=r1.out;rwa [List.append_assoc]at this,f1.out s3 _ D3 r2.out (by split<;>omega),y8.out.trans r4.out⟩⟩
      case measure=>
       have a1:=cnt_set r1.out.st;have a2:=cnt_mono L.length r2.out.mono;have a3:=cnt_le L.length s3;omega
    ·have f1:=hK.next hq e3 ho.out hy;rw[hy]at hWo;generalize L[q].op=op at*;generalize L[q].m=im at*;generalize (L.length+63)/64=nw at*;replace hA:=Hid.mk hA;replace hT2:=Hid.mk hT2;replace hC1:=Hid.mk hC1;replace hB:=Hid.mk hB;replace hWo:=Hid.mk hWo;replace hK:=Hid.mk hK;replace f1:=Hid.mk f1;go_wp2_with(first|(go_at_call 117;refine hA.out.mono ?_;rintro x w1 ⟨rfl,q1,q2⟩;obtain⟨⟨y1,y2,y3,y4,y5,y6⟩,y7,y8⟩:=hT2.out w1 q1 q2;have y9:=cnt_set y7.st;replace y7:=Hid.mk y7;replace y8:=Hid.mk y8;replace q1:=Hid.mk q1;replace q2:=Hid.mk q2)|(go_at_call 120;refine(hWo.out _).mono ?_;rintro x w2 ⟨rfl,rfl⟩));go_roundw
     case rel=>exact⟨((q+1:Nat):Int),by simp,Hid.mk ⟨v1,_,D,y7.out,f1.out,y8.out⟩⟩
     case measure=>omega
end F
end Go.Proofs.YtkhbiaaangnkdaaGreatDoor
