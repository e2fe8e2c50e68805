import Derived.Test.YtkhbiaaangnkdaaGreatDoorJ10
import Derived.Test.YtkhbiaaangnkdaaGreatDoorJ23
import Derived.Test.YtkhbiaaangnkdaaGreatDoorJ38
import Derived.Test.YtkhbiaaangnkdaaGreatDoorJ39
import Derived.Test.YtkhbiaaangnkdaaGreatDoorJ27
import Derived.Test.YtkhbiaaangnkdaaGreatDoorJ09
import Derived.Test.YtkhbiaaangnkdaaGreatDoorJ07
import Derived.Laws.MakeOwn
import Derived.Laws.IdiomCopy
import Derived.Test.YtkhbiaaangnkdaaGreatDoorJ32
import Derived.Deep.MidRow
namespace Go.Proofs.YtkhbiaaangnkdaaGreatDoor
set_option maxRecDepth 100000
set_option maxHeartbeats 40000000
open Go.RowKit
theorem atNew (w:World)(cs:Array Value)(t:TypeId):At (w.alloc (.cells cs t)) w.heap.size cs:=At.new w cs t
def fitsB (tag:Bool)(b e c p s:Int)(t:PTyp):Bool:=if t.cap then tag&&(b==t.b&&e==t.e&&p==t.p&&s==t.s)&&inLH t.lo t.hi c else !tag
theorem Fits_eq (n b e c p s lo hi:Int)(w:World):
 Calls Tryz.prog 164 #[.agg #[.bool true,.int .u64 n,.int .u64 b,.int .u64 e,.int .u64 c,.int .u8 p,.int .i64 s],.agg #[.bool true,.int .u64 b,.int .u64 e,.int .u64 lo,.int .u64 hi,.int .u8 p,.int .i64 s]] w fun x w'=>x=.returned (.bool (inLH lo hi c))∧Gr w w':=by
 have hc:=CapOf_any ⟨true,b,e,lo,hi,p,s⟩ c;have hp:=pointsWithin_any ⟨true,b,e,lo,hi,p,s⟩ c;simp only at hc hp;generalize inLH lo hi c=q at hp ⊢
 cases q
 all_goals
  go_enter Tryz.func164,Tryz.ntmps164;go_upto_region 3 with fail
  have⟨z1,p1,_⟩:=((atNew w #[.bool true,.int .u64 n,.int .u64 b,.int .u64 e,.int .u64 c,.int .u8 p,.int .i64 s] 75).alloc (.cells #[.bool true,.int .u64 b,.int .u64 e,.int .u64 lo,.int .u64 hi,.int .u8 p,.int .i64 s] 130));have⟨z2,p2,_⟩:=At.next w (.cells #[.bool true,.int .u64 n,.int .u64 b,.int .u64 e,.int .u64 c,.int .u8 p,.int .i64 s] 75) #[.bool true,.int .u64 b,.int .u64 e,.int .u64 lo,.int .u64 hi,.int .u8 p,.int .i64 s] 130;have KS:∀W,Gr ((w.alloc (.cells #[.bool true,.int .u64 n,.int .u64 b,.int .u64 e,.int .u64 c,.int .u8 p,.int .i64 s] 75)).alloc (.cells #[.bool true,.int .u64 b,.int .u64 e,.int .u64 lo,.int .u64 hi,.int .u8 p,.int .i64 s] 130)) W→W.cell? ⟨w.heap.size,0,none⟩=some (.bool true)∧W.cell? ⟨w.heap.size,1,none⟩=some (.int .u64 n)∧W.cell? ⟨w.heap.size,2,none⟩=some (.int .u64 b)∧W.cell? ⟨w.heap.size,3,none⟩=some (.int .u64 e)∧W.cell? ⟨w.heap.size,4,none⟩=some (.int .u64 c)∧W.cell? ⟨w.heap.size,5,none⟩=some (.int .u8 p)∧W.cell? ⟨w.heap.size,6,none⟩=some (.int .i64 s)∧W.cell? ⟨w.heap.size+1,0,none⟩=some (.bool true)∧W.cell? ⟨w.heap.size+1,1,none⟩=some (.int .u64 b)∧W.cell? ⟨w.heap.size+1,2,none⟩=some (.int .u64 e)∧W.cell? ⟨w.heap.size+1,3,none⟩=some (.int .u64 lo)∧W.cell? ⟨w.heap.size+1,4,none⟩=some (.int .u64 hi)∧W.cell? ⟨w.heap.size+1,5,none⟩=some (.int .u8 p)∧W.cell? ⟨w.heap.size+1,6,none⟩=some (.int .i64 s):=fun W hG=>⟨(hG.cell z1 _).trans (p1 0),(hG.cell z1 _).trans (p1 1),(hG.cell z1 _).trans (p1 2),(hG.cell z1 _).trans (p1 3),(hG.cell z1 _).trans (p1 4),(hG.cell z1 _).trans (p1 5),(hG.cell z1 _).trans (p1 6),(hG.cell z2 _).trans (p2 0),(hG.cell z2 _).trans (p2 1),(hG.cell z2 _).trans (p2 2),(hG.cell z2 _).trans (p2 3),(hG.cell z2 _).trans (p2 4),(hG.cell z2 _).trans (p2 5),(hG.cell z2 _).trans (p2 6)⟩
  replace KS:=Hid.mk KS;clear z1 p1 z2 p2
  first|(go_region_held3 (fun W=>W.cell? ⟨w.heap.size,0,none⟩=some (.bool true)∧W.cell? ⟨w.heap.size,1,none⟩=some (.int .u64 n)∧W.cell? ⟨w.heap.size,2,none⟩=some (.int .u64 b)∧W.cell? ⟨w.heap.size,3,none⟩=some (.int .u64 e)∧W.cell? ⟨w.heap.size,4,none⟩=some (.int .u64 c)∧W.cell? ⟨w.heap.size,5,none⟩=some (.int .u8 p)∧W.cell? ⟨w.heap.size,6,none⟩=some (.int .i64 s)∧W.cell? ⟨w.heap.size+1,0,none⟩=some (.bool true)∧W.cell? ⟨w.heap.size+1,1,none⟩=some (.int .u64 b)∧W.cell? ⟨w.heap.size+1,2,none⟩=some (.int .u64 e)∧W.cell? ⟨w.heap.size+1,3,none⟩=some (.int .u64 lo)∧W.cell? ⟨w.heap.size+1,4,none⟩=some (.int .u64 hi)∧W.cell? ⟨w.heap.size+1,5,none⟩=some (.int .u8 p)∧W.cell? ⟨w.heap.size+1,6,none⟩=some (.int .i64 s)) ((refine KS.out _ ?_;(with_reducible repeat(first|exact Gr.refl _|refine Gr.alloc ?_ _|refine Gr.grow ?_ _|refine Gr.drew ?_|refine Gr.setCell ?_ _ _ _ (gr_size ?_))))) (first|(go_at_call 127;refine(hc _).mono ?_;rintro x w' ⟨rfl,hG⟩;(repeat(replace hG:=Gr.of_grow hG));obtain⟨l,rfl⟩:=hG)|(go_at_call 82;refine(hp _).mono ?_;rintro x w' ⟨rfl,hG⟩;(repeat(replace hG:=Gr.of_grow hG));obtain⟨l,rfl⟩:=hG)))|fail
  all_goals
   clear KS;go_wp2_with fail;go_ret;refine⟨ret_bool (by simp_all),?_⟩
   (with_reducible repeat(first|exact Gr.refl _|refine Gr.alloc ?_ _|refine Gr.grow ?_ _|refine Gr.drew ?_|refine Gr.drewN ?_ _))
namespace C
open T (Sep Ob Kp Mf TgIn boxOb Fm Tc Ed Vl Cp Bx tgOb mRow updV flt ofI accessF)
def zV:Vl:=⟨false,0,Cp.zero⟩
def kOf (P:PImg)(g:Nat):Nat:=((P.gates[g]?).map fun x=>x.c.toNat).getD 0
def eOf (P:PImg)(g:Nat):Nat:=((P.gates[g]?).map fun x=>x.e.toNat).getD 0
def argsOf (P:PImg)(g:Nat):List PTyp:=((P.gates[g]?).map PGate.args).getD []
def resOf (P:PImg)(g:Nat):List PTyp:=((P.gates[g]?).map PGate.res).getD []
def codeOf (P:PImg)(k:Nat):List Ins:=((P.comps[k]?).map PComp.code).getD []
def rootsOf (P:PImg)(k:Nat):List PRoot:=((P.comps[k]?).map PComp.roots).getD []
def ccap (P:PImg)(k e:Nat):Cp:=⟨codeBase k,codeBase k+(codeOf P k).length*8,codeBase k+e*8,16,0⟩
def accV (v:Vl)(off n q:Int):Int:=accessF v.c.b v.c.e v.c.c v.c.p v.c.s off n q
def offC (k:Nat)(c:Int):Int:=IntKind.u64.wrap (c - codeBase k)
def tgtR (P:PImg)(k:Nat)(v:Vl):Except Ed Nat:=
 if v.g then(if accV v 0 8 16=0 then(if offC k v.c.c<(codeOf P k).length*8∧offC k v.c.c%8=0 then .ok (offC k v.c.c/8).toNat else .error (flt 8))else .error (flt (accV v 0 8 16)))else .error (flt 1)
def vfit (v:Vl)(t:PTyp):Bool:=fitsB v.g v.c.b v.c.e v.c.c v.c.p v.c.s t
def fitN (r:Nat→Vl)(T:List PTyp):Nat→Bool
 |0=>true
 |n+1=>fitN r T n&&(match T[n]? with|some t=>vfit (r (1+n)) t|none=>true)
theorem fitN_down {r:Nat→Vl}{T:List PTyp}{n:Nat}(m:Nat)(h:fitN r T n=false):fitN r T (n+m)=false:=by
 induction m with
 |zero=>exact h
 |succ m ih=>rw[←Nat.add_assoc,fitN,ih];rfl
def ovF (r u:Nat→Vl)(n:Nat):Nat→Vl:=fun j=>if 1≤j∧j≤n then r j else u j
def rootV (k:PRoot):Vl:=⟨true,0,⟨k.b,k.e,k.c,k.p,k.s⟩⟩
def putF (f:Fm)(r:Nat)(v:Vl):Fm:={f with regs:=updV f.regs r v}
def rootsJ (f:Fm)(L:List PRoot):Nat→Fm
 |0=>f
 |j+1=>match L[j]? with|some k=>putF (rootsJ f L j) k.r.toNat (rootV k)|none=>rootsJ f L j
def entF (P:PImg)(g:Nat)(r:Nat→Vl)(n:Nat):Fm:=rootsJ ⟨g,eOf P g,ovF r (fun _=>zV) n⟩ (rootsOf P (kOf P g)) (rootsOf P (kOf P g)).length
def firstV (r:Nat→Vl)(n:Nat):Int:=if n=0 then 0 else if(r 1).g then(r 1).c.c else(r 1).n
def callM (P:PImg)(s:Ms)(g:Nat):Except Ed Ms:=
 if fitN s.at_.regs (argsOf P g) (argsOf P g).length then(if P.depth≤s.st.length then .error ⟨5,0,0⟩else .ok {s with st:=s.st++[s.next.at_],at_:=entF P g s.at_.regs (argsOf P g).length})else .error (flt 9)
def backF (f:Fm)(r:Nat→Vl)(n:Nat):Fm:={f with regs:=ovF r f.regs n}
def retM (P:PImg)(s:Ms):Except Ed Ms:=
 if fitN s.at_.regs (resOf P s.at_.gate) (resOf P s.at_.gate).length then(match s.st.getLast? with
  |none=>.error ⟨1,firstV s.at_.regs (resOf P s.at_.gate).length,0⟩
  |some f=>.ok {s with st:=s.st.dropLast,at_:=backF f s.at_.regs (resOf P s.at_.gate).length})else .error (flt 9)
def goR (s:Ms):Except Ed Nat→Except Ed Ms
 |.ok n=>.ok (s.goTo n)
 |.error e=>.error e
def inM (s:Ms)(A:Nat):Except Ed Ms:=match s.inp with
 |[]=>.error ⟨6,0,0⟩
 |n::L=>.ok (Ms.next (Ms.put {s with inp:=L} A (ofI n)))
def outM (s:Ms)(A:Nat):Except Ed Ms:=if(s.at_.regs A).g then .error (flt 2)else .ok (Ms.next {s with out:=s.out++[((s.at_.regs A).n:Int)]})
def haltM (s:Ms)(A:Nat):Except Ed Ms:=if(s.at_.regs A).g then .error (flt 2)else .error ⟨1,(s.at_.regs A).n,0⟩
def strM (P:PImg)(s:Ms)(op:Int)(A B:Nat)(m:Int):Except Ed Ms:=
 if op=20 then .ok (s.goTo m.toNat)else if op≤24 then braM s op A B m.toNat
 else if op=25 then .ok (s.put A (ofC (ccap P (kOf P s.at_.gate) m.toNat))).next
 else if op=26 then goR s (tgtR P (kOf P s.at_.gate) (s.at_.regs A))
 else if op=27 then haltM s A else if op=28 then .error ⟨3,IntKind.u64.wrap m,0⟩
 else if op=29 then inM s A else if op=30 then outM s A else if op=31 then callM P s m.toNat else retM P s
def insM (P:PImg)(s:Ms)(op:Int)(A B C:Nat)(m:Int):Except Ed Ms:=
 if op≤13 then layM s A (recM s op B C m)else if op≤32 then strM P s op A B m
 else if op≤46 then layM s A (capV (derR op m (s.at_.regs B) (s.at_.regs C)))
 else if op≤56 then layM s A (nmbV (askR op (s.at_.regs B) (s.at_.regs C)))
 else if op≤65 then touM s op A B m else grdR op A C m s
def stepM (P:PImg)(s:Ms):Except Ed Ms:=match (codeOf P (kOf P s.at_.gate))[s.at_.pc]? with
 |none=>.error (flt 8)
 |some i=>insM P s i.op i.a.toNat i.b.toNat i.c.toNat i.m
def Ms.ended (s:Ms)(e:Ed):Ms:={s with over:=e}
def stepsM (P:PImg):Nat→Ms→Ms
 |0,s=>s
 |n+1,s=>if s.over.e=0 then(match stepM P s with|.ok s'=>stepsM P n s'|.error e=>s.ended e)else s
structure IOk (P:PImg)(k:Nat)(i:Ins):Prop where
 op:(1≤i.op∧i.op≤13)∨(20≤i.op∧i.op≤32)∨(40≤i.op∧i.op≤46)∨(50≤i.op∧i.op≤56)∨(60≤i.op∧i.op≤65)∨(70≤i.op∧i.op≤75)
 ra:0≤i.a∧i.a<16
 rb:0≤i.b∧i.b<16
 rc:0≤i.c∧i.c<256
 rc2:i.op<70→i.c<16
 rm: -2147483648≤i.m∧i.m≤2147483647
 tg:20≤i.op∧i.op≤25→0≤i.m∧i.m<(codeOf P k).length
 cl:i.op=31→0≤i.m∧i.m<P.gates.length
theorem fR_more (op a b c m:Int)(s:List UInt8)(hs:s∈shapes)(h:fR op s 0 a b c m=true)(h9:99∈s→op=28∨70≤op):
 (0≤a∧a<16)∧(0≤b∧b<16)∧(op<70→c<16)∧(116∈s∨103∈s→0≤m):=by
 simp only[shapes,List.mem_cons,List.not_mem_nil,or_false]at hs;by_cases h28:op=28
 ·subst h28;rcases hs with rfl|rfl|rfl|rfl|rfl|rfl|rfl|rfl|rfl|rfl|rfl|rfl|rfl|rfl|rfl|rfl|rfl|rfl<;>
   (simp[fR,inE,hiE,loE]at h h9 ⊢;omega)
 ·by_cases h70:op=70∨op=71
  ·have e:¬(op≠70∧op≠71):=by omega
   rcases hs with rfl|rfl|rfl|rfl|rfl|rfl|rfl|rfl|rfl|rfl|rfl|rfl|rfl|rfl|rfl|rfl|rfl|rfl<;>
    (simp[fR,inE,hiE,loE,h28,e]at h h9 ⊢;omega)
  ·have e:¬op=70∧¬op=71:=by omega
   rcases hs with rfl|rfl|rfl|rfl|rfl|rfl|rfl|rfl|rfl|rfl|rfl|rfl|rfl|rfl|rfl|rfl|rfl|rfl<;>
    (simp[fR,inE,hiE,loE,h28,e]at h h9 ⊢;omega)
def opsB (n:Nat):Bool:=(1≤n&&n≤13) || (20≤n&&n≤32) || (40≤n&&n≤46) || (50≤n&&n≤56) || (60≤n&&n≤65) || (70≤n&&n≤75)
def opB (n:Nat):Bool:=(nameOf n==[]) || (opsB n&&(!((shapeOf n).elem 99) || n==28 || 70≤n)&&(!(20≤n&&n≤25) || (shapeOf n).elem 116)&&(!(n==31) || (shapeOf n).elem 103))
theorem iok_of (P:PImg)(k:Nat)(i:Ins)(h0:0≤i.op)(h1:i.op<256)(h:i.right=0)(ht:tgtB i.op i.m (codeOf P k).length P.gates.length=true):IOk P k i:=by
 obtain⟨ra,rb,rc,rm⟩:=right_ranges h1 h;have hb:=all_bytes opB (by kernel_rfl) i.op h1;have hn:((i.op.toNat:Nat):Int)=i.op:=Int.toNat_of_nonneg h0;unfold Ins.right rightF at h;unfold opB at hb;rw[hn]at hb
 split at h
 ·omega
 ·rename_i hq
  unfold errOf at h
  split at h
  ·rename_i hf
   have hq':(nameOf i.op==[])=false:=by simpa using hq
   rw[hq',Bool.false_or]at hb;simp only[Bool.and_eq_true,Bool.or_eq_true,Bool.not_eq_true',decide_eq_true_eq,beq_iff_eq,opsB,Bool.and_eq_false_imp,List.elem_eq_mem,decide_eq_false_iff_not]at hb;obtain⟨⟨⟨b1,b2⟩,b3⟩,b4⟩:=hb;have m1:=fR_more _ _ _ _ _ _ (shape_in _ h1) hf (fun q=>by rcases b2 with(b2|b2)|b2<;>first|exact absurd q b2|omega);obtain⟨ma,mb,mc,mm⟩:=m1;refine⟨by omega,ma,mb,rc,mc,rm,fun q=>⟨mm (.inl ?_),?_⟩,fun q=>⟨mm (.inr ?_),?_⟩⟩
   ·rcases b3 with b3|b3
    ·exact absurd (b3 (by omega)) (by omega)
    ·exact b3
   ·unfold tgtB at ht;rw[if_pos q]at ht;simpa using ht
   ·rcases b4 with b4|b4
    ·exact absurd b4 (by simp;omega)
    ·exact b4
   ·unfold tgtB at ht;rw[if_neg (by omega),if_pos q]at ht;simpa using ht
  ·omega
end C
namespace Q
theorem made_k {α:Type}{vals:α→List Value}{k:Nat}(hk:0<k)(hv:∀x,(vals x).length=k)(Z:α)(n:Nat):madeCells (vals Z).toArray (n*k)=(rowV [] vals (List.replicate n Z)).toArray:=by
 apply Array.ext_getElem?;intro i;have e:(rowV [] vals (List.replicate n Z)).toArray[i]?=(rowV [] vals (List.replicate n Z))[i]?:=by simp
 rw[e];have hl:=row_len (pre:=[]) hv (List.replicate n Z);rw[List.length_replicate]at hl;by_cases h:i<n*k
 ·have hd:i/k<n:=by rw[Nat.div_lt_iff_lt_mul hk];exact h
  have hm:=Nat.mod_lt i hk;have ei:i=([]:List Value).length+i/k*k+i%k:=by
   have:=Nat.div_add_mod i k;rw[Nat.mul_comm]at this;simp;omega
  have r:=rowv_at (pre:=[]) hv (List.replicate n Z) (i/k) (by simpa using hd) (i%k) hm;rw[←ei]at r;rw[r];have hz:i%k<(vals Z).length:=by rw[hv];exact hm
  simp[madeCells,h,hv];rw[List.getElem?_eq_getElem hz]
  rfl
 ·rw[Array.getElem?_eq_none (by rw[size_madeCells];omega),List.getElem?_eq_none (by rw[hl];simp;omega)]
theorem info_partsQ {t:TypeId}{z:Value}{s b:Nat}(h:(Tryz.prog.info? t).map (fun i=>(i.zero,i.size,i.bytes))=some (some z,s,b)):
 ∃i,Tryz.prog.info? t=some i∧i.zero=some z∧i.size=s∧i.bytes=b:=by
 obtain⟨i,hi,he⟩:=Option.map_eq_some_iff.1 h;simp only[Prod.mk.injEq]at he;exact⟨i,hi,he.1,he.2.1,he.2.2⟩
theorem make_k {α:Type}{vals:α→List Value}{t e:TypeId}{k b:Nat}{Z:α}(hk:0<k)(hv:∀x,(vals x).length=k)(ht:Tryz.prog.underlying t=some (.slice e))
 (hi:(Tryz.prog.info? e).map (fun i=>(i.zero,i.size,i.bytes))=some (some (.agg (vals Z).toArray),k,b))(n:Nat)(hn:n≤4611686018427387904)(hb:b*n≤281474976710656)(w:World):
 (Instr.makeSlice t (.int .i64 n) (.int .i64 n)).run Tryz.prog w=.ok (.slice (some ⟨w.heap.size,0,none⟩) n n) (w.alloc (.cells (rowV [] vals (List.replicate n Z)).toArray e)):=by
 obtain⟨i0,hi0,hz0,hz1,hz2⟩:=info_partsQ hi;have hbb:(i0.bytes:Int)*(n:Int)≤281474976710656:=by
  rw[hz2];have h:((b*n:Nat):Int)≤281474976710656:=by omega
  rwa [Int.natCast_mul]at h
 have h:=run_make (P:=Tryz.prog) w t e i0 _ ht hi0 hz0 .i64 .i64 n n (by omega) (by omega) hbb (by omega);rw[hz1,Int.toNat_natCast,show(Value.agg (vals Z).toArray).cells=(vals Z).toArray from rfl,made_k hk hv]at h;exact h
theorem run_copy_none {P:Program}(w:World)(dT sT ty elem:TypeId)(k:Nat)(d:Addr)(dLen dCap sCap:Nat)(hu:P.underlying dT=some (.slice elem))(hs:(P.info? elem).map (·.size)=some k):
 (Builtin.copy_ #[dT,sT] ty #[.slice (some d) dLen dCap,.slice none 0 sCap]).run P w=.ok (goInt 0) w:=by
 cases hq:P.info? elem with
 |none=>simp[hq]at hs
 |some i=>simp[Builtin.copy_,run_underlying hu,Builtin.lenOf,Builtin.firstCells,sizeOf,typeInfo,hq,storeCells]
theorem run_copy_q {P:Program}(w:World)(dT sT ty elem:TypeId)(k b o dLen dCap:Nat)(a:Addr)(sLen sCap:Nat)(cs:List Value)
 (hu:P.underlying dT=some (.slice elem))(hs:(P.info? elem).map (·.size)=some k)(hn:cs.length=Nat.min sLen dLen*k)
 (hsrc:∀j v,cs[j]?=some v→w.cell? (a.add j)=some v)(hc:∀j,j<cs.length→(w.cell? ⟨b,o+j,none⟩).isSome=true)(hf:∀j,j<cs.length→w.frozen? ⟨b,o+j,none⟩=false)(h1:∀v∈cs,v.oneCell'=true):
 (Builtin.copy_ #[dT,sT] ty #[.slice (some ⟨b,o,none⟩) dLen dCap,.slice (some a) sLen sCap]).run P w=.ok (goInt (Nat.min sLen dLen)) (w.setCells b o cs):=by
 have hl:=run_loadCells_list (P:=P) w a cs hsrc;have hst:=run_storeCells_cells (P:=P) b o cs 0 w (by simpa using hc) (by simpa using hf) h1
 cases hq:P.info? elem with
 |none=>simp[hq]at hs
 |some i=>
  have hi:i.size=k:=by simpa [hq]using hs
  simp[Builtin.copy_,run_underlying hu,Builtin.lenOf,Builtin.firstCells,sizeOf,typeInfo,hq,hi,←hn,hl,hst]
theorem addr_addQ (b o j:Nat):(⟨b,o,none⟩:Addr).add j=⟨b,o+j,none⟩:=by unfold Addr.add;split<;>simp_all
theorem lin_fin {B:Nat}{w:World}{a:Option Addr}{L:List Ins}(h:LIn B w a L):FIn 5 Ins.vals B w a L:=fun i hi=>by
 obtain⟨b,off,e,h1,h2,h3⟩:=h i hi;refine⟨b,off,e,h1,h2,fun j hj=>?_⟩;obtain⟨c0,c1,c2,c3,c4⟩:=h3
 match j,hj with
 |0,_=>exact c0
 |1,_=>exact c1
 |2,_=>exact c2
 |3,_=>exact c3
 |4,_=>exact c4
 |n+5,h=>omega
end Q
namespace C
open T (Sep Ob Kp Mf TgIn boxOb Fm Tc Ed Vl Cp Bx tgOb mRow updV flt regRow regRow_at regRow_len Vl.row_len kp_setCells setCells_size)
theorem fmRow_idx (f:Fm)(x:Nat):f.row[x]?=if x=0 then some (.int .i64 f.gate)else if x=1 then some (.int .i64 f.pc)else if x<114 then(f.regs ((x - 2)/7)).row[(x - 2)%7]? else none:=by
 unfold Fm.row
 match x with
 |0=>rfl
 |1=>rfl
 |x+2=>
  rw[if_neg (by omega),if_neg (by omega),List.getElem?_cons_succ,List.getElem?_cons_succ,Nat.add_sub_cancel];by_cases h:x<112
  ·rw[if_pos (by omega),regRow_at _ 16 x (by omega)]
  ·rw[if_neg (by omega)];exact List.getElem?_eq_none (by rw[regRow_len];omega)
theorem fmRow_len (f:Fm):f.row.length=114:=by simp[Fm.row,regRow_len]
theorem fmRow_reg (f:Fm)(r j:Nat)(hr:r<16)(hj:j<7):f.row[2+r*7+j]?=(f.regs r).row[j]?:=by
 rw[fmRow_idx,if_neg (by omega),if_neg (by omega),if_pos (by omega),show(2+r*7+j - 2)/7=r by omega,show(2+r*7+j - 2)%7=j by omega]
theorem bx_putF {w:World}{a:Nat}{f:Fm}(h:Bx w a f.row)(r:Nat)(v:Vl)(hr:r<16):Bx (set7 w a (2+r*7) v) a (putF f r v).row:=by
 rw[←set7_eq];refine⟨by rw[setCells_size];exact h.lt,fun x u q=>?_,fun x=>by rw[World.frozen?_setCells];exact h.fr x⟩;by_cases hx:x<2+r*7∨2+r*7+7≤x
 ·have e:(putF f r v).row[x]?=f.row[x]?:=by
   rw[fmRow_idx,fmRow_idx];by_cases h0:x=0
   ·rw[if_pos h0,if_pos h0];rfl
   ·rw[if_neg h0,if_neg h0];by_cases h1:x=1
    ·rw[if_pos h1,if_pos h1];rfl
    ·rw[if_neg h1,if_neg h1];by_cases h2:x<114
     ·rw[if_pos h2,if_pos h2];have:(putF f r v).regs ((x - 2)/7)=f.regs ((x - 2)/7):=by
       show updV f.regs r v _=_;unfold updV;rw[if_neg (by omega)]
      rw[this]
     ·rw[if_neg h2,if_neg h2]
  rw[e]at q;rw[World.cell?_setCells_out a v.row (2+r*7) w _ (fun _ _=>by rw[Vl.row_len];exact hx)];exact h.at_ x u q
 ·obtain⟨j,rfl⟩:∃j,x=2+r*7+j:=⟨x - (2+r*7),by omega⟩;rw[fmRow_reg _ r j hr (by omega)]at q;have e:(putF f r v).regs r=v:=by simp[putF,updV]
  rw[e]at q;have hj:j<v.row.length:=by rw[Vl.row_len];omega
  rw[World.cell?_setCells_in a v.row (2+r*7) w (fun i hi=>by
   rw[Vl.row_len]at hi;have e2:=fmRow_reg f r i hr hi;have e3:(f.regs r).row[i]?=some ((f.regs r).row[i]'(by rw[Vl.row_len];exact hi)):=List.getElem?_eq_getElem _;rw[e3]at e2;rw[h.at_ _ _ e2];rfl) j hj,←q,List.getElem?_eq_getElem hj]
theorem zero85:Tryz.zeroCells78.toList=(⟨0,0,fun _=>zV⟩:Fm).row:=by kernel_rfl
theorem zero85s (g:Nat)(e:Nat):((Tryz.zeroCells78.toList.set 0 (.int .i64 g)).set 1 (.int .i64 e))=(⟨g,e,fun _=>zV⟩:Fm).row:=by rw[zero85];rfl
theorem oneCell_reg (r:Nat→Vl)(n:Nat):∀v∈regRow r n,v.oneCell'=true:=by
 induction n with
 |zero=>intro v h;cases h
 |succ n ih=>
  intro v h;rw[regRow]at h;rcases List.mem_append.1 h with q|q
  ·exact ih v q
  ·simp[Vl.row]at q;rcases q with rfl|rfl|rfl|rfl|rfl|rfl|rfl<;>rfl
theorem oneCell_row (f:Fm):∀v∈f.row,v.oneCell'=true:=by
 intro v h;unfold Fm.row at h;rcases List.mem_cons.1 h with rfl|h
 ·rfl
 ·rcases List.mem_cons.1 h with rfl|h
  ·rfl
  ·exact oneCell_reg _ _ v h
theorem store_fm (w:World)(a:Nat)(f0 f:Fm)(h:Bx w a f0.row):(storeCells ⟨a,0,none⟩ f.row).run Tryz.prog w=.ok () (w.setCells a 0 f.row)∧Bx (w.setCells a 0 f.row) a f.row∧Kp (fun k=>k=a) w (w.setCells a 0 f.row):=by
 have hs:∀j,j<f.row.length→(w.cell? ⟨a,0+j,none⟩).isSome=true:=fun j hj=>by
  rw[fmRow_len]at hj;have:f0.row[j]?=some (f0.row[j]'(by rw[fmRow_len];exact hj)):=List.getElem?_eq_getElem _;rw[Nat.zero_add,h.at_ j _ this];rfl
 refine⟨?_,⟨by rw[setCells_size];exact h.lt,fun o v q=>?_,fun o=>by rw[World.frozen?_setCells];exact h.fr o⟩,kp_setCells (fun k=>k=a) a rfl _ _ w⟩
 ·exact run_storeCells_cells (P:=Tryz.prog) a 0 f.row 0 w hs (fun j _=>h.fr _) (oneCell_row f)
 ·have hj:=(List.getElem?_eq_some_iff.1 q).1;have:=World.cell?_setCells_in a f.row 0 w hs o hj;rw[Nat.zero_add]at this;rw[this,←q,List.getElem?_eq_getElem hj]
theorem load_fm (w:World)(a:Nat)(f:Fm)(h:Bx w a f.row):(loadCells ⟨a,0,none⟩ 114).run Tryz.prog w=.ok f.row.toArray w:=by
 have:=run_loadCells_list (P:=Tryz.prog) w ⟨a,0,none⟩ f.row (fun j v hv=>by rw[addr_addZ,Nat.zero_add];exact h.at_ j v hv);rw[fmRow_len]at this;exact this
def regL (r:Nat→Vl)(n:Nat):List Vl:=(List.range n).map fun i=>r (1+i)
theorem regL_len (r:Nat→Vl)(n:Nat):(regL r n).length=n:=by simp[regL]
theorem regL_at (r:Nat→Vl)(n i:Nat)(h:i<(regL r n).length):(regL r n)[i]=r (1+i):=by simp[regL]
theorem regL_row (r:Nat→Vl)(n o:Nat)(h:o<n*7):((regL r n).flatMap Vl.row)[o]?=(r (1+o/7)).row[o%7]?:=by
 have hd:o/7<(regL r n).length:=by rw[regL_len];omega
 have:=flat_at' (k:=7) (fun x=>Vl.row_len x) (regL r n) (o/7) hd (o%7) (by omega);rw[show o/7*7+o%7=o by omega,regL_at]at this;exact this
theorem regL_flen (r:Nat→Vl)(n:Nat):((regL r n).flatMap Vl.row).length=n*7:=by
 have:=flat_len (k:=7) (fun x=>Vl.row_len x) (regL r n)
 rwa [regL_len]at this
def SrcV (w:World)(va:Option Addr)(r:Nat→Vl)(n:Nat):Prop:=n=0∨∃b off,va=some ⟨b,off,none⟩∧b<w.heap.size∧∀o,o<n*7→w.cell? ⟨b,off+o,none⟩=(r (1+o/7)).row[o%7]?
theorem SrcV.below {w w1:World}{va:Option Addr}{r:Nat→Vl}{n:Nat}(h:SrcV w va r n)(hb:Below w.heap.size w w1):SrcV w1 va r n:=by
 rcases h with h|⟨b,off,e,hl,h⟩
 ·exact .inl h
 ·exact .inr ⟨b,off,e,Nat.lt_of_lt_of_le hl hb.size,fun o ho=>(hb.cell (p:=⟨b,_,none⟩) hl).trans (h o ho)⟩
theorem oneCell_vl (v:Vl):∀x∈v.row,x.oneCell'=true:=by
 intro x q;simp[Vl.row]at q;rcases q with rfl|rfl|rfl|rfl|rfl|rfl|rfl<;>rfl
theorem copy_fm (w:World)(kf:Nat)(f:Fm)(r:Nat→Vl)(n:Nat)(va:Option Addr)(vc:Nat)(h:Bx w kf f.row)(hs:SrcV w va r n)(hn:n≤15):
 (Builtin.copy_ #[107,107] 3 #[.slice (some ⟨kf,9,none⟩) 15 15,.slice va n vc]).run Tryz.prog w=.ok (.int .i64 n) (w.setCells kf 9 ((regL r n).flatMap Vl.row))∧Bx (w.setCells kf 9 ((regL r n).flatMap Vl.row)) kf ({f with regs:=ovF r f.regs n}:Fm).row∧Kp (fun k=>k=kf) w (w.setCells kf 9 ((regL r n).flatMap Vl.row)):=by
 have hfl:=regL_flen r n;have hsome:∀j,j<((regL r n).flatMap Vl.row).length→(w.cell? ⟨kf,9+j,none⟩).isSome=true:=fun j hj=>by
  rw[hfl]at hj;have e:f.row[9+j]?=some (f.row[9+j]'(by rw[fmRow_len];omega)):=List.getElem?_eq_getElem _;rw[h.at_ _ _ e];rfl
 refine⟨?_,⟨by rw[setCells_size];exact h.lt,fun x u q=>?_,fun x=>by rw[World.frozen?_setCells];exact h.fr x⟩,kp_setCells (fun k=>k=kf) kf rfl _ _ w⟩
 ·have hu:Tryz.prog.underlying 107=some (.slice 75):=by kernel_rfl
  have hi:(Tryz.prog.info? 75).map (·.size)=some 7:=by kernel_rfl
  rcases hs with rfl|⟨b,off,rfl,hl,hs⟩
  ·cases va with
   |none=>exact Q.run_copy_none w _ _ _ _ 7 _ _ _ _ hu hi
   |some ad=>
    have:=Q.run_copy_q (P:=Tryz.prog) w 107 107 3 75 7 kf 9 15 15 ad 0 vc [] hu hi (by simp) (fun j v hj=>by simp at hj) (fun j hj=>by simp at hj) (fun j hj=>by simp at hj) (fun v hv=>by cases hv);exact this
  ·have hmin:Nat.min n 15=n:=Nat.min_eq_left hn;have:=Q.run_copy_q (P:=Tryz.prog) w 107 107 3 75 7 kf 9 15 15 ⟨b,off,none⟩ n vc ((regL r n).flatMap Vl.row) hu hi (by rw[hmin];exact hfl) (fun j v hj=>?_) hsome (fun j hj=>h.fr _) (fun v hv=>?_)
   ·rw[hmin]at this;exact this
   ·have hjl:j<n*7:=by rw[←hfl];exact(List.getElem?_eq_some_iff.1 hj).1
    rw[regL_row r n j hjl]at hj;rw[Q.addr_addQ,hs j hjl,hj]
   ·obtain⟨x,_,hx⟩:=List.mem_flatMap.1 hv;exact oneCell_vl x v hx
 ·by_cases hx:x<9∨9+n*7≤x
  ·rw[World.cell?_setCells_out kf _ 9 w _ (fun _ _=>by rw[hfl];exact hx)];refine h.at_ x u ?_;rw[←q,fmRow_idx,fmRow_idx];by_cases h0:x=0
   ·rw[if_pos h0,if_pos h0]
   ·rw[if_neg h0,if_neg h0];by_cases h1:x=1
    ·rw[if_pos h1,if_pos h1]
    ·rw[if_neg h1,if_neg h1];by_cases h2:x<114
     ·rw[if_pos h2,if_pos h2];have:ovF r f.regs n ((x - 2)/7)=f.regs ((x - 2)/7):=by unfold ovF;rw[if_neg (by omega)]
      show _=(ovF r f.regs n ((x - 2)/7)).row[(x - 2)%7]?;rw[this]
     ·rw[if_neg h2,if_neg h2]
  ·obtain⟨o,rfl⟩:∃o,x=9+o:=⟨x - 9,by omega⟩;have ho:o<n*7:=by omega
   rw[fmRow_idx,if_neg (by omega),if_neg (by omega),if_pos (by omega),show(9+o - 2)/7=1+o/7 by omega,show(9+o - 2)%7=o%7 by omega]at q;have e:ovF r f.regs n (1+o/7)=r (1+o/7):=by unfold ovF;rw[if_pos (by omega)]
   have q':(r (1+o/7)).row[o%7]?=some u:=by rw[←e];exact q
   have hj:o<((regL r n).flatMap Vl.row).length:=by rw[hfl];exact ho
   rw[World.cell?_setCells_in kf _ 9 w hsome o hj,←q',←regL_row r n o ho,List.getElem?_eq_getElem hj]
theorem MIn.src {B:Nat}{W:World}{a:Nat}{P:PImg}{s:Ms}{l:List Ob}(h:MIn B W a P s l)(n:Nat)(hn:n≤15):SrcV W (some ⟨a,14,none⟩) s.at_.regs n:=by
 obtain⟨q,hb,_⟩:=h.parts;refine .inr ⟨a,14,rfl,hb.lt,fun o ho=>?_⟩;have e:=T.mRow_reg (.slice q.ra P.regs.length q.rc) (.slice q.ca P.comps.length q.cc) (.slice q.ga P.gates.length q.gc) P.depth q.km s.at_ q.sv q.iv q.ov_ q.tv s.over (1+o/7) (o%7) (by omega) (by omega);have e2:(s.at_.regs (1+o/7)).row[o%7]?=some ((s.at_.regs (1+o/7)).row[o%7]'(by rw[Vl.row_len];omega)):=List.getElem?_eq_getElem _;rw[e2]at e;have:=hb.at_ _ _ e;rw[show 7+(1+o/7)*7+o%7=14+o by omega]at this;rw[this,e2]
open T (Sep Ob Kp Mf TgIn boxOb Fm Tc Ed Vl Cp Bx tgOb mRow updV flt regRow regRow_at regRow_len Vl.row_len kp_setCells setCells_size at_kp at_below capability_any)
structure EnAt (w:World)(f0:Fm)(L:List PRoot)(j:Nat)(W:World):Prop where
 kept:Below w.heap.size w W
 res:Bx W (w.heap.size+1) (⟨0,0,fun _=>zV⟩:Fm).row
 fm:Bx W (w.heap.size+1+1+1) (rootsJ f0 L j).row
theorem EnAt.gr {w:World}{f0:Fm}{L:List PRoot}{j:Nat}{W W':World}(h:EnAt w f0 L j W)(hb:Below W.heap.size W W'):EnAt w f0 L j W':=
 ⟨h.kept.trans (hb.mono h.kept.size),h.res.keep (Kp.of_below (S:=fun _=>False) hb) (fun q=>q),h.fm.keep (Kp.of_below (S:=fun _=>False) hb) (fun q=>q)⟩
theorem results_cellE {fn:Func}{p:Tmp}{ty:TypeId}{v:Value}{a:Addr}(h:fn.results=#[.cell p ty])(tmps:Array Value)(w:World)(ht:tmps.getD p undef=.pointer (some a))(hl:(loadVar ty a).run Tryz.prog w=.ok v w):
 (results fn tmps).run Tryz.prog w=.ok v w:=by
 have ht':tmps[p]?.getD undef=.pointer (some a):=by simpa using ht
 simp[results,h,ht',asAddr,hl]
theorem at4n (w:World)(A B C D:Array Value)(ta tb tc td:TypeId):
 At ((((w.alloc (.cells A ta)).alloc (.cells B tb)).alloc (.cells C tc)).alloc (.cells D td)) w.heap.size A∧At ((((w.alloc (.cells A ta)).alloc (.cells B tb)).alloc (.cells C tc)).alloc (.cells D td)) (w.heap.size+1) B∧At ((((w.alloc (.cells A ta)).alloc (.cells B tb)).alloc (.cells C tc)).alloc (.cells D td)) (w.heap.size+1+1) C∧At ((((w.alloc (.cells A ta)).alloc (.cells B tb)).alloc (.cells C tc)).alloc (.cells D td)) (w.heap.size+1+1+1) D∧Below w.heap.size w ((((w.alloc (.cells A ta)).alloc (.cells B tb)).alloc (.cells C tc)).alloc (.cells D td)):=by
 have h1:=At.new w A ta;have h2:=At.new (w.alloc (.cells A ta)) B tb;have h3:=At.new ((w.alloc (.cells A ta)).alloc (.cells B tb)) C tc;have h4:=At.new (((w.alloc (.cells A ta)).alloc (.cells B tb)).alloc (.cells C tc)) D td;simp only[World.size_alloc]at h2 h3 h4;exact⟨((h1.alloc _).alloc _).alloc _,(h2.alloc _).alloc _,h3.alloc _,h4,((((Below.refl _ w).alloc (Nat.le_refl _) _).alloc (by simp) _).alloc (by simp;omega) _).alloc (by simp;omega) _⟩
theorem bx_zero {w:World}{a:Nat}(h:At w a Tryz.zeroCells78):Bx w a (⟨0,0,fun _=>zV⟩:Fm).row:=
 ⟨h.1,fun o v q=>(h.2.1 o).trans (by rw[←zero85]at q;simpa using q),h.2.2⟩
theorem bx_at0 {w:World}{a:Nat}{row:List Value}(h:Bx w a row):w.rangeAt a 0 row:=fun j v q=>by rw[Nat.zero_add];exact h.at_ j v q
theorem info85 {f:Fm}:(Tryz.prog.info? 78).map (·.size)=some f.row.length:=by rw[fmRow_len];kernel_rfl
theorem kp7 (w:World)(a o:Nat)(v:Vl):Kp (fun k=>k=a) w (set7 w a o v):=by
 rw[←set7_eq];exact kp_setCells (fun k=>k=a) a rfl _ _ w
theorem entered_any (m:PImg)(v1 d:Value)(g e k n:Nat)(r0:Nat→Vl)(ca ga:Option Addr)(cc gc:Nat)(va:Option Addr)(vc:Nat)(w:World)(hg:g<m.gates.length)(hgm:GateIn w.heap.size w ga m.gates)(hcm:CompIn w.heap.size w ca m.comps)
 (he:m.gates[g].e=e)(hk:m.gates[g].c=k)(hkl:k<m.comps.length)(hr:∀x∈m.comps[k].roots,0≤x.r∧x.r<16)(hl:m.comps[k].roots.length≤1000000)(hsrc:SrcV w va r0 n)(hn:n≤15):
 Calls Tryz.prog 35 #[.agg #[v1,.slice ca m.comps.length cc,.slice ga m.gates.length gc,d],.int .i64 g,.slice va n vc] w fun x w'=>x=.returned (.agg (rootsJ ⟨g,e,ovF r0 (fun _=>zV) n⟩ m.comps[k].roots m.comps[k].roots.length).row.toArray)∧Bl w w':=by
 obtain⟨b,off,xa,xc,ya,yc,rfl,_,hb,c0,c1,c2,c3,z1,z2⟩:=hgm g hg;obtain⟨b2,off2,ra,rc,ka,kc,rfl,_,hb2,d0,d1,hR,z3⟩:=hcm k hkl;rw[hk]at c0;rw[he]at c1;have g1:(g:Int)<m.gates.length:=by omega
 have g2:(k:Int)<m.comps.length:=by omega
 clear hgm hcm he hk z1 z2 z3;generalize m.gates[g].args.length=na at*;generalize m.gates[g].res.length=nr at*;generalize m.comps[k].code.length=nk at*;generalize m.comps[k].roots=L at*;generalize m.gates.length=ng at*;generalize m.comps.length=nc at*;replace hR:=ζ hR;replace hr:=ζ hr;have hcp:=fun W kf f h1 h2=>copy_fm W kf f r0 n va vc h1 h2 hn
 generalize hf0:(⟨g,e,ovF r0 (fun _=>zV) n⟩:Fm)=f0;go_enter Tryz.func35,Tryz.ntmps35;go_wp2_with fail;rw[zero85s];obtain⟨a0,a1,a2,a3,b0⟩:=at4n w #[v1,.slice (some ⟨b2,off2,none⟩) nc cc,.slice (some ⟨b,off,none⟩) ng gc,d] Tryz.zeroCells78 #[.int .i64 k,.int .i64 e,.slice xa na xc,.slice ya nr yc] Tryz.zeroCells78 40 78 36 78;obtain⟨k1,k2,k3⟩:=store_fm _ _ _ ⟨g,e,fun _=>zV⟩ (bx_zero a3);rw[k1];replace a0:=at_kp a0 k3 (by omega);replace a1:=(bx_zero a1).keep k3 (by omega);replace a2:=at_kp a2 k3 (by omega);replace b0:=b0.trans (k3.below b0.size (fun k q=>by omega));clear k1 k3 a3;generalize World.setCells _ _ _ _=W1 at*;obtain⟨hq1,k4,k5⟩:=hcp W1 (w.heap.size+1+1+1) ⟨g,e,fun _=>zV⟩ k2 (hsrc.below b0);rw[hf0]at k4;clear hcp k2;have b0':=b0.trans (k5.below b0.size (fun k q=>by omega));have a1':=a1.keep k5 (by omega);have a0':=at_kp a0 k5 (by omega);have a2':=at_kp a2 k5 (by omega);generalize hW2:World.setCells W1 _ _ _=W2 at*
 have st0:EnAt w f0 L 0 W2:=⟨b0',a1',k4⟩;replace hW2:=ζ hW2;replace k5:=ζ k5;replace hf0:=ζ hf0;replace hsrc:=ζ hsrc;have x1:W2.cell? ⟨w.heap.size,1,none⟩=some (.slice (some ⟨b2,off2,none⟩) nc cc):=a0'.2.1 1;have x2:W2.cell? ⟨w.heap.size+1+1,0,none⟩=some (.int .i64 k):=a2'.2.1 0;have x3:=(b0'.cell (p:=⟨b2,off2+k*2,none⟩) hb2).trans d0;clear c0 c1 c2 c3 d0 d1;replace st0:=ζ st0;replace a0:=ζ a0;replace a1:=ζ a1;replace a2:=ζ a2;replace b0:=ζ b0;replace b0':=ζ b0';replace a0':=ζ a0';replace a1':=ζ a1';replace a2':=ζ a2';replace k4:=ζ k4;go_wp2_with fail;go_loopw [32] (fun i wr=>∃j:Nat,i=.int .i64 j∧j≤L.length∧EnAt w f0 L j wr) (fun i _=>L.length - (intOf i).toNat)
 case atStart=>exact⟨0,rfl,by omega,st0.out⟩
 case round=>
  clear st0 k4 k5 a1 a0 a2 b0 a1' a0' a2' b0' x1 x2 x3 hq1 hW2;obtain⟨j,rfl,hj,⟨e1,e2,e3⟩⟩:=hrel;by_cases hlt:j<L.length
  ·have jl:(j:Int)<L.length:=by omega
   obtain⟨b3,off3,rfl,_,hb3,hc⟩:=hR.out j hlt;have hx:=hr.out L[j] (List.getElem_mem hlt);have eJ:rootsJ f0 L (j+1)=putF (rootsJ f0 L j) L[j].r.toNat (rootV L[j]):=by
    rw[rootsJ,List.getElem?_eq_getElem hlt]
   obtain⟨r,hr1⟩:∃r:Nat,L[j].r=r:=⟨L[j].r.toNat,by omega⟩;have hr2:L[j].r.toNat=r:=by omega
   have hr3:r<16:=by omega
   rw[hr2]at eJ;have q0:=(e1.cell (p:=⟨b3,_,none⟩) hb3).trans (hc 0 (by omega));have q1:=(e1.cell (p:=⟨b3,_,none⟩) hb3).trans (hc 1 (by omega));have q2:=(e1.cell (p:=⟨b3,_,none⟩) hb3).trans (hc 2 (by omega));have q3:=(e1.cell (p:=⟨b3,_,none⟩) hb3).trans (hc 3 (by omega));have q4:=(e1.cell (p:=⟨b3,_,none⟩) hb3).trans (hc 4 (by omega));have q5:=(e1.cell (p:=⟨b3,_,none⟩) hb3).trans (hc 5 (by omega));simp only[PRoot.vals,List.getElem?_cons_zero,List.getElem?_cons_succ,hr1,Nat.add_zero]at q0 q1 q2 q3 q4 q5;have hb3':b3<wr.heap.size:=Nat.lt_of_lt_of_le hb3 e1.size;have hj1:Hz (j+1≤L.length):=⟨hlt⟩;have eR:∀i,i<7→∃y,wr.cell? ⟨w.heap.size+1+1+1,2+r*7+i,none⟩=some y:=fun i hi=>by
    have z:=fmRow_reg (rootsJ f0 L j) r i hr3 hi;have z2:((rootsJ f0 L j).regs r).row[i]?=some (((rootsJ f0 L j).regs r).row[i]'(by rw[Vl.row_len];exact hi)):=List.getElem?_eq_getElem _;exact⟨_,e3.at_ _ _ (z.trans z2)⟩
   obtain⟨y0,r0⟩:=eR 0 (by omega);obtain⟨y1,r1⟩:=eR 1 (by omega);obtain⟨y2,r2⟩:=eR 2 (by omega);obtain⟨y3,r3⟩:=eR 3 (by omega);obtain⟨y4,r4⟩:=eR 4 (by omega);obtain⟨y5,r5⟩:=eR 5 (by omega);obtain⟨y6,r6⟩:=eR 6 (by omega);replace r0:wr.cell? ⟨w.heap.size+1+1+1,2+r*7,none⟩=some y0:=r0;have rf:=e3.fr;have rl:=e3.lt;have hP:=bx_putF e3 r (rootV L[j]) hr3;rw[←eJ]at hP;simp only[set7,rootV]at hP;generalize rootsJ f0 L j=fj at*;generalize hfj:rootsJ f0 L (j+1)=fj1 at*;generalize L[j]=x at*;have hCap:=capability_any x.b x.e x.c x.p x.s;have nr1:(r:Int)<16:=by omega
   replace e1:=ζ e1;replace e2:=ζ e2;replace e3:=ζ e3;replace hP:=ζ hP;replace eJ:=ζ eJ;replace hc:=ζ hc;replace hx:=ζ hx;replace hfj:=ζ hfj;clear eR hr1 hr2;have f5:EnAt w f0 L (j+1) (set7 wr (w.heap.size+1+1+1) (2+r*7) ⟨true,0,⟨x.b,x.e,x.c,x.p,x.s⟩⟩):=by
    have kk:=kp7 wr (w.heap.size+1+1+1) (2+r*7) ⟨true,0,⟨x.b,x.e,x.c,x.p,x.s⟩⟩;exact⟨e1.out.trans (kk.below (B:=w.heap.size) e1.out.size (fun q z=>by omega)),e2.out.keep kk (by omega),by rw[hfj.out];exact hP.out⟩
   simp only[set7,Int.natCast_zero]at f5;replace f5:=ζ f5;generalize hK3:w.heap.size+1+1+1=K3 at*;replace hK3:=ζ hK3;have KB:∀W,Below (wr.heap.size+1) (wr.alloc (.cells #[.int .i64 r,.int .u64 x.b,.int .u64 x.e,.int .u64 x.c,.int .u8 x.p,.int .i64 x.s] 157)) W→At W wr.heap.size #[.int .i64 r,.int .u64 x.b,.int .u64 x.e,.int .u64 x.c,.int .u8 x.p,.int .i64 x.s]:=fun W q=>at_below (At.new wr _ _) q (Nat.lt_succ_self _)
   have KS:∀W,At W wr.heap.size #[.int .i64 r,.int .u64 x.b,.int .u64 x.e,.int .u64 x.c,.int .u8 x.p,.int .i64 x.s]→W.cell? ⟨wr.heap.size,0,none⟩=some (.int .i64 r)∧W.cell? ⟨wr.heap.size,1,none⟩=some (.int .u64 x.b)∧W.cell? ⟨wr.heap.size,2,none⟩=some (.int .u64 x.e)∧W.cell? ⟨wr.heap.size,3,none⟩=some (.int .u64 x.c)∧W.cell? ⟨wr.heap.size,4,none⟩=some (.int .u8 x.p)∧W.cell? ⟨wr.heap.size,5,none⟩=some (.int .i64 x.s):=fun W q=>⟨q.2.1 0,q.2.1 1,q.2.1 2,q.2.1 3,q.2.1 4,q.2.1 5⟩
   have nb:wr.heap.size≠K3:=by omega
   have KZ:∀W W',At W wr.heap.size #[.int .i64 r,.int .u64 x.b,.int .u64 x.e,.int .u64 x.c,.int .u8 x.p,.int .i64 x.s]→Kp (fun k=>k=K3) W W'→At W' wr.heap.size #[.int .i64 r,.int .u64 x.b,.int .u64 x.e,.int .u64 x.c,.int .u8 x.p,.int .i64 x.s]:=fun W W' q q2=>at_kp q q2 nb
   replace KB:=ζ KB;replace KS:=ζ KS;replace KZ:=ζ KZ;clear nb;have rl1:K3<wr.heap.size+1:=by omega
   have rl2:K3<wr.heap.size+1+1:=by omega
   go_wp2_with fail;go_region_with (go_at_call 64;refine(hCap _).mono ?_;rintro y w1 ⟨rfl,rfl⟩)
   all_goals
    go_wp2_with fail;exact⟨⟨j+1,by go_num,hj1.out,f5.out.gr (by(repeat(first|assumption|with_reducible exact Below.refl _ _|with_reducible refine Below.drew ?_|with_reducible refine Below.alloc ?_ (by simp<;>omega) _)))⟩,by have:=hj1.out;simp[intOf];omega⟩
  ·have jl:¬(j:Int)<L.length:=by omega
   have:j=L.length:=by omega
   subst this;have hld:=load_fm wr _ _ e3;obtain⟨s1,s2,s3⟩:=store_fm wr _ _ (rootsJ f0 L L.length) e2;have hl114:=fmRow_len (rootsJ f0 L L.length);have hone:=oneCell_row (rootsJ f0 L L.length);have hinf:=info85 (f:=rootsJ f0 L L.length);generalize hrow:(rootsJ f0 L L.length).row=row at*;replace hrow:=ζ hrow;have a3:=bx_at0 e3;replace e1:=ζ e1;replace e2:=ζ e2;replace e3:=ζ e3;replace s2:=ζ s2;replace s3:=ζ s3;replace hld:=ζ hld;replace s1:=ζ s1;replace hone:=ζ hone;replace a3:=ζ a3;go_wp2_with fail;refine wp_load_mid _ _ rfl _ 0 rfl row _ a3.out Tryz.underlying78 rfl hinf ?_;simp only[Act.put,List.setIfInBounds_toArray,List.set_cons_zero,List.set_cons_succ];go_wp2_with fail;rw[s1.out];have hres:Below w.heap.size w (wr.setCells (w.heap.size+1) 0 row):=e1.out.trans (s3.out.below e1.out.size (fun q z=>by omega));have s5:=bx_at0 s2.out;clear s1;generalize World.setCells _ _ _ _=W5 at*;have hrun:=run_loadVar_mid (P:=Tryz.prog) W5 (w.heap.size+1) 0 78 row _ s5 Tryz.underlying78 rfl hinf
   replace hres:=ζ hres;replace s5:=ζ s5;go_wp2_with fail;refine bodyPost_ret (v:=.agg row.toArray) ?_ rfl ⟨by rw[hrow.out],hres.out⟩;exact results_cellE Tryz.results35 _ _ rfl hrun
end C
end Go.Proofs.YtkhbiaaangnkdaaGreatDoor
