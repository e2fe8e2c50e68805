import Derived.Test.YthlpjlnehonpdaaGreatDoorK10
import Derived.Test.YthlpjlnehonpdaaGreatDoorK12
import Derived.Deep.AppendLies
import Derived.Test.YthlpjlnehonpdaaGreatDoorK04
import Derived.Test.YthlpjlnehonpdaaGreatDoorK02
import Derived.OneCell
import Derived.Lib.AppendStr
import Derived.Test.YthlpjlnehonpdaaGreatDoorK03
import Derived.RegionTactic
import Derived.BigRegion
import Derived.Deep.RegionHeld3
import Derived.StillTactics
namespace Go.Proofs.YthlpjlnehonpdaaGreatDoor
namespace T
open Go.RowKit
structure Ob where
 S:Nat→Prop
 In:World→Prop
 lt:∀w,In w→∀k,S k→k<w.heap.size
 keep:∀(w w':World) (S1:Nat→Prop),In w→Kp S1 w w'→(∀k,S k→¬S1 k)→In w'
def tgOb (S:Nat→Prop)(a:Nat)(b:Nat→UInt8)(t:Nat→Option Cp):Ob:=⟨S,fun w=>TgIn S w a b t,fun _ h=>h.lt,fun _ _ _ h hk hd=>h.keep hk hd⟩
def boxOb (k:Nat)(cs:Array Value):Ob:=⟨fun x=>x=k,fun w=>At w k cs,fun _ h _ q=>q▸h.1,fun _ _ _ h hk hd=>at_kp h hk (hd _ rfl)⟩
structure Sep (B:Nat)(W:World)(l:List Ob):Prop where
 ins:∀o∈l,o.In W
 dis:l.Pairwise fun o p=>∀k,o.S k→¬p.S k
 ge:∀o∈l,∀k,o.S k→B≤k
theorem Sep.gr {B:Nat}{W W':World}{l:List Ob}(h:Sep B W l)(hb:Below W.heap.size W W'):Sep B W' l:=
 ⟨fun o ho=>o.keep W W' (fun _=>False) (h.ins o ho) (Kp.of_below hb) (fun _ _ q=>q),h.dis,h.ge⟩
theorem Sep.add {B:Nat}{W W':World}{l:List Ob}(h:Sep B W l)(o:Ob)(hi:o.In W')(hn:∀k,o.S k→W.heap.size≤k)(hb:Below W.heap.size W W')(hB:B≤W.heap.size):Sep B W' (o::l):=by
 have h':=h.gr hb;refine⟨fun p hp=>?_,List.pairwise_cons.2 ⟨fun p hp k q r=>?_,h.dis⟩,fun p hp k q=>?_⟩
 ·rcases List.mem_cons.1 hp with rfl|r
  ·exact hi
  ·exact h'.ins p r
 ·have:=hn k q;have:=p.lt W (h.ins p hp) k r;omega
 ·rcases List.mem_cons.1 hp with rfl|r
  ·have:=hn k q;omega
  ·exact h.ge p r k q
end T
namespace C
open Go.RowKit
open T (Sep Ob Kp Mf TgIn boxOb)
structure Hz (p:Prop):Prop where
 out:p
theorem ζ {p:Prop}(h:p):Hz p:=⟨h⟩
structure IvIn (w:World)(v:Value)(L:List Int):Prop where
 go:∃a cap,v=.slice a L.length cap∧L.length≤cap∧(L.length=0∨∃b off,a=some ⟨b,off,none⟩∧∀i (h:i<L.length),w.cell? ⟨b,off+i,none⟩=some (.int .u64 L[i]))
 lt:∀k,v.ownBlock=some k→k<w.heap.size
 rm:∃a cap,v=.slice a L.length cap∧((a=none∧cap=0)∨∃b off,a=some ⟨b,off,none⟩∧∀j,j<cap→(w.cell? ⟨b,off+j,none⟩).isSome=true∧w.frozen? ⟨b,off+j,none⟩=false)
theorem IvIn.keep {S1:Nat→Prop}{w w':World}{v:Value}{L:List Int}(h:IvIn w v L)(hk:Kp S1 w w')(hd:∀k,v.ownBlock=some k→¬S1 k):IvIn w' v L:=by
 refine⟨?_,fun k q=>Nat.lt_of_lt_of_le (h.lt k q) hk.size,?_⟩
 ·obtain⟨a,cap,e1,e2,e3⟩:=h.go;refine⟨a,cap,e1,e2,?_⟩;rcases e3 with e3|⟨b,off,rfl,e3⟩
  ·exact .inl e3
  ·have hb:w'.heap[b]?=w.heap[b]?:=hk.block b (h.lt b (by rw[e1];rfl)) (hd b (by rw[e1];rfl));exact .inr ⟨b,off,rfl,fun i hi=>(T.cell_of_block hb _).trans (e3 i hi)⟩
 ·obtain⟨a,cap,e1,e2⟩:=h.rm;refine⟨a,cap,e1,?_⟩;rcases e2 with e2|⟨b,off,rfl,e2⟩
  ·exact .inl e2
  ·have hb:w'.heap[b]?=w.heap[b]?:=hk.block b (h.lt b (by rw[e1];rfl)) (hd b (by rw[e1];rfl));refine .inr ⟨b,off,rfl,fun i hi=>?_⟩;rw[T.cell_of_block hb,show w'.frozen? ⟨b,off+i,none⟩=w.frozen? ⟨b,off+i,none⟩by simp only[World.frozen?,hb]];exact e2 i hi
theorem own_keep {S1:Nat→Prop}{w w':World}{lo e s n:Nat}{v:Value}{xs:List Value}(h:w.ownsRow lo e s v n xs)(hk:Kp S1 w w')(hd:∀k,v.ownBlock=some k→¬S1 k):w'.ownsRow lo e s v n xs:=by
 have hl:=h.lt;refine⟨h.1,?_⟩;rcases h.2 with q|⟨g,cap,cur,rfl,hb,hg,r⟩
 ·exact .inl q
 ·exact .inr ⟨g,cap,cur,rfl,hb,(hk.block g (hl g rfl).2 (hd g rfl)).trans hg,r⟩
def rowOb (B e size:Nat)(v:Value)(n:Nat)(xs:List Value):Ob:=⟨fun k=>v.ownBlock=some k,fun w=>w.ownsRow B e size v n xs,fun _ h k q=>(h.lt k q).2,fun _ _ _ h hk hd=>own_keep h hk hd⟩
def inOb (v:Value)(L:List Int):Ob:=⟨fun k=>v.ownBlock=some k,fun w=>IvIn w v L,fun _ h=>h.lt,fun _ _ _ h hk hd=>h.keep hk hd⟩
theorem sep_change {B:Nat}{W W':World}{l1 l2:List Ob}{o o':Ob}(h:Sep B W (l1++o::l2))(hi:o'.In W')(hk:Kp o.S W W')(hn:∀k,o'.S k→o.S k∨W.heap.size≤k)(hB:B≤W.heap.size):Sep B W' (l1++o'::l2):=by
 have hd:=h.dis;rw[List.pairwise_append]at hd;obtain⟨q1,q2,q3⟩:=hd;rw[List.pairwise_cons]at q2;have n1:∀p∈l1,∀k,p.S k→¬o.S k:=fun p hp k=>q3 p hp o (by simp) k
 have n2:∀p∈l2,∀k,p.S k→¬o.S k:=fun p hp k r s=>q2.1 p hp k s r
 have lt1:∀p∈l1,∀k,p.S k→k<W.heap.size:=fun p hp=>p.lt W (h.ins p (by simp[hp]))
 have lt2:∀p∈l2,∀k,p.S k→k<W.heap.size:=fun p hp=>p.lt W (h.ins p (by simp[hp]))
 have m1:∀p∈l1,∀k,p.S k→¬o'.S k:=fun p hp k r s=>by
  rcases hn k s with t|t
  ·exact n1 p hp k r t
  ·have:=lt1 p hp k r;omega
 have m2:∀p∈l2,∀k,o'.S k→¬p.S k:=fun p hp k s r=>by
  rcases hn k s with t|t
  ·exact n2 p hp k r t
  ·have:=lt2 p hp k r;omega
 refine⟨fun p hp=>?_,?_,fun p hp k q=>?_⟩
 ·rcases List.mem_append.1 hp with r|r
  ·exact p.keep W W' o.S (h.ins p (by simp[r])) hk (n1 p r)
  ·rcases List.mem_cons.1 r with rfl|r
   ·exact hi
   ·exact p.keep W W' o.S (h.ins p (by simp[r])) hk (n2 p r)
 ·rw[List.pairwise_append];refine⟨q1,List.pairwise_cons.2 ⟨fun p hp k=>m2 p hp k,q2.2⟩,fun p hp r hr k=>?_⟩;rcases List.mem_cons.1 hr with rfl|hr
  ·exact m1 p hp k
  ·exact q3 p hp r (by simp[hr]) k
 ·rcases List.mem_append.1 hp with r|r
  ·exact h.ge p (by simp[r]) k q
  ·rcases List.mem_cons.1 r with rfl|r
   ·rcases hn k q with t|t
    ·exact h.ge o (by simp) k t
    ·omega
   ·exact h.ge p (by simp[r]) k q
theorem sep_below {B:Nat}{W W':World}{l1 l2:List Ob}{o:Ob}(h:Sep B W (l1++o::l2))(hk:Kp o.S W W')(hB:B≤W.heap.size):Below B W W':=hk.below hB (h.ge o (by simp))
theorem sep_perm {B:Nat}{W:World}{l l':List Ob}(h:Sep B W l)(p:l.Perm l'):Sep B W l':=
 ⟨fun o ho=>h.ins o (p.mem_iff.2 ho),(List.Perm.pairwise_iff (fun q k hb ha=>q k ha hb) p).1 h.dis,fun o ho=>h.ge o (p.mem_iff.2 ho)⟩
theorem sep_tail {B:Nat}{W:World}{o:Ob}{l:List Ob}(h:Sep B W (o::l)):Sep B W l:=
 ⟨fun p hp=>h.ins p (List.mem_cons_of_mem _ hp),(List.pairwise_cons.1 h.dis).2,fun p hp=>h.ge p (List.mem_cons_of_mem _ hp)⟩
def snapOb (B:Nat)(V:World):Ob:=⟨fun k=>B≤k∧k<V.heap.size,fun X=>V.heap.size≤X.heap.size∧∀k,B≤k→k<V.heap.size→X.heap[k]?=V.heap[k]?,fun _ h _ q=>Nat.lt_of_lt_of_le q.2 h.1,fun _ _ _ h hk hd=>⟨Nat.le_trans h.1 hk.size,fun k h1 h2=>(hk.block k (Nat.lt_of_lt_of_le h2 h.1) (hd k ⟨h1,h2⟩)).trans (h.2 k h1 h2)⟩⟩
theorem snap_sep (B:Nat)(V:World):Sep B V [snapOb B V]:=by
 refine⟨fun o ho=>?_,List.pairwise_cons.2 ⟨fun p hp=>(by cases hp),List.Pairwise.nil⟩,fun o ho k q=>?_⟩
 ·rw[List.mem_singleton.1 ho];exact⟨Nat.le_refl _,fun _ _ _=>rfl⟩
 ·rw[List.mem_singleton.1 ho]at q;exact q.1
end C
open Go.RowKit
theorem one_at {w:World}{k:Nat}{cs:Array Value}{t:TypeId}(h:w.heap[k]?=some (.cells cs t (0,0))):At w k cs:=by
 refine⟨(Array.getElem?_eq_some_iff.1 h).1,fun o=>?_,fun o=>?_⟩
 ·simp only[World.cell?];rw[h];simp
 ·simp only[World.frozen?];rw[h];simp
theorem own_ne {w:World}{base e size n k:Nat}{v:Value}{xs:List Value}{cs:Array Value}{t:TypeId}(h:w.ownsRow base e size v n xs)(hb:w.heap[k]?=some (.cells cs t (0,0)))(ht:t≠e):v.ownBlock≠some k:=by
 intro he;rcases h.2 with⟨rfl,_⟩|⟨g,cap,cur,rfl,hbg,hg,_⟩
 ·cases he
 ·obtain rfl:g=k:=by simpa [Value.ownBlock]using he
  rw[hb]at hg;simp at hg;exact ht hg.2
set_option maxRecDepth 100000
set_option maxHeartbeats 40000000
theorem hasAll_any (h p:Int)(w:World):
 Calls Tryz.prog 170 #[.int .u8 h,.int .u8 p] w fun x w'=>x=.returned (.bool (hasB h p))∧w=w':=by
 go_enter Tryz.func170,Tryz.ntmps170;go_wp2;go_ret;exact⟨rfl,rfl⟩
theorem capRight_any (b e c p s:Int)(w:World):
 Calls Tryz.prog 140 #[.agg #[.int .u64 b,.int .u64 e,.int .u64 c,.int .u8 p,.int .i64 s]] w fun x w'=>x=.returned (.bool (rightB b e p s))∧w.alloc (.cells #[.int .u64 b,.int .u64 e,.int .u64 c,.int .u8 p,.int .i64 s] 77)=w':=by
 go_enter Tryz.func140,Tryz.ntmps140;go_wp2_with(go_at_call 170;refine(hasAll_any _ _ _).mono ?_;rintro x w' ⟨rfl,rfl⟩)
 all_goals
  go_ret;refine⟨ret_bool ?_,rfl⟩
  first|(refine right_last ?_ ?_ ?_ ?_<;>assumption)|(refine right_false ?_;rintro⟨h1,h2,h3,h4,h5⟩;first|omega|contradiction)
theorem dataCap_any (b e c p s:Int)(w:World):
 Calls Tryz.prog 95 #[.agg #[.int .u64 b,.int .u64 e,.int .u64 c,.int .u8 p,.int .i64 s]] w fun x w'=>x=.returned (.bool (dataB b e p s))∧Gr w w':=by
 unfold dataB;generalize hr:rightB b e p s=r;have hc:=capRight_any b e c p s;rw[hr]at hc;clear hr
 cases r
 all_goals
  go_enter Tryz.func95,Tryz.ntmps95;go_wp2_with(go_at_call 140;refine(hc _).mono ?_;rintro x w' ⟨rfl,rfl⟩);go_ret;refine⟨ret_bool (by simp),?_⟩
  repeat(first|exact Gr.refl _|refine Gr.alloc ?_ _)
theorem CapOf_any (t:PTyp)(c:Int)(w:World):
 Calls Tryz.prog 139 #[.agg #[.bool t.cap,.int .u64 t.b,.int .u64 t.e,.int .u64 t.lo,.int .u64 t.hi,.int .u8 t.p,.int .i64 t.s],.int .u64 c] w fun x w'=>x=.returned (.agg #[.int .u64 t.b,.int .u64 t.e,.int .u64 c,.int .u8 t.p,.int .i64 t.s])∧Gr w w':=by
 go_enter Tryz.func139,Tryz.ntmps139;go_wp2
 all_goals
  simp[bodyPost,results,Tryz.results139,go_sem]
  repeat(first|exact Gr.refl _|refine Gr.alloc ?_ _)
theorem pointsWithin_any (t:PTyp)(c:Int)(w:World):
 Calls Tryz.prog 94 #[.agg #[.bool t.cap,.int .u64 t.b,.int .u64 t.e,.int .u64 t.lo,.int .u64 t.hi,.int .u8 t.p,.int .i64 t.s],.int .u64 c] w fun x w'=>x=.returned (.bool (inLH t.lo t.hi c))∧Gr w w':=by
 go_enter Tryz.func94,Tryz.ntmps94;go_wp2
 all_goals
  go_ret;refine⟨ret_bool (by unfold inLH;simp_all<;>omega),?_⟩
  repeat(first|exact Gr.refl _|refine Gr.alloc ?_ _)
theorem typeRight_any (t:PTyp)(w:World):
 Calls Tryz.prog 93 #[.agg #[.bool t.cap,.int .u64 t.b,.int .u64 t.e,.int .u64 t.lo,.int .u64 t.hi,.int .u8 t.p,.int .i64 t.s]] w fun x w'=>x=.returned (.bool t.right)∧Gr w w':=by
 have hc:=CapOf_any t 0
 cases ht:t.cap with
 |false=>
  go_enter Tryz.func93,Tryz.ntmps93;go_wp2
  all_goals
   go_ret;refine⟨ret_bool (by simp_all [PTyp.right]),?_⟩
   (with_reducible repeat(first|exact Gr.refl _|refine Gr.alloc ?_ _|refine Gr.grow ?_ _|refine Gr.drew ?_|refine Gr.setCell ?_ _ _ _ (gr_size ?_)))
 |true=>
  rw[ht]at hc;have hd:=dataCap_any t.b t.e 0 t.p t.s;have e:t.right=(dataB t.b t.e t.p t.s&&decide (t.lo≤t.hi)):=by simp[PTyp.right,ht]
  rw[e];clear e ht;generalize dataB t.b t.e t.p t.s=q at hd ⊢;have L1:=grow_cell;have L2:=grow_frozen;have L3:=grow_set;have L4:=grow_lt;have L5:=glt1;have L6:=glt2;have L7:=glt3;have L8:=glt4;have L9:=glt5;have L10:=glt6;have L11:=lt1;have L12:=lt2;have L13:=lt3;have L14:=lt4;have L15:=lt5;have L16:=lt6;have L17:=lt7;have L18:=lt8
  cases q
  all_goals
   go_enter Tryz.func93,Tryz.ntmps93;go_wp2_with(first|(go_at_call 139;refine(hc _).mono ?_;rintro x w' ⟨rfl,hG⟩;(repeat(replace hG:=Gr.of_grow hG));obtain⟨l,rfl⟩:=hG)|(go_at_call 95;refine(hd _).mono ?_;rintro x w' ⟨rfl,hG⟩;(repeat(replace hG:=Gr.of_grow hG));obtain⟨l,rfl⟩:=hG));go_ret;refine⟨ret_bool (by simp),?_⟩
   (with_reducible repeat(first|exact Gr.refl _|refine Gr.alloc ?_ _|refine Gr.grow ?_ _|refine Gr.drew ?_|refine Gr.setCell ?_ _ _ _ (gr_size ?_)))
theorem targetThere_any (k:Ins)(code gates:Int)(w:World)(h0:0≤k.op)(h1:k.op<256):
 Calls Tryz.prog 97 #[.agg #[.int .u8 k.op,.int .i64 k.a,.int .i64 k.b,.int .i64 k.c,.int .i64 k.m],.int .i64 code,.int .i64 gates] w fun x w'=>x=.returned (.bool (tgtB k.op k.m code gates))∧Gr w w':=by
 go_enter Tryz.func97,Tryz.ntmps97;go_wp2
 all_goals
  go_ret;refine⟨ret_bool (by unfold tgtB;simp_all<;>omega),?_⟩
  (with_reducible repeat(first|exact Gr.refl _|refine Gr.alloc ?_ _|refine Gr.grow ?_ _|refine Gr.drew ?_|refine Gr.setCell ?_ _ _ _ (gr_size ?_)))
theorem placeRight_any (b n f:Int)(d:ByteArray)(a:Option Addr)(k c:Nat)(w:World)(hb:W64 b)(hn:W64 n):
 Calls Tryz.prog 59 #[.agg #[.int .u64 b,.int .u64 n,.string d,.slice a k c],.int .u64 f] w fun x w'=>x=.returned (.bool (placeB b n f))∧Gr w w':=by
 obtain⟨b0,b1⟩:=hb;obtain⟨n0,n1⟩:=hn;have m1:b.tmod 16=b%16:=Int.tmod_eq_emod_of_nonneg b0;have m2:n.tmod 16=n%16:=Int.tmod_eq_emod_of_nonneg n0;by_cases h6:b<65536
 ·have m3:IntKind.u64.wrap (65536 - b)=65536 - b:=by rw[IntKind.wrap_u64];omega
  go_enter Tryz.func59,Tryz.ntmps59;go_wp2
  all_goals
   go_ret;refine⟨ret_bool (by unfold placeB;simp_all<;>first|rfl|omega),?_⟩
   (with_reducible repeat(first|exact Gr.refl _|refine Gr.alloc ?_ _|refine Gr.grow ?_ _|refine Gr.drew ?_|refine Gr.setCell ?_ _ _ _ (gr_size ?_)))
 ·go_enter Tryz.func59,Tryz.ntmps59;go_wp2
  all_goals
   go_ret;refine⟨ret_bool (by unfold placeB;simp_all<;>first|rfl|omega),?_⟩
   (with_reducible repeat(first|exact Gr.refl _|refine Gr.alloc ?_ _|refine Gr.grow ?_ _|refine Gr.drew ?_|refine Gr.setCell ?_ _ _ _ (gr_size ?_)))
theorem slotRight_any (k:PSlot)(w:World):
 Calls Tryz.prog 61 #[.agg #[.bool k.t.cap,.int .u64 k.t.b,.int .u64 k.t.e,.int .u64 k.t.lo,.int .u64 k.t.hi,.int .u8 k.t.p,.int .i64 k.t.s,.int .u64 k.c]] w fun x w'=>x=.returned (.bool k.right)∧Gr w w':=by
 have ht:=typeRight_any k.t;have hp:=pointsWithin_any k.t k.c;unfold PSlot.right;generalize k.t.right=q1 at ht ⊢;generalize inLH k.t.lo k.t.hi k.c=q2 at hp ⊢;generalize k.t.cap=q0 at ht hp ⊢;have L1:=grow_cell;have L2:=grow_frozen;have L3:=grow_set;have L4:=grow_lt;have L5:=glt1;have L6:=glt2;have L7:=glt3;have L8:=glt4;have L9:=glt5;have L10:=glt6;have L11:=lt1;have L12:=lt2;have L13:=lt3;have L14:=lt4;have L15:=lt5;have L16:=lt6;have L17:=lt7;have L18:=lt8
 cases q0
 ·go_enter Tryz.func61,Tryz.ntmps61;go_wp2;go_ret;refine⟨ret_bool (by simp),?_⟩
  (with_reducible repeat(first|exact Gr.refl _|refine Gr.alloc ?_ _|refine Gr.grow ?_ _|refine Gr.drew ?_|refine Gr.setCell ?_ _ _ _ (gr_size ?_)))
 ·cases q1
  all_goals
   go_enter Tryz.func61,Tryz.ntmps61;go_wp2_with(first|(go_at_call 93;refine(ht _).mono ?_;rintro x w' ⟨rfl,hG⟩;(repeat(replace hG:=Gr.of_grow hG));obtain⟨l,rfl⟩:=hG)|(go_at_call 94;refine(hp _).mono ?_;rintro x w' ⟨rfl,hG⟩;(repeat(replace hG:=Gr.of_grow hG));obtain⟨l,rfl⟩:=hG));go_ret;refine⟨ret_bool (by simp),?_⟩
   (with_reducible repeat(first|exact Gr.refl _|refine Gr.alloc ?_ _|refine Gr.grow ?_ _|refine Gr.drew ?_|refine Gr.setCell ?_ _ _ _ (gr_size ?_)))
theorem typ_cells {w:World}{b o:Nat}{t:PTyp}(h:∀j,j<7→w.cell? ⟨b,o+j,none⟩=t.vals[j]?):
 w.cell? ⟨b,o,none⟩=some (.bool t.cap)∧w.cell? ⟨b,o+1,none⟩=some (.int .u64 t.b)∧w.cell? ⟨b,o+1+1,none⟩=some (.int .u64 t.e)∧w.cell? ⟨b,o+1+1+1,none⟩=some (.int .u64 t.lo)∧w.cell? ⟨b,o+1+1+1+1,none⟩=some (.int .u64 t.hi)∧w.cell? ⟨b,o+1+1+1+1+1,none⟩=some (.int .u8 t.p)∧w.cell? ⟨b,o+1+1+1+1+1+1,none⟩=some (.int .i64 t.s):=
 ⟨h 0 (by omega),h 1 (by omega),h 2 (by omega),h 3 (by omega),h 4 (by omega),h 5 (by omega),h 6 (by omega)⟩
theorem root_cells {w:World}{b o:Nat}{t:PRoot}(h:∀j,j<6→w.cell? ⟨b,o+j,none⟩=t.vals[j]?):
 w.cell? ⟨b,o,none⟩=some (.int .i64 t.r)∧w.cell? ⟨b,o+1,none⟩=some (.int .u64 t.b)∧w.cell? ⟨b,o+1+1,none⟩=some (.int .u64 t.e)∧w.cell? ⟨b,o+1+1+1,none⟩=some (.int .u64 t.c)∧w.cell? ⟨b,o+1+1+1+1,none⟩=some (.int .u8 t.p)∧w.cell? ⟨b,o+1+1+1+1+1,none⟩=some (.int .i64 t.s):=
 ⟨h 0 (by omega),h 1 (by omega),h 2 (by omega),h 3 (by omega),h 4 (by omega),h 5 (by omega)⟩
theorem slot_cells {w:World}{b o:Nat}{t:PSlot}(h:∀j,j<8→w.cell? ⟨b,o+j,none⟩=t.vals[j]?):
 w.cell? ⟨b,o,none⟩=some (.bool t.t.cap)∧w.cell? ⟨b,o+1,none⟩=some (.int .u64 t.t.b)∧w.cell? ⟨b,o+1+1,none⟩=some (.int .u64 t.t.e)∧w.cell? ⟨b,o+1+1+1,none⟩=some (.int .u64 t.t.lo)∧w.cell? ⟨b,o+1+1+1+1,none⟩=some (.int .u64 t.t.hi)∧w.cell? ⟨b,o+1+1+1+1+1,none⟩=some (.int .u8 t.t.p)∧w.cell? ⟨b,o+1+1+1+1+1+1,none⟩=some (.int .i64 t.t.s)∧w.cell? ⟨b,o+1+1+1+1+1+1+1,none⟩=some (.int .u64 t.c):=
 ⟨h 0 (by omega),h 1 (by omega),h 2 (by omega),h 3 (by omega),h 4 (by omega),h 5 (by omega),h 6 (by omega),h 7 (by omega)⟩
theorem typesR_at {L:List PTyp}{j:Nat}(h:j<L.length):typesR (L.drop j)=(L[j].right&&typesR (L.drop (j+1))):=by
 rw[List.drop_eq_getElem_cons h,typesR]
theorem drop_end {α:Type}{L:List α}{j:Nat}(h:¬j<L.length):L.drop j=[]:=by rw[List.drop_eq_nil_iff];omega
theorem typesRight_any (L:List PTyp)(c:Nat)(a:Option Addr)(w:World)(hL:FIn 7 PTyp.vals w.heap.size w a L)(hl:L.length≤140737488355328):
 Calls Tryz.prog 65 #[.slice a L.length c] w fun x w'=>x=.returned (.bool (typesR L))∧Gr w w':=by
 replace hL:=Hid.mk hL;go_enter Tryz.func65,Tryz.ntmps65;go_wp2_with fail;go_loopw [7] (fun i wr=>∃j:Nat,i=.int .i64 j∧j≤L.length∧Hid (typesR (L.drop j)=typesR L∧Gr w wr)) (fun i _=>L.length - (intOf i).toNat)
 case atStart=>exact⟨0,rfl,by omega,⟨rfl,Gr.refl w⟩⟩
 case round=>
  obtain⟨j,rfl,hj,⟨hf,hG⟩⟩:=hrel;by_cases hlt:j<L.length
  ·have jl:(j:Int)<L.length:=by omega
   obtain⟨b,off,rfl,hb,hb2,hc⟩:=hL.out.below hG.below j hlt;obtain⟨c0,c1,c2,c3,c4,c5,c6⟩:=typ_cells hc;clear hc;rw[typesR_at hlt]at hf;have ht:=typeRight_any L[j];generalize L[j]=t at*;generalize t.right=q at hf ht;replace hf:=Hid.mk hf;replace hG:=Hid.mk hG
   cases q
   all_goals
    go_wp2_with fail;refine(ht _).mono ?_;rintro x w2 ⟨rfl,hG2⟩;replace hG:=hG.out.trans hG2.of_alloc;clear hG2;replace hG:=Hid.mk hG;go_wp2_with fail
   ·go_ret;exact⟨ret_bool (by rw[←hf.out];simp),hG.out⟩
   ·go_roundw
    case rel=>exact⟨j+1,by simp,by omega,⟨by rw[←hf.out];simp,hG.out⟩⟩
    case measure=>simp[intOf];omega
  ·have jl:¬(j:Int)<L.length:=by omega
   rw[drop_end hlt]at hf;replace hf:=Hid.mk hf;replace hG:=Hid.mk hG;go_wp2_with fail;go_ret;exact⟨ret_bool hf.out,hG.out⟩
theorem rootsR_yes {L:List PRoot}{j:Nat}{f:Int}(h:j<L.length)(h1:f<L[j].r)(h2:L[j].r<16)(h3:dataB L[j].b L[j].e L[j].p L[j].s=true):rootsR (L.drop j) f=rootsR (L.drop (j+1)) L[j].r:=by
 rw[List.drop_eq_getElem_cons h,rootsR,if_pos ⟨h1,h2,h3⟩]
theorem rootsR_no {L:List PRoot}{j:Nat}{f:Int}(h:j<L.length)(h1:¬(f<L[j].r∧L[j].r<16∧dataB L[j].b L[j].e L[j].p L[j].s=true)):rootsR (L.drop j) f=false:=by
 rw[List.drop_eq_getElem_cons h,rootsR,if_neg h1]
theorem rootsRight_any (L:List PRoot)(c:Nat)(a:Option Addr)(w:World)(hL:FIn 6 PRoot.vals w.heap.size w a L)(hl:L.length≤140737488355328):
 Calls Tryz.prog 62 #[.slice a L.length c] w fun x w'=>x=.returned (.bool (rootsR L 7))∧Gr w w':=by
 replace hL:=Hid.mk hL;go_enter Tryz.func62,Tryz.ntmps62;go_wp2_with fail;go_loopw [3,8] (fun v i wr=>∃(j:Nat) (f:Int),v=.int .i64 f∧i=.int .i64 j∧j≤L.length∧Hid (rootsR (L.drop j) f=rootsR L 7∧Gr w wr)) (fun _ i _=>L.length - (intOf i).toNat)
 case atStart=>exact⟨0,7,rfl,rfl,by omega,⟨rfl,Gr.refl w⟩⟩
 case round=>
  obtain⟨j,f,rfl,rfl,hj,⟨hf,hG⟩⟩:=hrel;by_cases hlt:j<L.length
  ·have jl:(j:Int)<L.length:=by omega
   obtain⟨b,off,rfl,hb,hb2,hc⟩:=hL.out.below hG.below j hlt;obtain⟨c0,c1,c2,c3,c4,c5⟩:=root_cells hc;clear hc;have hy:=rootsR_yes (f:=f) hlt;have hn:=rootsR_no (f:=f) hlt;rw[hf]at hy hn;clear hf;have ht:=dataCap_any L[j].b L[j].e L[j].c L[j].p L[j].s;generalize L[j]=t at*;generalize dataB t.b t.e t.p t.s=q at*;replace hG:=Hid.mk hG;by_cases k1:t.r≤f
   ·replace hn:=Hid.mk (hn (fun h=>by omega));clear hy;go_wp2_with fail;go_ret;exact⟨ret_bool hn.out.symm,hG.out.alloc _⟩
   by_cases k2:16≤t.r
   ·replace hn:=Hid.mk (hn (fun h=>by omega));clear hy;go_wp2_with fail;go_ret;exact⟨ret_bool hn.out.symm,hG.out.alloc _⟩
   have k1':¬t.r≤f:=k1;have k2':¬16≤t.r:=k2
   cases q
   ·replace hn:=Hid.mk (hn (fun h=>by simp at h));clear hy;have L1:=grow_cell;have L2:=grow_frozen;have L3:=grow_set;have L4:=grow_lt;have L5:=glt1;have L6:=glt2;have L7:=glt3;have L8:=glt4;have L9:=glt5;have L10:=glt6;have L11:=lt1;have L12:=lt2;have L13:=lt3;have L14:=lt4;have L15:=lt5;have L16:=lt6;have L17:=lt7;have L18:=lt8;go_wp2_with(go_at_call 95;refine(ht _).mono ?_;rintro x w' ⟨rfl,hG⟩;(repeat(replace hG:=Gr.of_grow hG));obtain⟨l,rfl⟩:=hG);go_ret;exact⟨ret_bool hn.out.symm,(hG.out.alloc _).grow _⟩
   ·replace hy:=Hid.mk (hy (by omega) (by omega) rfl);clear hn;have L1:=grow_cell;have L2:=grow_frozen;have L3:=grow_set;have L4:=grow_lt;have L5:=glt1;have L6:=glt2;have L7:=glt3;have L8:=glt4;have L9:=glt5;have L10:=glt6;have L11:=lt1;have L12:=lt2;have L13:=lt3;have L14:=lt4;have L15:=lt5;have L16:=lt6;have L17:=lt7;have L18:=lt8;go_wp2_with(go_at_call 95;refine(ht _).mono ?_;rintro x w' ⟨rfl,hG⟩;(repeat(replace hG:=Gr.of_grow hG));obtain⟨l,rfl⟩:=hG);go_roundw
    case rel=>exact⟨j+1,t.r,rfl,by simp,by omega,⟨hy.out.symm,(hG.out.alloc _).grow _⟩⟩
    case measure=>simp[intOf];omega
  ·have jl:¬(j:Int)<L.length:=by omega
   rw[drop_end hlt]at hf;replace hf:=Hid.mk hf;replace hG:=Hid.mk hG;go_wp2_with fail;go_ret;exact⟨ret_bool hf.out,hG.out⟩
end Go.Proofs.YthlpjlnehonpdaaGreatDoor
