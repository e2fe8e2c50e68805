import Derived.Test.YtkhbiaaangnkdaaGreatDoorJ20
import Derived.Test.YtkhbiaaangnkdaaGreatDoorJ22
import Derived.Deep.AppendLies
import Derived.Test.YtkhbiaaangnkdaaGreatDoorJ09
import Derived.Test.YtkhbiaaangnkdaaGreatDoorJ02
import Derived.OneCell
import Derived.Lib.AppendStr
import Derived.Test.YtkhbiaaangnkdaaGreatDoorJ10
import Derived.Test.YtkhbiaaangnkdaaGreatDoorJ03
import Derived.Deep.RegionHeld3
import Derived.StillTactics
import Derived.Deep.QuietTactic
import Derived.BigQuiet
import Derived.BigRegion
import Derived.Laws.BitsAllLaws
namespace Go.Proofs.YtkhbiaaangnkdaaGreatDoor
namespace T
open Go.RowKit
structure Ob where
 S:Nat→Prop
 In:World→Prop
 lt:∀w,In w→∀k,S k→k<w.heap.size
 keep:∀(w w':World) (S1:Nat→Prop),In w→Kp S1 w w'→(∀k,S k→¬S1 k)→In w'
def tgOb (S:Nat→Prop)(a:Nat)(b:Nat→UInt8)(t:Nat→Option Cp):Ob:=⟨S,fun w=>TgIn S w a b t,fun _ h=>h.lt,fun _ _ _ h hk hd=>h.keep hk hd⟩
def boxOb (k:Nat)(cs:Array Value):Ob:=⟨fun x=>x=k,fun w=>At w k cs,fun _ h _ q=>q▸h.1,fun _ _ _ h hk hd=>at_kp h hk (hd _ rfl)⟩
structure Sep (B:Nat)(W:World)(l:List Ob):Prop where
 ins:∀o∈l,o.In W
 dis:l.Pairwise fun o p=>∀k,o.S k→¬p.S k
 ge:∀o∈l,∀k,o.S k→B≤k
theorem Sep.gr {B:Nat}{W W':World}{l:List Ob}(h:Sep B W l)(hb:Below W.heap.size W W'):Sep B W' l:=
 ⟨fun o ho=>o.keep W W' (fun _=>False) (h.ins o ho) (Kp.of_below hb) (fun _ _ q=>q),h.dis,h.ge⟩
theorem Sep.add {B:Nat}{W W':World}{l:List Ob}(h:Sep B W l)(o:Ob)(hi:o.In W')(hn:∀k,o.S k→W.heap.size≤k)(hb:Below W.heap.size W W')(hB:B≤W.heap.size):Sep B W' (o::l):=by
 have h':=h.gr hb;refine⟨fun p hp=>?_,List.pairwise_cons.2 ⟨fun p hp k q r=>?_,h.dis⟩,fun p hp k q=>?_⟩
 ·rcases List.mem_cons.1 hp with rfl|r
  ·exact hi
  ·exact h'.ins p r
 ·have:=hn k q;have:=p.lt W (h.ins p hp) k r;omega
 ·rcases List.mem_cons.1 hp with rfl|r
  ·have:=hn k q;omega
  ·exact h.ge p r k q
end T
namespace C
open Go.RowKit
open T (Sep Ob Kp Mf TgIn boxOb)
structure Hz (p:Prop):Prop where
 out:p
theorem ζ {p:Prop}(h:p):Hz p:=⟨h⟩
structure IvIn (w:World)(v:Value)(L:List Int):Prop where
 go:∃a cap,v=.slice a L.length cap∧L.length≤cap∧(L.length=0∨∃b off,a=some ⟨b,off,none⟩∧∀i (h:i<L.length),w.cell? ⟨b,off+i,none⟩=some (.int .u64 L[i]))
 lt:∀k,v.ownBlock=some k→k<w.heap.size
 rm:∃a cap,v=.slice a L.length cap∧((a=none∧cap=0)∨∃b off,a=some ⟨b,off,none⟩∧∀j,j<cap→(w.cell? ⟨b,off+j,none⟩).isSome=true∧w.frozen? ⟨b,off+j,none⟩=false)
theorem IvIn.keep {S1:Nat→Prop}{w w':World}{v:Value}{L:List Int}(h:IvIn w v L)(hk:Kp S1 w w')(hd:∀k,v.ownBlock=some k→¬S1 k):IvIn w' v L:=by
 refine⟨?_,fun k q=>Nat.lt_of_lt_of_le (h.lt k q) hk.size,?_⟩
 ·obtain⟨a,cap,e1,e2,e3⟩:=h.go;refine⟨a,cap,e1,e2,?_⟩;rcases e3 with e3|⟨b,off,rfl,e3⟩
  ·exact .inl e3
  ·have hb:w'.heap[b]?=w.heap[b]?:=hk.block b (h.lt b (by rw[e1];rfl)) (hd b (by rw[e1];rfl));exact .inr ⟨b,off,rfl,fun i hi=>(T.cell_of_block hb _).trans (e3 i hi)⟩
 ·obtain⟨a,cap,e1,e2⟩:=h.rm;refine⟨a,cap,e1,?_⟩;rcases e2 with e2|⟨b,off,rfl,e2⟩
  ·exact .inl e2
  ·have hb:w'.heap[b]?=w.heap[b]?:=hk.block b (h.lt b (by rw[e1];rfl)) (hd b (by rw[e1];rfl));refine .inr ⟨b,off,rfl,fun i hi=>?_⟩;rw[T.cell_of_block hb,show w'.frozen? ⟨b,off+i,none⟩=w.frozen? ⟨b,off+i,none⟩by simp only[World.frozen?,hb]];exact e2 i hi
theorem own_keep {S1:Nat→Prop}{w w':World}{lo e s n:Nat}{v:Value}{xs:List Value}(h:w.ownsRow lo e s v n xs)(hk:Kp S1 w w')(hd:∀k,v.ownBlock=some k→¬S1 k):w'.ownsRow lo e s v n xs:=by
 have hl:=h.lt;refine⟨h.1,?_⟩;rcases h.2 with q|⟨g,cap,cur,rfl,hb,hg,r⟩
 ·exact .inl q
 ·exact .inr ⟨g,cap,cur,rfl,hb,(hk.block g (hl g rfl).2 (hd g rfl)).trans hg,r⟩
def rowOb (B e size:Nat)(v:Value)(n:Nat)(xs:List Value):Ob:=⟨fun k=>v.ownBlock=some k,fun w=>w.ownsRow B e size v n xs,fun _ h k q=>(h.lt k q).2,fun _ _ _ h hk hd=>own_keep h hk hd⟩
def inOb (v:Value)(L:List Int):Ob:=⟨fun k=>v.ownBlock=some k,fun w=>IvIn w v L,fun _ h=>h.lt,fun _ _ _ h hk hd=>h.keep hk hd⟩
theorem sep_change {B:Nat}{W W':World}{l1 l2:List Ob}{o o':Ob}(h:Sep B W (l1++o::l2))(hi:o'.In W')(hk:Kp o.S W W')(hn:∀k,o'.S k→o.S k∨W.heap.size≤k)(hB:B≤W.heap.size):Sep B W' (l1++o'::l2):=by
 have hd:=h.dis;rw[List.pairwise_append]at hd;obtain⟨q1,q2,q3⟩:=hd;rw[List.pairwise_cons]at q2;have n1:∀p∈l1,∀k,p.S k→¬o.S k:=fun p hp k=>q3 p hp o (by simp) k
 have n2:∀p∈l2,∀k,p.S k→¬o.S k:=fun p hp k r s=>q2.1 p hp k s r
 have lt1:∀p∈l1,∀k,p.S k→k<W.heap.size:=fun p hp=>p.lt W (h.ins p (by simp[hp]))
 have lt2:∀p∈l2,∀k,p.S k→k<W.heap.size:=fun p hp=>p.lt W (h.ins p (by simp[hp]))
 have m1:∀p∈l1,∀k,p.S k→¬o'.S k:=fun p hp k r s=>by
  rcases hn k s with t|t
  ·exact n1 p hp k r t
  ·have:=lt1 p hp k r;omega
 have m2:∀p∈l2,∀k,o'.S k→¬p.S k:=fun p hp k s r=>by
  rcases hn k s with t|t
  ·exact n2 p hp k r t
  ·have:=lt2 p hp k r;omega
 refine⟨fun p hp=>?_,?_,fun p hp k q=>?_⟩
 ·rcases List.mem_append.1 hp with r|r
  ·exact p.keep W W' o.S (h.ins p (by simp[r])) hk (n1 p r)
  ·rcases List.mem_cons.1 r with rfl|r
   ·exact hi
   ·exact p.keep W W' o.S (h.ins p (by simp[r])) hk (n2 p r)
 ·rw[List.pairwise_append];refine⟨q1,List.pairwise_cons.2 ⟨fun p hp k=>m2 p hp k,q2.2⟩,fun p hp r hr k=>?_⟩;rcases List.mem_cons.1 hr with rfl|hr
  ·exact m1 p hp k
  ·exact q3 p hp r (by simp[hr]) k
 ·rcases List.mem_append.1 hp with r|r
  ·exact h.ge p (by simp[r]) k q
  ·rcases List.mem_cons.1 r with rfl|r
   ·rcases hn k q with t|t
    ·exact h.ge o (by simp) k t
    ·omega
   ·exact h.ge p (by simp[r]) k q
theorem sep_below {B:Nat}{W W':World}{l1 l2:List Ob}{o:Ob}(h:Sep B W (l1++o::l2))(hk:Kp o.S W W')(hB:B≤W.heap.size):Below B W W':=hk.below hB (h.ge o (by simp))
theorem sep_perm {B:Nat}{W:World}{l l':List Ob}(h:Sep B W l)(p:l.Perm l'):Sep B W l':=
 ⟨fun o ho=>h.ins o (p.mem_iff.2 ho),(List.Perm.pairwise_iff (fun q k hb ha=>q k ha hb) p).1 h.dis,fun o ho=>h.ge o (p.mem_iff.2 ho)⟩
theorem sep_tail {B:Nat}{W:World}{o:Ob}{l:List Ob}(h:Sep B W (o::l)):Sep B W l:=
 ⟨fun p hp=>h.ins p (List.mem_cons_of_mem _ hp),(List.pairwise_cons.1 h.dis).2,fun p hp=>h.ge p (List.mem_cons_of_mem _ hp)⟩
def snapOb (B:Nat)(V:World):Ob:=⟨fun k=>B≤k∧k<V.heap.size,fun X=>V.heap.size≤X.heap.size∧∀k,B≤k→k<V.heap.size→X.heap[k]?=V.heap[k]?,fun _ h _ q=>Nat.lt_of_lt_of_le q.2 h.1,fun _ _ _ h hk hd=>⟨Nat.le_trans h.1 hk.size,fun k h1 h2=>(hk.block k (Nat.lt_of_lt_of_le h2 h.1) (hd k ⟨h1,h2⟩)).trans (h.2 k h1 h2)⟩⟩
theorem snap_sep (B:Nat)(V:World):Sep B V [snapOb B V]:=by
 refine⟨fun o ho=>?_,List.pairwise_cons.2 ⟨fun p hp=>(by cases hp),List.Pairwise.nil⟩,fun o ho k q=>?_⟩
 ·rw[List.mem_singleton.1 ho];exact⟨Nat.le_refl _,fun _ _ _=>rfl⟩
 ·rw[List.mem_singleton.1 ho]at q;exact q.1
end C
open Go.RowKit
theorem one_at {w:World}{k:Nat}{cs:Array Value}{t:TypeId}(h:w.heap[k]?=some (.cells cs t (0,0))):At w k cs:=by
 refine⟨(Array.getElem?_eq_some_iff.1 h).1,fun o=>?_,fun o=>?_⟩
 ·simp only[World.cell?];rw[h];simp
 ·simp only[World.frozen?];rw[h];simp
theorem own_ne {w:World}{base e size n k:Nat}{v:Value}{xs:List Value}{cs:Array Value}{t:TypeId}(h:w.ownsRow base e size v n xs)(hb:w.heap[k]?=some (.cells cs t (0,0)))(ht:t≠e):v.ownBlock≠some k:=by
 intro he;rcases h.2 with⟨rfl,_⟩|⟨g,cap,cur,rfl,hbg,hg,_⟩
 ·cases he
 ·obtain rfl:g=k:=by simpa [Value.ownBlock]using he
  rw[hb]at hg;simp at hg;exact ht hg.2
def Box (w:World)(k:Nat)(cs:Array Value)(t:TypeId):Prop:=w.heap[k]?=some (.cells cs t (0,0))
theorem Box.new (w:World)(cs:Array Value)(t:TypeId):Box (w.alloc (.cells cs t)) w.heap.size cs t:=(MapKept.heap_alloc w _).1
theorem Box.lt {w:World}{k:Nat}{cs:Array Value}{t:TypeId}(h:Box w k cs t):k<w.heap.size:=(Array.getElem?_eq_some_iff.1 h).1
theorem Box.below {w w1:World}{k B:Nat}{cs:Array Value}{t:TypeId}(h:Box w k cs t)(hb:Below B w w1)(hk:k<B):Box w1 k cs t:=(hb.block k hk).trans h
theorem Box.gr {w w1:World}{k:Nat}{cs:Array Value}{t:TypeId}(h:Box w k cs t)(hb:Gr w w1):Box w1 k cs t:=h.below hb.below h.lt
theorem Box.alloc {w:World}{k:Nat}{cs:Array Value}{t:TypeId}(h:Box w k cs t)(o:Obj):Box (w.alloc o) k cs t:=h.gr ((Gr.refl w).alloc o)
theorem Box.at {w:World}{k:Nat}{cs:Array Value}{t:TypeId}(h:Box w k cs t):At w k cs:=one_at h
theorem Gr.drewN {w W:World}(h:Gr w W)(n:Nat):Gr w (W.drewN n):=by
 induction n with
 |zero=>exact h
 |succ n ih=>exact ih.drew
end Go.Proofs.YtkhbiaaangnkdaaGreatDoor
