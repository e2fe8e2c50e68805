import Derived.Test.YtdidjhillmgccaaGreatP11
import Derived.Deep.AppendLies
namespace Go.Proofs.YtdidjhillmgccaaGreat
namespace Z
open Go.RowKit
open T (Sep Ob Kp Mf FlIn)
structure Tc where
 s:Bool
 a:Int
 n:Int
def Tc.vals (t:Tc):List Value:=[.bool t.s,.int .u64 t.a,.int .u64 t.n]
structure Fr where
 g:Nat
 p:Nat
 r:Nat→Int
def regs (r:Nat→Int):List Value:=(List.range 16).map fun k=>Value.int .u64 (r k)
def Fr.vals (f:Fr):List Value:=.int .i64 f.g::.int .i64 f.p::regs f.r
structure Fg where
 e:Nat
 a:Nat
 s:Nat
 r:Nat→Int
def Fg.vals (g:Fg):List Value:=.int .i64 g.e::.int .i64 g.a::.int .i64 g.s::regs g.r
theorem regs_len (r:Nat→Int):(regs r).length=16:=by simp[regs]
theorem regs_at (r:Nat→Int)(i:Nat)(h:i<16):(regs r)[i]?=some (.int .u64 (r i)):=by simp[regs,h]
theorem regs_one (r:Nat→Int):∀u∈regs r,u.oneCell'=true:=fun u hu=>by
 obtain⟨k,_,rfl⟩:=List.mem_map.1 hu
 rfl
structure Pr where
 code:List (List Fi)
 gates:List Fg
 dep:Int
structure Fm where
 g:Nat
 p:Nat
 r:Nat→Int
 st:List Fr
 inp:List Int
 out:List Int
 tc:List Tc
 e:Int
 v:Int
 f:Int
 m:Nat→UInt8
structure Pt where
 cv:Value
 gv:Value
 mp:Nat
 sv:Value
 iv:Value
 ov_:Value
 tv:Value
 F:Nat→Prop
 SP:Nat→Prop
def bxOf (P:Pr)(s:Fm)(q:Pt):Fx:=⟨q.cv,q.gv,P.dep,q.mp,s.g,s.p,s.r,q.sv,q.iv,q.ov_,q.tv,s.e,s.v,s.f⟩
def u64I (n:Int):Value:=.int .u64 n
def methF (op:Int):Nat:=if op=0 then 98 else if op=1 then 85 else if op=2 then 86 else if op=3 then 87 else if op=4 then 88 else if op=5 then 89 else if op=6 then 90 else if op=7 then 91 else if op=8 then 92 else if op=9 then 93 else if op=10 then 94 else if op=11 then 95 else if op=12 then 96 else if op=13 then 97 else if op=20 then 99 else if op=21 then 100 else if op=22 then 101 else if op=23 then 102 else if op=24 then 103 else if op=27 then 104 else if op=28 then 105 else if op=29 then 106 else if op=30 then 107 else if op=31 then 108 else if op=32 then 109 else if op=60 then 110 else if op=61 then 111 else if op=62 then 112 else if op=63 then 113 else if op=64 then 114 else if op=65 then 115 else if op=70 then 116 else if op=71 then 117 else if op=72 then 118 else 0
def methV (i:Fi):Value:=.func (Fn.func (methF i.op)) #[.agg #[.int .u8 i.op,.int .i64 i.a,.int .i64 i.b,.int .i64 i.c,.int .u64 i.i]] #[]
structure PgIn (S:Nat→Prop)(w:World)(cv gv:Value)(P:Pr):Prop where
 lt:∀k,S k→k<w.heap.size
 code:∀k (h:k<P.code.length),∃g gk c ck,cv=.slice (some ⟨g,0,none⟩) P.code.length c∧S g∧w.cell? ⟨g,k,none⟩=some (.slice (some ⟨gk,0,none⟩) P.code[k].length ck)∧S gk∧∀j (hj:j<P.code[k].length),w.cell? ⟨gk,j,none⟩=some (methV P.code[k][j])
 gate:∀k (h:k<P.gates.length),∃g c,gv=.slice (some ⟨g,0,none⟩) P.gates.length c∧S g∧w.rangeAt g (k*19) P.gates[k].vals
theorem PgIn.keep {S S1:Nat→Prop}{w w':World}{cv gv:Value}{P:Pr}(h:PgIn S w cv gv P)(hk:Kp S1 w w')(hd:∀k,S k→¬S1 k):PgIn S w' cv gv P:=by
 have hb:∀k,S k→w'.heap[k]?=w.heap[k]?:=fun k q=>hk.block k (h.lt k q) (hd k q)
 refine⟨fun k q=>Nat.lt_of_lt_of_le (h.lt k q) hk.size,fun k q=>?_,fun k q=>?_⟩
 ·obtain⟨g,gk,c,ck,e1,e2,e3,e4,e5⟩:=h.code k q;exact⟨g,gk,c,ck,e1,e2,(T.cell_of_block (hb g e2) k).trans e3,e4,fun j hj=>(T.cell_of_block (hb gk e4) j).trans (e5 j hj)⟩
 ·obtain⟨g,c,e1,e2,e3⟩:=h.gate k q;exact⟨g,c,e1,e2,fun j v e=>(T.cell_of_block (hb g e2) _).trans (e3 j v e)⟩
structure IvIn (w:World)(v:Value)(L:List Int):Prop where
 go:∃a cap,v=.slice a L.length cap∧L.length≤cap∧(L.length=0∨∃b off,a=some ⟨b,off,none⟩∧∀i (h:i<L.length),w.cell? ⟨b,off+i,none⟩=some (.int .u64 L[i]))
 lt:∀k,v.ownBlock=some k→k<w.heap.size
 rm:∃a cap,v=.slice a L.length cap∧((a=none∧cap=0)∨∃b off,a=some ⟨b,off,none⟩∧∀j,j<cap→(w.cell? ⟨b,off+j,none⟩).isSome=true∧w.frozen? ⟨b,off+j,none⟩=false)
theorem IvIn.keep {S1:Nat→Prop}{w w':World}{v:Value}{L:List Int}(h:IvIn w v L)(hk:Kp S1 w w')(hd:∀k,v.ownBlock=some k→¬S1 k):IvIn w' v L:=by
 refine⟨?_,fun k q=>Nat.lt_of_lt_of_le (h.lt k q) hk.size,?_⟩
 ·obtain⟨a,cap,e1,e2,e3⟩:=h.go;refine⟨a,cap,e1,e2,?_⟩;rcases e3 with e3|⟨b,off,rfl,e3⟩
  ·exact .inl e3
  ·have hb:w'.heap[b]?=w.heap[b]?:=hk.block b (h.lt b (by rw[e1];rfl)) (hd b (by rw[e1];rfl));exact .inr ⟨b,off,rfl,fun i hi=>(T.cell_of_block hb _).trans (e3 i hi)⟩
 ·obtain⟨a,cap,e1,e2⟩:=h.rm;refine⟨a,cap,e1,?_⟩;rcases e2 with e2|⟨b,off,rfl,e2⟩
  ·exact .inl e2
  ·have hb:w'.heap[b]?=w.heap[b]?:=hk.block b (h.lt b (by rw[e1];rfl)) (hd b (by rw[e1];rfl));refine .inr ⟨b,off,rfl,fun i hi=>?_⟩;rw[T.cell_of_block hb,show w'.frozen? ⟨b,off+i,none⟩=w.frozen? ⟨b,off+i,none⟩by simp only[World.frozen?,hb]];exact e2 i hi
theorem own_keep {S1:Nat→Prop}{w w':World}{lo e s n:Nat}{v:Value}{xs:List Value}(h:w.ownsRow lo e s v n xs)(hk:Kp S1 w w')(hd:∀k,v.ownBlock=some k→¬S1 k):w'.ownsRow lo e s v n xs:=by
 have hl:=h.lt;refine⟨h.1,?_⟩;rcases h.2 with q|⟨g,cap,cur,rfl,hb,hg,r⟩
 ·exact .inl q
 ·exact .inr ⟨g,cap,cur,rfl,hb,(hk.block g (hl g rfl).2 (hd g rfl)).trans hg,r⟩
def flOb (S:Nat→Prop)(a:Nat)(b:Nat→UInt8):Ob:=⟨S,fun w=>FlIn S w a b,fun _ h=>h.lt,fun _ _ _ h hk hd=>h.keep hk hd⟩
def rowOb (B e size:Nat)(v:Value)(n:Nat)(xs:List Value):Ob:=⟨fun k=>v.ownBlock=some k,fun w=>w.ownsRow B e size v n xs,fun _ h k q=>(h.lt k q).2,fun _ _ _ h hk hd=>own_keep h hk hd⟩
def inOb (v:Value)(L:List Int):Ob:=⟨fun k=>v.ownBlock=some k,fun w=>IvIn w v L,fun _ h=>h.lt,fun _ _ _ h hk hd=>h.keep hk hd⟩
def pgOb (S:Nat→Prop)(cv gv:Value)(P:Pr):Ob:=⟨S,fun w=>PgIn S w cv gv P,fun _ h=>h.lt,fun _ _ _ h hk hd=>h.keep hk hd⟩
def stOb (B:Nat)(v:Value)(L:List Fr):Ob:=rowOb B 81 18 v L.length (L.flatMap Fr.vals)
def ouOb (B:Nat)(v:Value)(L:List Int):Ob:=rowOb B 51 1 v L.length (L.map u64I)
def tcOb (B:Nat)(v:Value)(L:List Tc):Ob:=rowOb B 67 3 v L.length (L.flatMap Tc.vals)
theorem sep_change {B:Nat}{W W':World}{l1 l2:List Ob}{o o':Ob}(h:Sep B W (l1++o::l2))(hi:o'.In W')(hk:Kp o.S W W')(hn:∀k,o'.S k→o.S k∨W.heap.size≤k)(hB:B≤W.heap.size):Sep B W' (l1++o'::l2):=by
 have hd:=h.dis;rw[List.pairwise_append]at hd;obtain⟨q1,q2,q3⟩:=hd;rw[List.pairwise_cons]at q2;have n1:∀p∈l1,∀k,p.S k→¬o.S k:=fun p hp k=>q3 p hp o (by simp) k
 have n2:∀p∈l2,∀k,p.S k→¬o.S k:=fun p hp k r s=>q2.1 p hp k s r
 have lt1:∀p∈l1,∀k,p.S k→k<W.heap.size:=fun p hp=>p.lt W (h.ins p (by simp[hp]))
 have lt2:∀p∈l2,∀k,p.S k→k<W.heap.size:=fun p hp=>p.lt W (h.ins p (by simp[hp]))
 have m1:∀p∈l1,∀k,p.S k→¬o'.S k:=fun p hp k r s=>by
  rcases hn k s with t|t
  ·exact n1 p hp k r t
  ·have:=lt1 p hp k r;omega
 have m2:∀p∈l2,∀k,o'.S k→¬p.S k:=fun p hp k s r=>by
  rcases hn k s with t|t
  ·exact n2 p hp k r t
  ·have:=lt2 p hp k r;omega
 refine⟨fun p hp=>?_,?_,fun p hp k q=>?_⟩
 ·rcases List.mem_append.1 hp with r|r
  ·exact p.keep W W' o.S (h.ins p (by simp[r])) hk (n1 p r)
  ·rcases List.mem_cons.1 r with rfl|r
   ·exact hi
   ·exact p.keep W W' o.S (h.ins p (by simp[r])) hk (n2 p r)
 ·rw[List.pairwise_append];refine⟨q1,List.pairwise_cons.2 ⟨fun p hp k=>m2 p hp k,q2.2⟩,fun p hp r hr k=>?_⟩;rcases List.mem_cons.1 hr with rfl|hr
  ·exact m1 p hp k
  ·exact q3 p hp r (by simp[hr]) k
 ·rcases List.mem_append.1 hp with r|r
  ·exact h.ge p (by simp[r]) k q
  ·rcases List.mem_cons.1 r with rfl|r
   ·rcases hn k q with t|t
    ·exact h.ge o (by simp) k t
    ·omega
   ·exact h.ge p (by simp[r]) k q
theorem sep_below {B:Nat}{W W':World}{l1 l2:List Ob}{o:Ob}(h:Sep B W (l1++o::l2))(hk:Kp o.S W W')(hB:B≤W.heap.size):Below B W W':=hk.below hB (h.ge o (by simp))
def obs (B a:Nat)(P:Pr)(s:Fm)(q:Pt):List Ob:=[bxOb a (bxOf P s q),flOb q.F q.mp s.m,stOb B q.sv s.st,inOb q.iv s.inp,ouOb B q.ov_ s.out,tcOb B q.tv s.tc,pgOb q.SP q.cv q.gv P]
structure MIn (B:Nat)(W:World)(a:Nat)(P:Pr)(s:Fm)(l:List Ob):Prop where
 go:∃q,Sep B W (obs B a P s q++l)
 le:B≤W.heap.size
section
variable {B:Nat} {W W':World} {a:Nat} {P:Pr} {s s':Fm} {l:List Ob}
theorem MIn.gr (h:MIn B W a P s l)(hb:Below W.heap.size W W'):MIn B W' a P s l:=by
 obtain⟨⟨q,h1⟩,le⟩:=h;exact⟨⟨q,h1.gr hb⟩,Nat.le_trans le hb.size⟩
theorem MIn.gro (h:MIn B W a P s l)(hb:Gr W W'):MIn B W' a P s l:=h.gr hb.below
theorem MIn.bx (h:MIn B W a P s l):∃q,Bx W a (bxOf P s q):=by
 obtain⟨⟨q,h1⟩,le⟩:=h;exact⟨q,h1.ins (bxOb a (bxOf P s q)) (by simp[obs])⟩
theorem MIn.there (h:MIn B W a P s l)(o:Ob)(ho:o∈l):o.In W:=by
 obtain⟨⟨q,h1⟩,le⟩:=h;exact h1.ins o (by simp[ho])
theorem MIn.box (h:MIn B W a P s l)(hs:s'.m=s.m∧s'.st=s.st∧s'.inp=s.inp∧s'.out=s.out∧s'.tc=s.tc)(hb:∀q,Bx W a (bxOf P s q)→Bx W' a (bxOf P s' q))(hk:Kp (fun k=>k=a) W W'):MIn B W' a P s' l∧Below B W W':=by
 obtain⟨⟨q,h1⟩,le⟩:=h;obtain⟨e1,e2,e3,e4,e5⟩:=hs;have hB:=h1.ins (bxOb a (bxOf P s q)) (by simp[obs]);have h2:=sep_change (l1:=[]) (o:=bxOb a (bxOf P s q)) (o':=bxOb a (bxOf P s' q)) h1 (hb q hB) hk (fun _ r=>.inl r) le;refine⟨⟨⟨q,?_⟩,Nat.le_trans le hk.size⟩,sep_below (l1:=[]) (o:=bxOb a (bxOf P s q)) h1 hk le⟩;unfold obs;rw[e1,e2,e3,e4,e5];exact h2
theorem MIn.onBox (h:MIn B W a P s l)(hs:s'.m=s.m∧s'.st=s.st∧s'.inp=s.inp∧s'.out=s.out∧s'.tc=s.tc){f:Nat}{args:Array Value}{r:Ending}(hc:∀q,Bx W a (bxOf P s q)→Calls Tryz.prog f args W fun x w'=>x=r∧Bo1 a (bxOf P s' q) W w'):
 Calls Tryz.prog f args W fun x w'=>x=r∧MIn B w' a P s' l∧Below B W w':=by
 have h0:=h;obtain⟨⟨q,h1⟩,le⟩:=h;obtain⟨e1,e2,e3,e4,e5⟩:=hs;refine(hc q (h1.ins (bxOb a (bxOf P s q)) (by simp[obs]))).mono ?_;rintro x w' ⟨rfl,hB,hk⟩;have h2:=sep_change (l1:=[]) (o:=bxOb a (bxOf P s q)) (o':=bxOb a (bxOf P s' q)) h1 hB hk (fun _ r=>.inl r) le;refine⟨rfl,⟨⟨q,?_⟩,Nat.le_trans le hk.size⟩,sep_below (l1:=[]) (o:=bxOb a (bxOf P s q)) h1 hk le⟩;unfold obs;rw[e1,e2,e3,e4,e5];exact h2
end
end Z
end Go.Proofs.YtdidjhillmgccaaGreat
