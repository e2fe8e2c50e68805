import Derived.Test.YtkhbiaaangnkdaaGreatDoorJ30
import Derived.Test.YtkhbiaaangnkdaaGreatDoorJ26
import Derived.Test.YtkhbiaaangnkdaaGreatDoorJ11
import Derived.Test.YtkhbiaaangnkdaaGreatDoorJ23
import Derived.Test.YtkhbiaaangnkdaaGreatDoorJTBase
import Derived.Recover
import Derived.Defers
namespace Go.Proofs.YtkhbiaaangnkdaaGreatDoor
open Go.RowKit
theorem own_lin {w:World}{base c:Nat}{a:Option Addr}{L:List Ins}(h:LOwn w base (.slice a L.length c) L):LIn w.heap.size w a L:=fun i hi=>by
 obtain⟨g,rfl,_,hg⟩:=own_at h (by omega);have q:=fun j (hj:j<5)=>flat_get L i j hi hj
 refine⟨g,0,rfl,hg,hg,?_⟩;have e0:=q 0 (by omega);have e1:=q 1 (by omega);have e2:=q 2 (by omega);have e3:=q 3 (by omega);have e4:=q 4 (by omega);have r:∀j v,(flat L)[i*5+j]?=some v→w.cell? ⟨g,0+i*5+j,none⟩=some v:=fun j v hv=>by
  rw[Nat.zero_add];exact own_cell h rfl _ _ hv
 exact⟨r 0 _ e0,r 1 _ e1,r 2 _ e2,r 3 _ e3,r 4 _ e4⟩
theorem ImgOwn.into {lo:Nat}{w:World}{m:PImg}{ra ca ga:Option Addr}{rc cc gc:Nat}(h:ImgOwn lo w (.slice ra m.regs.length rc) (.slice ca m.comps.length cc) (.slice ga m.gates.length gc) m):ImgIn w.heap.size w ra ca ga m:=by
 obtain⟨⟨a,a1,a2⟩,⟨b,b1,b2⟩,⟨c,c1,c2⟩⟩:=h;refine⟨fun i hi=>?_,fun i hi=>?_,fun i hi=>?_⟩
 ·obtain⟨g,rfl,_,hg⟩:=own_at a1 (by omega);obtain⟨cs,e,sa,sc,rfl,hs⟩:=a2.get i hi;have hl:∀cs∈a,cs.length=4:=fun cs hc=>by
   obtain⟨k,hk,rfl⟩:=List.mem_iff_getElem.1 hc;obtain⟨cs',e',sa,sc,rfl,_⟩:=a2.get k (by rw[←a2.len];exact hk);rw[List.getElem?_eq_getElem hk]at e';rw[Option.some.inj e']
   rfl
  have r:∀j v,j<4→[Value.int .u64 m.regs[i].b,.int .u64 m.regs[i].n,.string (str m.regs[i].data),.slice sa m.regs[i].slots.length sc][j]?=some v→w.cell? ⟨g,0+i*4+j,none⟩=some v:=fun j v hj hv=>by
   rw[Nat.zero_add];exact own_cell a1 rfl _ _ ((flatten_get hl i j _ e hj).trans hv)
  exact⟨g,0,sa,sc,rfl,hg,hg,r 0 _ (by omega) rfl,r 1 _ (by omega) rfl,r 2 _ (by omega) rfl,r 3 _ (by omega) rfl,own_fin slot_len hs⟩
 ·obtain⟨g,rfl,_,hg⟩:=own_at b1 (by omega);obtain⟨cs,e,ra',rc',ka,kc,rfl,hs,hs2⟩:=b2.get i hi;have hl:∀cs∈b,cs.length=2:=fun cs hc=>by
   obtain⟨k,hk,rfl⟩:=List.mem_iff_getElem.1 hc;obtain⟨cs',e',_,_,_,_,rfl,_,_⟩:=b2.get k (by rw[←b2.len];exact hk);rw[List.getElem?_eq_getElem hk]at e';rw[Option.some.inj e']
   rfl
  have r:∀j v,j<2→[Value.slice ra' m.comps[i].roots.length rc',.slice ka m.comps[i].code.length kc][j]?=some v→w.cell? ⟨g,0+i*2+j,none⟩=some v:=fun j v hj hv=>by
   rw[Nat.zero_add];exact own_cell b1 rfl _ _ ((flatten_get hl i j _ e hj).trans hv)
  exact⟨g,0,ra',rc',ka,kc,rfl,hg,hg,r 0 _ (by omega) rfl,r 1 _ (by omega) rfl,own_fin root_len hs,own_lin hs2⟩
 ·obtain⟨g,rfl,_,hg⟩:=own_at c1 (by omega);obtain⟨cs,e,xa,xc,ya,yc,rfl,hs,hs2⟩:=c2.get i hi;have hl:∀cs∈c,cs.length=4:=fun cs hc=>by
   obtain⟨k,hk,rfl⟩:=List.mem_iff_getElem.1 hc;obtain⟨cs',e',_,_,_,_,rfl,_,_⟩:=c2.get k (by rw[←c2.len];exact hk);rw[List.getElem?_eq_getElem hk]at e';rw[Option.some.inj e']
   rfl
  have r:∀j v,j<4→[Value.int .i64 m.gates[i].c,.int .i64 m.gates[i].e,.slice xa m.gates[i].args.length xc,.slice ya m.gates[i].res.length yc][j]?=some v→w.cell? ⟨g,0+i*4+j,none⟩=some v:=fun j v hj hv=>by
   rw[Nat.zero_add];exact own_cell c1 rfl _ _ ((flatten_get hl i j _ e hj).trans hv)
  exact⟨g,0,xa,xc,ya,yc,rfl,hg,hg,r 0 _ (by omega) rfl,r 1 _ (by omega) rfl,r 2 _ (by omega) rfl,r 3 _ (by omega) rfl,own_fin typ_len hs,own_fin typ_len hs2⟩
namespace C
open T (Sep Ob Kp Mf TgIn boxOb Fm Tc Ed Vl Cp Bx tgOb mRow)
structure Ms where
 at_:Fm
 st:List Fm
 inp:List Int
 out:List Int
 tou:List Tc
 over:Ed
 b:Nat→UInt8
 t:Nat→Option Cp
structure Pt where
 ra:Option Addr
 rc:Nat
 ca:Option Addr
 cc:Nat
 ga:Option Addr
 gc:Nat
 km:Nat
 sv:Value
 iv:Value
 ov_:Value
 tv:Value
 SM:Nat→Prop
 lo:Nat
 W0:World
def u64I (n:Int):Value:=.int .u64 n
def rowOf (P:PImg)(s:Ms)(q:Pt):List Value:=mRow (.slice q.ra P.regs.length q.rc) (.slice q.ca P.comps.length q.cc) (.slice q.ga P.gates.length q.gc) P.depth q.km s.at_ q.sv q.iv q.ov_ q.tv s.over
def stOb (B:Nat)(v:Value)(L:List Fm):Ob:=rowOb B 78 114 v L.length (L.flatMap Fm.row)
def ouOb (B:Nat)(v:Value)(L:List Int):Ob:=rowOb B 25 1 v L.length (L.map u64I)
def tcOb (B:Nat)(v:Value)(L:List Tc):Ob:=rowOb B 260 3 v L.length (L.flatMap Tc.row)
def bx_ (a:Nat)(row:List Value):Ob:=⟨fun k=>k=a,fun w=>Bx w a row,fun _ h _ q=>q▸h.lt,fun _ _ _ h hk hd=>h.keep hk (hd _ rfl)⟩
def obs (B a:Nat)(P:PImg)(s:Ms)(q:Pt):List Ob:=[bx_ a (rowOf P s q),tgOb q.SM q.km s.b s.t,stOb B q.sv s.st,inOb q.iv s.inp,ouOb B q.ov_ s.out,tcOb B q.tv s.tou,snapOb q.lo q.W0]
def PgOk (P:PImg)(q:Pt):Prop:=ImgOwn q.lo q.W0 (.slice q.ra P.regs.length q.rc) (.slice q.ca P.comps.length q.cc) (.slice q.ga P.gates.length q.gc) P
structure MIn (B:Nat)(W:World)(a:Nat)(P:PImg)(s:Ms)(l:List Ob):Prop where
 go:∃q,Sep B W (obs B a P s q++l)∧PgOk P q
 le:B≤W.heap.size
theorem own_at' {W W':World}{lo e s n:Nat}{v:Value}{xs:List Value}(h:W.ownsRow lo e s v n xs)(hk:∀g,lo≤g→g<W.heap.size→W'.heap[g]?=W.heap[g]?):W'.ownsRow lo e s v n xs:=by
 have hl:=h.lt;refine⟨h.1,?_⟩;rcases h.2 with q|⟨g,cap,cur,rfl,hb,hg,r⟩
 ·exact .inl q
 ·exact .inr ⟨g,cap,cur,rfl,hb,(hk g hb (hl g rfl).2).trans hg,r⟩
theorem img_snap {lo:Nat}{W W':World}{rv cv gv:Value}{m:PImg}(h:ImgOwn lo W rv cv gv m)(hk:∀g,lo≤g→g<W.heap.size→W'.heap[g]?=W.heap[g]?):ImgOwn lo W' rv cv gv m:=by
 obtain⟨⟨a,a1,a2⟩,⟨b,b1,b2⟩,⟨c,c1,c2⟩⟩:=h;refine⟨⟨a,own_at' a1 hk,a2.imp fun _ _ q=>?_⟩,⟨b,own_at' b1 hk,b2.imp fun _ _ q=>?_⟩,⟨c,own_at' c1 hk,c2.imp fun _ _ q=>?_⟩⟩
 ·obtain⟨sa,sc,e,o⟩:=q;exact⟨sa,sc,e,own_at' o hk⟩
 ·obtain⟨r1,r2,r3,r4,e,o1,o2⟩:=q;exact⟨r1,r2,r3,r4,e,own_at' o1 hk,own_at' o2 hk⟩
 ·obtain⟨r1,r2,r3,r4,e,o1,o2⟩:=q;exact⟨r1,r2,r3,r4,e,own_at' o1 hk,own_at' o2 hk⟩
section
variable {B:Nat} {W W':World} {a:Nat} {P:PImg} {s s':Ms} {l:List Ob}
theorem MIn.gr (h:MIn B W a P s l)(hb:Below W.heap.size W W'):MIn B W' a P s l:=by
 obtain⟨⟨q,h1,h2⟩,le⟩:=h;exact⟨⟨q,h1.gr hb,h2⟩,Nat.le_trans le hb.size⟩
theorem MIn.parts (h:MIn B W a P s l):∃q:Pt,Bx W a (rowOf P s q)∧ImgIn W.heap.size W q.ra q.ca q.ga P∧TgIn q.SM W q.km s.b s.t∧PgOk P q:=by
 obtain⟨⟨q,h1,h2⟩,_⟩:=h;have hs:=h1.ins (snapOb q.lo q.W0) (by simp[obs]);exact⟨q,h1.ins (bx_ a (rowOf P s q)) (by simp[obs]),(img_snap h2 hs.2).into,h1.ins (tgOb q.SM q.km s.b s.t) (by simp[obs]),h2⟩
theorem MIn.alt (h:MIn B W a P s l):a<W.heap.size:=by
 obtain⟨q,hb,_⟩:=h.parts;exact hb.lt
theorem MIn.there (h:MIn B W a P s l)(o:Ob)(ho:o∈l):o.In W:=by
 obtain⟨⟨q,h1,_⟩,le⟩:=h;exact h1.ins o (by simp[ho])
theorem MIn.box (h:MIn B W a P s l)(hs:s'.b=s.b∧s'.t=s.t∧s'.st=s.st∧s'.inp=s.inp∧s'.out=s.out∧s'.tou=s.tou)(hb:∀q,Bx W a (rowOf P s q)→Bx W' a (rowOf P s' q))(hk:Kp (fun k=>k=a) W W'):MIn B W' a P s' l∧Below B W W':=by
 obtain⟨⟨q,h1,h2⟩,le⟩:=h;obtain⟨e1,e2,e3,e4,e5,e6⟩:=hs;have hB:=h1.ins (bx_ a (rowOf P s q)) (by simp[obs]);have h3:=sep_change (l1:=[]) (o:=bx_ a (rowOf P s q)) (o':=bx_ a (rowOf P s' q)) h1 (hb q hB) hk (fun _ r=>.inl r) le;refine⟨⟨⟨q,?_,h2⟩,Nat.le_trans le hk.size⟩,sep_below (l1:=[]) (o:=bx_ a (rowOf P s q)) h1 hk le⟩;unfold obs;rw[e1,e2,e3,e4,e5,e6];exact h3
theorem MIn.add (h:MIn B W a P s l)(o:Ob)(hi:o.In W')(hn:∀k,o.S k→W.heap.size≤k)(hb:Below W.heap.size W W'):MIn B W' a P s (o::l):=by
 obtain⟨⟨q,h1,h2⟩,le⟩:=h;exact⟨⟨q,sep_perm (h1.add o hi hn hb le) List.perm_middle.symm,h2⟩,Nat.le_trans le hb.size⟩
theorem MIn.drop {o:Ob}(h:MIn B W a P s (o::l)):MIn B W a P s l:=by
 obtain⟨⟨q,h1,h2⟩,le⟩:=h;exact⟨⟨q,sep_tail (sep_perm h1 List.perm_middle),h2⟩,le⟩
theorem MIn.new (h:MIn B W a P s l)(cs:Array Value)(t:TypeId):MIn B (W.alloc (.cells cs t)) a P s (boxOb W.heap.size cs::l)∧Below B W (W.alloc (.cells cs t)):=
 ⟨h.add (boxOb W.heap.size cs) (At.new W cs t) (fun k q=>by have:k=W.heap.size:=q;omega) ((Below.refl _ W).alloc (Nat.le_refl _) _),((Below.refl _ W).alloc (Nat.le_refl _) _).mono h.le⟩
theorem MIn.side {o o':Ob}(h:MIn B W a P s (o::l))(hi:o'.In W')(hk:Kp o.S W W')(hn:∀k,o'.S k→o.S k∨W.heap.size≤k):MIn B W' a P s (o'::l)∧Below B W W':=by
 obtain⟨⟨q,h1,h2⟩,le⟩:=h;exact⟨⟨⟨q,sep_change (l1:=obs B a P s q) (o:=o) (o':=o') (l2:=l) h1 hi hk hn le,h2⟩,Nat.le_trans le hk.size⟩,sep_below (l1:=obs B a P s q) (o:=o) (l2:=l) h1 hk le⟩
theorem MIn.mem (h:MIn B W a P s l):∃km SM,W.cell? ⟨a,4,none⟩=some (.pointer (some ⟨km,0,none⟩))∧TgIn SM W km s.b s.t∧∀W' b' t' SM',TgIn SM' W' km b' t'→Mf SM SM' W W'→MIn B W' a P {s with b:=b',t:=t'} l∧Below B W W':=by
 obtain⟨⟨q,h1,h2⟩,le⟩:=h;have hB:Bx W a (rowOf P s q):=h1.ins (bx_ a (rowOf P s q)) (by simp[obs]);refine⟨q.km,q.SM,hB.at_ 4 _ rfl,h1.ins (tgOb q.SM q.km s.b s.t) (by simp[obs]),fun W' b' t' SM' h3 hm=>?_⟩;have h4:=sep_change (l1:=[bx_ a (rowOf P s q)]) (o:=tgOb q.SM q.km s.b s.t) (o':=tgOb SM' q.km b' t') h1 h3 hm.kp hm.new le;exact⟨⟨⟨{q with SM:=SM'},h4,h2⟩,Nat.le_trans le hm.kp.size⟩,sep_below (l1:=[bx_ a (rowOf P s q)]) (o:=tgOb q.SM q.km s.b s.t) h1 hm.kp le⟩
end
end C
set_option maxRecDepth 100000
set_option maxHeartbeats 40000000
namespace T
def hasB (h p:Int):Bool:=bits .andNot .u8 p h==0
def holdsB (b e a n:Int):Bool:=decide (b≤a)&&decide (a≤e)&&decide (n≤IntKind.u64.wrap (e - a))
def rightB (b e p s:Int):Bool:=decide (b≤e)&&decide (e≤4294967296)&&hasB 127 p&&decide (0≤s)&&decide (s≤15)
def accessF (b e c p s off n q:Int):Int:=
 if s=0 then(if hasB p q then(if holdsB b e (IntKind.u64.wrap (c+off)) n then 0 else 5)else 4)else 3
def SetB (b e c p s n b' e' c' p' s' f:Int):Prop:=
 (s≠0∧b'=0∧e'=0∧c'=0∧p'=0∧s'=0∧f=3)∨
 (s=0∧holdsB b e c n=false∧b'=0∧e'=0∧c'=0∧p'=0∧s'=0∧f=5)∨
 (s=0∧holdsB b e c n=true∧b'=c∧e'=IntKind.u64.wrap (c+n)∧c'=c∧p'=p∧s'=s∧f=0)
def AndP (b e c p s q b' e' c' p' s' f:Int):Prop:=
 (s≠0∧b'=0∧e'=0∧c'=0∧p'=0∧s'=0∧f=3)∨
 (s=0∧b'=b∧e'=e∧c'=c∧p'=bits .and .u8 p q∧s'=s∧f=0)
def IncR (b e c p s n b' e' c' p' s' f:Int):Prop:=
 (s≠0∧b'=0∧e'=0∧c'=0∧p'=0∧s'=0∧f=3)∨
 (s=0∧b'=b∧e'=e∧c'=IntKind.u64.wrap (c+n)∧p'=p∧s'=s∧f=0)
def keyF (b e c p s q:Int):Int:=
 if s=0 then(if hasB p q then(if b≤c∧c<e then 0 else 5)else 4)else 3
def SealR (b e c p s kb ke kc kp ks b' e' c' p' s' f:Int):Prop:=
 (s≠0∧b'=0∧e'=0∧c'=0∧p'=0∧s'=0∧f=3)∨
 (s=0∧keyF kb ke kc kp ks 32≠0∧b'=0∧e'=0∧c'=0∧p'=0∧s'=0∧f=keyF kb ke kc kp ks 32)∨
 (s=0∧keyF kb ke kc kp ks 32=0∧(kc<1∨15<kc)∧b'=0∧e'=0∧c'=0∧p'=0∧s'=0∧f=6)∨
 (s=0∧keyF kb ke kc kp ks 32=0∧1≤kc∧kc≤15∧b'=b∧e'=e∧c'=c∧p'=p∧s'=kc∧f=0)
theorem holds_false {b e a n:Int}(h:¬(b≤a∧a≤e∧n≤IntKind.u64.wrap (e - a))):false=holdsB b e a n:=by
 symm;rw[Bool.eq_false_iff];intro hh
 simp only[holdsB,Bool.and_eq_true,decide_eq_true_eq]at hh;exact h ⟨hh.1.1,hh.1.2,hh.2⟩
theorem holds_last {b e a n:Int}(h1:b≤a)(h2:a≤e):decide (n≤IntKind.u64.wrap (e - a))=holdsB b e a n:=by simp[holdsB,h1,h2]
theorem right_false {b e p s:Int}(h:¬(b≤e∧e≤4294967296∧hasB 127 p=true∧0≤s∧s≤15)):false=rightB b e p s:=by
 symm;rw[Bool.eq_false_iff];intro hh
 simp only[rightB,Bool.and_eq_true,decide_eq_true_eq]at hh;exact h ⟨hh.1.1.1.1,hh.1.1.1.2,hh.1.1.2,hh.1.2,hh.2⟩
theorem right_last {b e p s:Int}(h1:b≤e)(h2:e≤4294967296)(h3:hasB 127 p=true)(h4:0≤s):decide (s≤15)=rightB b e p s:=by simp[rightB,h1,h2,h3,h4]
theorem ret_bool {a b:Bool}(h:a=b):Ending.returned (.bool a)=.returned (.bool b):=by rw[h]
theorem ret_int {k:IntKind}{a b:Int}(h:a=b):Ending.returned (.int k a)=.returned (.int k b):=by rw[h]
def UnsealR (b e c p s kb ke kc kp ks b' e' c' p' s' f:Int):Prop:=
 (s=0∧b'=0∧e'=0∧c'=0∧p'=0∧s'=0∧f=3)∨
 (s≠0∧keyF kb ke kc kp ks 64≠0∧b'=0∧e'=0∧c'=0∧p'=0∧s'=0∧f=keyF kb ke kc kp ks 64)∨
 (s≠0∧keyF kb ke kc kp ks 64=0∧(s<0∨kc≠s)∧b'=0∧e'=0∧c'=0∧p'=0∧s'=0∧f=6)∨
 (s≠0∧keyF kb ke kc kp ks 64=0∧0≤s∧kc=s∧b'=b∧e'=e∧c'=c∧p'=p∧s'=0∧f=0)
theorem hasAll_any (h p:Int)(w:World):
 Calls Tryz.prog 158 #[.int .u8 h,.int .u8 p] w fun x w'=>x=.returned (.bool (hasB h p))∧w=w':=by
 go_enter Tryz.func158,Tryz.ntmps158;go_wp2;go_ret;exact⟨rfl,rfl⟩
theorem open_any (b e c p s:Int)(w:World):
 Calls Tryz.prog 162 #[.agg #[.int .u64 b,.int .u64 e,.int .u64 c,.int .u8 p,.int .i64 s]] w fun x w'=>x=.returned (.bool (s==0))∧w.alloc (.cells #[.int .u64 b,.int .u64 e,.int .u64 c,.int .u8 p,.int .i64 s] 73)=w':=by
 go_enter Tryz.func162,Tryz.ntmps162;go_wp2;go_ret;exact⟨rfl,rfl⟩
theorem holds_any (b e c p s a n:Int)(w:World):
 Calls Tryz.prog 163 #[.agg #[.int .u64 b,.int .u64 e,.int .u64 c,.int .u8 p,.int .i64 s],.int .u64 a,.int .u64 n] w fun x w'=>x=.returned (.bool (holdsB b e a n))∧w.alloc (.cells #[.int .u64 b,.int .u64 e,.int .u64 c,.int .u8 p,.int .i64 s] 73)=w':=by
 go_enter Tryz.func163,Tryz.ntmps163;go_wp2
 all_goals
  go_ret;refine⟨ret_bool ?_,rfl⟩
  first|(refine holds_last ?_ ?_<;>assumption)|(refine holds_false ?_;omega)
theorem access_any (b e c p s off n q:Int)(w:World):
 Calls Tryz.prog 139 #[.agg #[.int .u64 b,.int .u64 e,.int .u64 c,.int .u8 p,.int .i64 s],.int .u64 off,.int .u64 n,.int .u8 q] w fun x w'=>x=.returned (.int .i64 (accessF b e c p s off n q))∧Below w.heap.size w w':=by
 go_enter Tryz.func139,Tryz.ntmps139;go_wp2_with(first|(go_at_call 162;refine(open_any _ _ _ _ _ _).mono ?_;rintro x w' ⟨rfl,rfl⟩)|(go_at_call 158;refine(hasAll_any _ _ _).mono ?_;rintro x w' ⟨rfl,rfl⟩)|(go_at_call 163;refine(holds_any _ _ _ _ _ _ _ _).mono ?_;rintro x w' ⟨rfl,rfl⟩))
 all_goals
  go_ret;refine⟨ret_int ?_,by repeat(first|exact Below.refl _ _|refine Below.alloc ?_ (by simp<;>omega) _)⟩
  simp_all [accessF]
theorem setBounds_any (b e c p s n:Int)(w:World):
 Calls Tryz.prog 143 #[.agg #[.int .u64 b,.int .u64 e,.int .u64 c,.int .u8 p,.int .i64 s],.int .u64 n] w fun x w'=>
  ∃b' e' c' p' s' f,x=.returned (.tuple #[.agg #[.int .u64 b',.int .u64 e',.int .u64 c',.int .u8 p',.int .i64 s'],.int .i64 f])∧SetB b e c p s n b' e' c' p' s' f∧Below w.heap.size w w':=by
 by_cases h0:s=0
 ·subst h0;by_cases hh:holdsB b e c n=true
  ·go_enter Tryz.func143,Tryz.ntmps143;go_wp2_with(first|(go_at_call 162;refine(open_any _ _ _ _ _ _).mono ?_;rintro x w' ⟨rfl,rfl⟩)|(go_at_call 163;refine(holds_any _ _ _ _ _ _ _ _).mono ?_;rintro x w' ⟨rfl,rfl⟩));refine bodyPost_ret (v:=.tuple #[.agg #[.int .u64 c,.int .u64 (IntKind.u64.wrap (c+n)),.int .u64 c,.int .u8 p,.int .i64 0],.int .i64 0]) (by simp[results,Tryz.results143,go_sem]) rfl ⟨_,_,_,_,_,_,rfl,.inr (.inr ⟨rfl,hh,rfl,rfl,rfl,rfl,rfl,rfl⟩),by repeat(first|exact Below.refl _ _|refine Below.alloc ?_ (by simp<;>omega) _)⟩
  ·have hh':holdsB b e c n=false:=by simpa using hh
   go_enter Tryz.func143,Tryz.ntmps143;go_wp2_with(first|(go_at_call 162;refine(open_any _ _ _ _ _ _).mono ?_;rintro x w' ⟨rfl,rfl⟩)|(go_at_call 163;refine(holds_any _ _ _ _ _ _ _ _).mono ?_;rintro x w' ⟨rfl,rfl⟩));refine bodyPost_ret (v:=.tuple #[.agg #[.int .u64 0,.int .u64 0,.int .u64 0,.int .u8 0,.int .i64 0],.int .i64 5]) (by simp[results,Tryz.results143,go_sem]) rfl ⟨_,_,_,_,_,_,rfl,.inr (.inl ⟨rfl,hh',rfl,rfl,rfl,rfl,rfl,rfl⟩),by repeat(first|exact Below.refl _ _|refine Below.alloc ?_ (by simp<;>omega) _)⟩
 ·have h0':(s==0)=false:=by simpa using h0
  go_enter Tryz.func143,Tryz.ntmps143;go_wp2_with(go_at_call 162;refine(open_any _ _ _ _ _ _).mono ?_;rintro x w' ⟨rfl,rfl⟩);refine bodyPost_ret (v:=.tuple #[.agg #[.int .u64 0,.int .u64 0,.int .u64 0,.int .u8 0,.int .i64 0],.int .i64 3]) (by simp[results,Tryz.results143,go_sem]) rfl ⟨_,_,_,_,_,_,rfl,.inl ⟨h0,rfl,rfl,rfl,rfl,rfl,rfl⟩,by repeat(first|exact Below.refl _ _|refine Below.alloc ?_ (by simp<;>omega) _)⟩
theorem andPerm_any (b e c p s q:Int)(w:World):
 Calls Tryz.prog 144 #[.agg #[.int .u64 b,.int .u64 e,.int .u64 c,.int .u8 p,.int .i64 s],.int .u8 q] w fun x w'=>
  ∃b' e' c' p' s' f,x=.returned (.tuple #[.agg #[.int .u64 b',.int .u64 e',.int .u64 c',.int .u8 p',.int .i64 s'],.int .i64 f])∧AndP b e c p s q b' e' c' p' s' f∧Below w.heap.size w w':=by
 by_cases h0:s=0
 ·subst h0;go_enter Tryz.func144,Tryz.ntmps144;go_wp2_with(go_at_call 162;refine(open_any _ _ _ _ _ _).mono ?_;rintro x w' ⟨rfl,rfl⟩);refine bodyPost_ret (v:=.tuple #[.agg #[.int .u64 b,.int .u64 e,.int .u64 c,.int .u8 (bits .and .u8 p q),.int .i64 0],.int .i64 0]) (by simp[results,Tryz.results144,go_sem]) rfl ⟨_,_,_,_,_,_,rfl,.inr ⟨rfl,rfl,rfl,rfl,rfl,rfl,rfl⟩,by repeat(first|exact Below.refl _ _|refine Below.alloc ?_ (by simp<;>omega) _)⟩
 ·have h0':(s==0)=false:=by simpa using h0
  go_enter Tryz.func144,Tryz.ntmps144;go_wp2_with(go_at_call 162;refine(open_any _ _ _ _ _ _).mono ?_;rintro x w' ⟨rfl,rfl⟩);refine bodyPost_ret (v:=.tuple #[.agg #[.int .u64 0,.int .u64 0,.int .u64 0,.int .u8 0,.int .i64 0],.int .i64 3]) (by simp[results,Tryz.results144,go_sem]) rfl ⟨_,_,_,_,_,_,rfl,.inl ⟨h0,rfl,rfl,rfl,rfl,rfl,rfl⟩,by repeat(first|exact Below.refl _ _|refine Below.alloc ?_ (by simp<;>omega) _)⟩
theorem inc_any (b e c p s n:Int)(w:World):
 Calls Tryz.prog 142 #[.agg #[.int .u64 b,.int .u64 e,.int .u64 c,.int .u8 p,.int .i64 s],.int .u64 n] w fun x w'=>
  ∃b' e' c' p' s' f,x=.returned (.tuple #[.agg #[.int .u64 b',.int .u64 e',.int .u64 c',.int .u8 p',.int .i64 s'],.int .i64 f])∧IncR b e c p s n b' e' c' p' s' f∧Below w.heap.size w w':=by
 by_cases h0:s=0
 ·subst h0;go_enter Tryz.func142,Tryz.ntmps142;go_wp2_with(go_at_call 162;refine(open_any _ _ _ _ _ _).mono ?_;rintro x w' ⟨rfl,rfl⟩);refine bodyPost_ret (v:=.tuple #[.agg #[.int .u64 b,.int .u64 e,.int .u64 (IntKind.u64.wrap (c+n)),.int .u8 p,.int .i64 0],.int .i64 0]) (by simp[results,Tryz.results142,go_sem]) rfl ⟨_,_,_,_,_,_,rfl,.inr ⟨rfl,rfl,rfl,rfl,rfl,rfl,rfl⟩,by repeat(first|exact Below.refl _ _|refine Below.alloc ?_ (by simp<;>omega) _)⟩
 ·have h0':(s==0)=false:=by simpa using h0
  go_enter Tryz.func142,Tryz.ntmps142;go_wp2_with(go_at_call 162;refine(open_any _ _ _ _ _ _).mono ?_;rintro x w' ⟨rfl,rfl⟩);refine bodyPost_ret (v:=.tuple #[.agg #[.int .u64 0,.int .u64 0,.int .u64 0,.int .u8 0,.int .i64 0],.int .i64 3]) (by simp[results,Tryz.results142,go_sem]) rfl ⟨_,_,_,_,_,_,rfl,.inl ⟨h0,rfl,rfl,rfl,rfl,rfl,rfl⟩,by repeat(first|exact Below.refl _ _|refine Below.alloc ?_ (by simp<;>omega) _)⟩
theorem asKey_any (b e c p s q:Int)(w:World):
 Calls Tryz.prog 165 #[.agg #[.int .u64 b,.int .u64 e,.int .u64 c,.int .u8 p,.int .i64 s],.int .u8 q] w fun x w'=>x=.returned (.int .i64 (keyF b e c p s q))∧(w.alloc (.cells #[.int .u64 b,.int .u64 e,.int .u64 c,.int .u8 p,.int .i64 s] 73)).alloc (.cells #[.int .u64 b,.int .u64 e,.int .u64 c,.int .u8 p,.int .i64 s] 73)=w':=by
 go_enter Tryz.func165,Tryz.ntmps165;go_wp2_with(first|(go_at_call 162;refine(open_any _ _ _ _ _ _).mono ?_;rintro x w' ⟨rfl,rfl⟩)|(go_at_call 158;refine(hasAll_any _ _ _).mono ?_;rintro x w' ⟨rfl,rfl⟩))
 all_goals
  go_ret;refine⟨ret_int ?_,rfl⟩
  first|(simp_all [keyF];done)|(simp_all [keyF];omega)
theorem sealBy_any (b e c p s kb ke kc kp ks:Int)(w:World):
 Calls Tryz.prog 145 #[.agg #[.int .u64 b,.int .u64 e,.int .u64 c,.int .u8 p,.int .i64 s],.agg #[.int .u64 kb,.int .u64 ke,.int .u64 kc,.int .u8 kp,.int .i64 ks]] w fun x w'=>
  ∃b' e' c' p' s' f,x=.returned (.tuple #[.agg #[.int .u64 b',.int .u64 e',.int .u64 c',.int .u8 p',.int .i64 s'],.int .i64 f])∧SealR b e c p s kb ke kc kp ks b' e' c' p' s' f∧Below w.heap.size w w':=by
 by_cases h0:s=0
 ·subst h0;by_cases hk:keyF kb ke kc kp ks 32=0
  ·have HK:Hid (keyF kb ke kc kp ks 32=0):=⟨hk⟩;have hk':(keyF kb ke kc kp ks 32 != 0)=false:=by simp[hk]
   clear hk;by_cases h1:kc<1
   ·go_enter Tryz.func145,Tryz.ntmps145;go_wp2_with(first|(go_at_call 162;refine(open_any _ _ _ _ _ _).mono ?_;rintro x w' ⟨rfl,rfl⟩)|(go_at_call 165;refine(asKey_any _ _ _ _ _ _ _).mono ?_;rintro x w' ⟨rfl,rfl⟩));refine bodyPost_ret (v:=.tuple #[.agg #[.int .u64 0,.int .u64 0,.int .u64 0,.int .u8 0,.int .i64 0],.int .i64 6]) (by simp[results,Tryz.results145,go_sem]) rfl ⟨_,_,_,_,_,_,rfl,.inr (.inr (.inl ⟨rfl,HK.out,.inl h1,rfl,rfl,rfl,rfl,rfl,rfl⟩)),by repeat(first|exact Below.refl _ _|refine Below.alloc ?_ (by simp<;>omega) _)⟩
   ·by_cases h2:15<kc
    ·go_enter Tryz.func145,Tryz.ntmps145;go_wp2_with(first|(go_at_call 162;refine(open_any _ _ _ _ _ _).mono ?_;rintro x w' ⟨rfl,rfl⟩)|(go_at_call 165;refine(asKey_any _ _ _ _ _ _ _).mono ?_;rintro x w' ⟨rfl,rfl⟩));refine bodyPost_ret (v:=.tuple #[.agg #[.int .u64 0,.int .u64 0,.int .u64 0,.int .u8 0,.int .i64 0],.int .i64 6]) (by simp[results,Tryz.results145,go_sem]) rfl ⟨_,_,_,_,_,_,rfl,.inr (.inr (.inl ⟨rfl,HK.out,.inr h2,rfl,rfl,rfl,rfl,rfl,rfl⟩)),by repeat(first|exact Below.refl _ _|refine Below.alloc ?_ (by simp<;>omega) _)⟩
    ·have h3:1≤kc:=by omega
     have h4:kc≤15:=by omega
     go_enter Tryz.func145,Tryz.ntmps145;go_wp2_with(first|(go_at_call 162;refine(open_any _ _ _ _ _ _).mono ?_;rintro x w' ⟨rfl,rfl⟩)|(go_at_call 165;refine(asKey_any _ _ _ _ _ _ _).mono ?_;rintro x w' ⟨rfl,rfl⟩));refine bodyPost_ret (v:=.tuple #[.agg #[.int .u64 b,.int .u64 e,.int .u64 c,.int .u8 p,.int .i64 kc],.int .i64 0]) (by simp[results,Tryz.results145,go_sem]) rfl ⟨_,_,_,_,_,_,rfl,.inr (.inr (.inr ⟨rfl,HK.out,h3,h4,rfl,rfl,rfl,rfl,rfl,rfl⟩)),by repeat(first|exact Below.refl _ _|refine Below.alloc ?_ (by simp<;>omega) _)⟩
  ·have hk':(keyF kb ke kc kp ks 32 != 0)=true:=by simpa using hk
   go_enter Tryz.func145,Tryz.ntmps145;go_wp2_with(first|(go_at_call 162;refine(open_any _ _ _ _ _ _).mono ?_;rintro x w' ⟨rfl,rfl⟩)|(go_at_call 165;refine(asKey_any _ _ _ _ _ _ _).mono ?_;rintro x w' ⟨rfl,rfl⟩));refine bodyPost_ret (v:=.tuple #[.agg #[.int .u64 0,.int .u64 0,.int .u64 0,.int .u8 0,.int .i64 0],.int .i64 (keyF kb ke kc kp ks 32)]) (by simp[results,Tryz.results145,go_sem]) rfl ⟨_,_,_,_,_,_,rfl,.inr (.inl ⟨rfl,hk,rfl,rfl,rfl,rfl,rfl,rfl⟩),by repeat(first|exact Below.refl _ _|refine Below.alloc ?_ (by simp<;>omega) _)⟩
 ·have h0':(s==0)=false:=by simpa using h0
  go_enter Tryz.func145,Tryz.ntmps145;go_wp2_with(go_at_call 162;refine(open_any _ _ _ _ _ _).mono ?_;rintro x w' ⟨rfl,rfl⟩);refine bodyPost_ret (v:=.tuple #[.agg #[.int .u64 0,.int .u64 0,.int .u64 0,.int .u8 0,.int .i64 0],.int .i64 3]) (by simp[results,Tryz.results145,go_sem]) rfl ⟨_,_,_,_,_,_,rfl,.inl ⟨h0,rfl,rfl,rfl,rfl,rfl,rfl⟩,by repeat(first|exact Below.refl _ _|refine Below.alloc ?_ (by simp<;>omega) _)⟩
theorem unsealBy_any (b e c p s kb ke kc kp ks:Int)(w:World)(_hs:s<9223372036854775808):
 Calls Tryz.prog 146 #[.agg #[.int .u64 b,.int .u64 e,.int .u64 c,.int .u8 p,.int .i64 s],.agg #[.int .u64 kb,.int .u64 ke,.int .u64 kc,.int .u8 kp,.int .i64 ks]] w fun x w'=>
  ∃b' e' c' p' s' f,x=.returned (.tuple #[.agg #[.int .u64 b',.int .u64 e',.int .u64 c',.int .u8 p',.int .i64 s'],.int .i64 f])∧UnsealR b e c p s kb ke kc kp ks b' e' c' p' s' f∧Below w.heap.size w w':=by
 by_cases h0:s=0
 ·subst h0;go_enter Tryz.func146,Tryz.ntmps146;go_wp2_with(first|(go_at_call 162;refine(open_any _ _ _ _ _ _).mono ?_;rintro x w' ⟨rfl,rfl⟩)|(go_at_call 165;refine(asKey_any _ _ _ _ _ _ _).mono ?_;rintro x w' ⟨rfl,rfl⟩));refine bodyPost_ret (v:=.tuple #[.agg #[.int .u64 0,.int .u64 0,.int .u64 0,.int .u8 0,.int .i64 0],.int .i64 3]) (by simp[results,Tryz.results146,go_sem]) rfl ⟨_,_,_,_,_,_,rfl,.inl ⟨rfl,rfl,rfl,rfl,rfl,rfl,rfl⟩,by repeat(first|exact Below.refl _ _|refine Below.alloc ?_ (by simp<;>omega) _)⟩
 ·have h0':(s==0)=false:=by simpa using h0
  by_cases hk:keyF kb ke kc kp ks 64=0
  ·have HK:Hid (keyF kb ke kc kp ks 64=0):=⟨hk⟩;have hk':(keyF kb ke kc kp ks 64 != 0)=false:=by simp[hk]
   clear hk;by_cases h5:s<0
   ·go_enter Tryz.func146,Tryz.ntmps146;go_wp2_with(first|(go_at_call 162;refine(open_any _ _ _ _ _ _).mono ?_;rintro x w' ⟨rfl,rfl⟩)|(go_at_call 165;refine(asKey_any _ _ _ _ _ _ _).mono ?_;rintro x w' ⟨rfl,rfl⟩));refine bodyPost_ret (v:=.tuple #[.agg #[.int .u64 0,.int .u64 0,.int .u64 0,.int .u8 0,.int .i64 0],.int .i64 6]) (by simp[results,Tryz.results146,go_sem]) rfl ⟨_,_,_,_,_,_,rfl,.inr (.inr (.inl ⟨h0,HK.out,.inl h5,rfl,rfl,rfl,rfl,rfl,rfl⟩)),by repeat(first|exact Below.refl _ _|refine Below.alloc ?_ (by simp<;>omega) _)⟩
   ·have h5':0≤s:=by omega
    by_cases h6:kc=s
    ·subst h6;have h6':(kc != kc)=false:=by simp
     go_enter Tryz.func146,Tryz.ntmps146;go_wp2_with(first|(go_at_call 162;refine(open_any _ _ _ _ _ _).mono ?_;rintro x w' ⟨rfl,rfl⟩)|(go_at_call 165;refine(asKey_any _ _ _ _ _ _ _).mono ?_;rintro x w' ⟨rfl,rfl⟩));refine bodyPost_ret (v:=.tuple #[.agg #[.int .u64 b,.int .u64 e,.int .u64 c,.int .u8 p,.int .i64 0],.int .i64 0]) (by simp[results,Tryz.results146,go_sem]) rfl ⟨_,_,_,_,_,_,rfl,.inr (.inr (.inr ⟨h0,HK.out,h5',rfl,rfl,rfl,rfl,rfl,rfl,rfl⟩)),by repeat(first|exact Below.refl _ _|refine Below.alloc ?_ (by simp<;>omega) _)⟩
    ·have h6':(kc != s)=true:=by simpa using h6
     go_enter Tryz.func146,Tryz.ntmps146;go_wp2_with(first|(go_at_call 162;refine(open_any _ _ _ _ _ _).mono ?_;rintro x w' ⟨rfl,rfl⟩)|(go_at_call 165;refine(asKey_any _ _ _ _ _ _ _).mono ?_;rintro x w' ⟨rfl,rfl⟩));refine bodyPost_ret (v:=.tuple #[.agg #[.int .u64 0,.int .u64 0,.int .u64 0,.int .u8 0,.int .i64 0],.int .i64 6]) (by simp[results,Tryz.results146,go_sem]) rfl ⟨_,_,_,_,_,_,rfl,.inr (.inr (.inl ⟨h0,HK.out,.inr h6,rfl,rfl,rfl,rfl,rfl,rfl⟩)),by repeat(first|exact Below.refl _ _|refine Below.alloc ?_ (by simp<;>omega) _)⟩
  ·have hk':(keyF kb ke kc kp ks 64 != 0)=true:=by simpa using hk
   go_enter Tryz.func146,Tryz.ntmps146;go_wp2_with(first|(go_at_call 162;refine(open_any _ _ _ _ _ _).mono ?_;rintro x w' ⟨rfl,rfl⟩)|(go_at_call 165;refine(asKey_any _ _ _ _ _ _ _).mono ?_;rintro x w' ⟨rfl,rfl⟩));refine bodyPost_ret (v:=.tuple #[.agg #[.int .u64 0,.int .u64 0,.int .u64 0,.int .u8 0,.int .i64 0],.int .i64 (keyF kb ke kc kp ks 64)]) (by simp[results,Tryz.results146,go_sem]) rfl ⟨_,_,_,_,_,_,rfl,.inr (.inl ⟨h0,hk,rfl,rfl,rfl,rfl,rfl,rfl⟩),by repeat(first|exact Below.refl _ _|refine Below.alloc ?_ (by simp<;>omega) _)⟩
end T
namespace C
open T (Sep Ob Kp Mf TgIn boxOb Fm Tc Ed Vl Cp Bx tgOb mRow mRow_idx mRow_reg updV flt kp_setCells)
def pan (x:Ed):Ending:=.panicked [{v:=.iface 69 (.agg #[.int .i64 x.e,.int .u64 x.v,.int .i64 x.f]),recovered:=false}]
structure RgAt (w:World)(a r:Nat)(v:Vl):Prop where
 rl:r<16
 lt:a<w.heap.size
 c0:w.cell? ⟨a,7+r*7,none⟩=some (.bool v.g)
 c1:w.cell? ⟨a,7+r*7+1,none⟩=some (.int .u64 v.n)
 c2:w.cell? ⟨a,7+r*7+2,none⟩=some (.int .u64 v.c.b)
 c3:w.cell? ⟨a,7+r*7+3,none⟩=some (.int .u64 v.c.e)
 c4:w.cell? ⟨a,7+r*7+4,none⟩=some (.int .u64 v.c.c)
 c5:w.cell? ⟨a,7+r*7+5,none⟩=some (.int .u8 v.c.p)
 c6:w.cell? ⟨a,7+r*7+6,none⟩=some (.int .i64 v.c.s)
theorem RgAt.gr {w W:World}{a r:Nat}{v:Vl}(h:RgAt w a r v)(g:Gr w W):RgAt W a r v:=by
 have hb:W.heap[a]?=w.heap[a]?:=g.below.block a h.lt;exact⟨h.rl,Nat.lt_of_lt_of_le h.lt g.below.size,(T.cell_of_block hb _).trans h.c0,(T.cell_of_block hb _).trans h.c1,(T.cell_of_block hb _).trans h.c2,(T.cell_of_block hb _).trans h.c3,(T.cell_of_block hb _).trans h.c4,(T.cell_of_block hb _).trans h.c5,(T.cell_of_block hb _).trans h.c6⟩
section
variable {B:Nat} {W W':World} {a:Nat} {P:PImg} {s s':Ms} {l:List Ob}
theorem MIn.rg (h:MIn B W a P s l)(r:Nat)(hr:r<16):RgAt W a r (s.at_.regs r):=by
 obtain⟨q,hb,_⟩:=h.parts;have e:∀j v,(s.at_.regs r).row[j]?=some v→j<7→W.cell? ⟨a,7+r*7+j,none⟩=some v:=fun j v z hj=>hb.at_ _ v ((mRow_reg _ _ _ _ _ _ _ _ _ _ _ r j hr hj).trans z)
 exact⟨hr,hb.lt,e 0 _ rfl (by omega),e 1 _ rfl (by omega),e 2 _ rfl (by omega),e 3 _ rfl (by omega),e 4 _ rfl (by omega),e 5 _ rfl (by omega),e 6 _ rfl (by omega)⟩
theorem MIn.cell (h:MIn B W a P s l):W.cell? ⟨a,5,none⟩=some (.int .i64 s.at_.gate)∧W.cell? ⟨a,6,none⟩=some (.int .i64 s.at_.pc)∧W.cell? ⟨a,123,none⟩=some (.int .i64 s.over.e)∧W.cell? ⟨a,124,none⟩=some (.int .u64 s.over.v)∧W.cell? ⟨a,125,none⟩=some (.int .i64 s.over.f)∧∀o,W.frozen? ⟨a,o,none⟩=false:=by
 obtain⟨q,hb,_⟩:=h.parts;refine⟨hb.at_ 5 _ ?_,hb.at_ 6 _ ?_,hb.at_ 123 _ ?_,hb.at_ 124 _ ?_,hb.at_ 125 _ ?_,hb.fr⟩<;>(unfold rowOf;rw[mRow_idx];rfl)
end
theorem fail_any (f:Int)(w:World):Calls Tryz.prog 74 #[.int .i64 f] w fun x w'=>x=pan (flt f)∧w'=w:=by
 go_enter Tryz.func74,Tryz.ntmps74;go_wp2_with fail;exact⟨rfl,rfl,rfl⟩
theorem allow_ok (w:World):Calls Tryz.prog 108 #[.int .i64 0] w fun x w'=>x=.returned (.tuple #[])∧w'=w:=by
 go_enter Tryz.func108,Tryz.ntmps108;go_wp2_with fail;go_end0;exact⟨rfl,rfl⟩
theorem allow_bad (f:Int)(w:World)(h:f≠0):Calls Tryz.prog 108 #[.int .i64 f] w fun x w'=>x=pan (flt f)∧w'=w:=by
 have h':(f==0)=false:=by simpa using h
 have hF:=fail_any f;unfold pan at hF ⊢;go_enter Tryz.func108,Tryz.ntmps108;go_wp2_with(refine(hF _).mono ?_;rintro x w1 ⟨rfl,rfl⟩);exact⟨rfl,rfl,rfl⟩
theorem number_ok (a r:Nat)(v:Vl)(w:World)(h:RgAt w a r v)(hg:v.g=false):
 Calls Tryz.prog 98 #[.pointer (some ⟨a,0,none⟩),.int .i64 r] w fun x w'=>x=.returned (.int .u64 v.n)∧Gr w w':=by
 obtain⟨rl,lt,c0,c1,c2,c3,c4,c5,c6⟩:=h;rw[hg]at c0;try unfold Cp.val
 clear hg;go_enter Tryz.func98,Tryz.ntmps98;go_wp2_with fail;go_ret;exact⟨rfl,(Gr.refl w).alloc _⟩
theorem number_bad (a r:Nat)(v:Vl)(w:World)(h:RgAt w a r v)(hg:v.g=true):
 Calls Tryz.prog 98 #[.pointer (some ⟨a,0,none⟩),.int .i64 r] w fun x w'=>x=pan (flt 2)∧Gr w w':=by
 obtain⟨rl,lt,c0,c1,c2,c3,c4,c5,c6⟩:=h;rw[hg]at c0;have hF:=fail_any 2;unfold pan at hF ⊢;clear hg;go_enter Tryz.func98,Tryz.ntmps98;go_wp2_with(refine(hF _).mono ?_;rintro x w1 ⟨rfl,rfl⟩);exact⟨rfl,rfl,(Gr.refl w).alloc _⟩
def Cp.val (c:Cp):Value:=.agg #[.int .u64 c.b,.int .u64 c.e,.int .u64 c.c,.int .u8 c.p,.int .i64 c.s]
theorem held_ok (a r:Nat)(v:Vl)(w:World)(h:RgAt w a r v)(hg:v.g=true):
 Calls Tryz.prog 103 #[.pointer (some ⟨a,0,none⟩),.int .i64 r] w fun x w'=>x=.returned (Cp.val v.c)∧Gr w w':=by
 obtain⟨rl,lt,c0,c1,c2,c3,c4,c5,c6⟩:=h;rw[hg]at c0;try unfold Cp.val
 clear hg;go_enter Tryz.func103,Tryz.ntmps103;go_wp2_with fail;simp[bodyPost,results,Tryz.results103,go_sem];exact((Gr.refl w).alloc _).alloc _
theorem held_bad (a r:Nat)(v:Vl)(w:World)(h:RgAt w a r v)(hg:v.g=false):
 Calls Tryz.prog 103 #[.pointer (some ⟨a,0,none⟩),.int .i64 r] w fun x w'=>x=pan (flt 1)∧Gr w w':=by
 obtain⟨rl,lt,c0,c1,c2,c3,c4,c5,c6⟩:=h;rw[hg]at c0;have hF:=fail_any 1;unfold pan at hF ⊢;clear hg;go_enter Tryz.func103,Tryz.ntmps103;go_wp2_with(refine(hF _).mono ?_;rintro x w1 ⟨rfl,rfl⟩);exact⟨rfl,rfl,((Gr.refl w).alloc _).alloc _⟩
def Ms.goTo (s:Ms)(pc:Nat):Ms:={s with at_:={s.at_ with pc:=pc}}
def Ms.next (s:Ms):Ms:=s.goTo (s.at_.pc+1)
def Ms.put (s:Ms)(r:Nat)(v:Vl):Ms:={s with at_:={s.at_ with regs:=updV s.at_.regs r v}}
section
variable {B:Nat} {W W':World} {a:Nat} {P:PImg} {s s':Ms} {l:List Ob}
theorem MIn.setPc (h:MIn B W a P s l)(pc:Nat):MIn B (W.setCell ⟨a,6,none⟩ (.int .i64 pc)) a P (s.goTo pc) l∧Below B W (W.setCell ⟨a,6,none⟩ (.int .i64 pc)):=
 h.box (s':=s.goTo pc) ⟨rfl,rfl,rfl,rfl,rfl,rfl⟩ (fun _ hb=>hb.set 6 (.int .i64 pc)) (Kp.set (S:=fun k=>k=a) W ⟨a,6,none⟩ _ rfl)
theorem MIn.setReg (h:MIn B W a P s l)(r:Nat)(v:Vl)(hr:r<16):MIn B (W.setCells a (7+r*7) v.row) a P (s.put r v) l∧Below B W (W.setCells a (7+r*7) v.row):=
 h.box (s':=s.put r v) ⟨rfl,rfl,rfl,rfl,rfl,rfl⟩ (fun _ hb=>hb.putReg r v hr) (kp_setCells (fun k=>k=a) a rfl _ _ W)
end
theorem next_any (B:Nat)(a:Nat)(P:PImg)(s:Ms)(l:List Ob)(w:World)(h:MIn B w a P s l)(hp:s.at_.pc<1000000000):
 Calls Tryz.prog 97 #[.pointer (some ⟨a,0,none⟩)] w fun x w'=>x=.returned (.tuple #[])∧MIn B w' a P s.next l∧Below B w w':=by
 have hq:=h.setPc (s.at_.pc+1);have e:s.goTo (s.at_.pc+1)=s.next:=rfl;rw[e]at hq;obtain⟨_,c6,_,_,_,fr⟩:=h.cell;generalize s.next=s1 at*;generalize s.at_.pc=n at*;have m0:IntKind.i64.wrap ((n:Int)+1)=((n+1:Nat):Int):=by rw[IntKind.wrap_i64];omega
 replace h:=ζ h;replace hq:=ζ hq;clear e;go_enter Tryz.func97,Tryz.ntmps97;go_wp2_with fail;go_end0;exact⟨rfl,hq.out⟩
def set7 (w:World)(a o:Nat)(v:Vl):World:=((((((w.setCell ⟨a,o,none⟩ (.bool v.g)).setCell ⟨a,o+1,none⟩ (.int .u64 v.n)).setCell ⟨a,o+2,none⟩ (.int .u64 v.c.b)).setCell ⟨a,o+3,none⟩ (.int .u64 v.c.e)).setCell ⟨a,o+4,none⟩ (.int .u64 v.c.c)).setCell ⟨a,o+5,none⟩ (.int .u8 v.c.p)).setCell ⟨a,o+6,none⟩ (.int .i64 v.c.s)
theorem set7_eq (w:World)(a o:Nat)(v:Vl):w.setCells a o v.row=set7 w a o v:=rfl
theorem lay_any (B:Nat)(a r:Nat)(v:Vl)(P:PImg)(s:Ms)(l:List Ob)(w:World)(h:MIn B w a P s l)(hr:r<16)(hp:s.at_.pc<1000000000):
 Calls Tryz.prog 66 #[.pointer (some ⟨a,0,none⟩),.int .i64 r,v.agg] w fun x w'=>x=.returned (.tuple #[])∧MIn B w' a P (s.put r v).next l∧Below B w w':=by
 obtain⟨_,hlt,c0,c1,c2,c3,c4,c5,c6⟩:=h.rg r hr;have fr:=h.cell.2.2.2.2.2;have hN:=fun W (q:MIn B W a P (s.put r v) l)=>next_any B a P (s.put r v) l W q hp
 obtain⟨hq,hK⟩:=h.setReg r v hr;rw[set7_eq]at hq hK;have hle:=h.le;generalize s.put r v=s1 at*;generalize s.at_.regs r=u at*;simp only[set7]at hq hK;simp only[Vl.agg];replace h:=ζ h;replace hq:=ζ hq;replace hN:=ζ hN;replace hK:=ζ hK;replace hle:=ζ hle;go_enter Tryz.func66,Tryz.ntmps66;go_wp2_with fail;go_region
 all_goals
  go_wp2_with fail;refine(hN.out _ (hq.out.gr (Below.drew ((Below.refl _ _).alloc (Nat.le_refl _) _)))).mono ?_;rintro x w2 ⟨rfl,h2,k2⟩;replace k2:=(hK.out.trans (Below.mono (Below.drew ((Below.refl _ _).alloc (Nat.le_refl _) _)) hq.out.le)).trans k2;replace h2:=ζ h2;replace k2:=ζ k2;go_wp2_with fail;go_end0;exact⟨rfl,h2.out,k2.out⟩
end C
end Go.Proofs.YtkhbiaaangnkdaaGreatDoor
