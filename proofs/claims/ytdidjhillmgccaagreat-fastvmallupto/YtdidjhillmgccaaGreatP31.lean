import Derived.Test.YtdidjhillmgccaaGreatP30
namespace Go.Proofs.YtdidjhillmgccaaGreat
namespace Z
open Go.RowKit
open T (Sep Ob Kp Mf FlIn boxOb)
def DEnd (s:Fm)(og op:Nat):Prop:=s.e≠0→og=s.g∧op=s.p
theorem DEnd.run {s:Fm}{og op:Nat}(h:s.e=0):DEnd s og op:=fun q=>absurd h q
def DAft (B:Nat)(w':World)(b:Nat)(c:Dc)(P:Pr)(s':Fm)(l:List Ob):Prop:=∃og op,DIo B w' b c P s' og op l∧DEnd s' og op
theorem djumps_any (P:Pr)(i:Fi)(s:Fm)(n:Nat)(hs:s.Ok P)(he:s.e=0)(ho:i.Ok n P.gates.length)(hn4:n≤400)(hop:20≤i.op∧i.op<27)(B:Nat)(W:World)(b:Nat)(c:Dc)(og op:Nat)(l:List Ob)(h:DIo B W b c P s og op l):
 Calls Tryz.prog 55 #[.pointer (some ⟨b,0,none⟩),.agg #[.int .u8 i.op,.int .i64 i.a,.int .i64 i.b,.int .i64 i.c,.int .u64 i.i]] W fun x w'=>x=.returned (.tuple #[])∧DAft B w' b c P (stepI P i s) l∧Below B W w':=by
 have ia:=ho.a;have ib:=ho.b;have hp:s.p≤1000000:=Nat.le_trans hs.p (by omega);have him:i.i=((i.i.toNat:Nat):Int):=by have:=ho.im;omega
 have hij:i.op≤24:=by have:=ho.op;unfold Named at this;omega
 have hi4:i.i.toNat≤1000000:=by have:=ho.jm ⟨hop.1,hij⟩;omega
 have hk:i.op=20∨i.op=21∨i.op=22∨i.op=23∨i.op=24:=by omega
 rcases hk with e|e|e|e|e
 all_goals rw[e]
 ·rw[show stepI P i s={s with p:=i.i.toNat}by unfold stepI;rw[e];rfl];refine(h.onBox (s':={s with p:=i.i.toNat}) ⟨rfl,rfl,rfl,rfl,rfl⟩ (fun q hb=>djmp20 b _ i.a i.b i.c i.i W hb ia ib hp i.i.toNat him hi4)).mono ?_;rintro x w' ⟨rfl,h1,h2⟩;exact⟨rfl,⟨_,_,h1,DEnd.run he⟩,h2⟩
 ·by_cases hq:s.r i.a=s.r i.b
  ·rw[show stepI P i s={s with p:=i.i.toNat}by unfold stepI;rw[e];show stp21 i s=_;unfold stp21;rw[if_pos (by simpa using hq)]];refine(h.onBox (s':={s with p:=i.i.toNat}) ⟨rfl,rfl,rfl,rfl,rfl⟩ (fun q hb=>djmp21y b _ i.a i.b i.c i.i W hb ia ib hp hq i.i.toNat him hi4)).mono ?_;rintro x w' ⟨rfl,h1,h2⟩;exact⟨rfl,⟨_,_,h1,DEnd.run he⟩,h2⟩
  ·rw[show stepI P i s={s with p:=s.p+1}by unfold stepI;rw[e];show stp21 i s=_;unfold stp21;rw[if_neg (by simpa using hq)]];refine(h.onBox (s':={s with p:=s.p+1}) ⟨rfl,rfl,rfl,rfl,rfl⟩ (fun q hb=>djmp21n b _ i.a i.b i.c i.i W hb ia ib hp hq)).mono ?_;rintro x w' ⟨rfl,h1,h2⟩;exact⟨rfl,⟨_,_,h1,DEnd.run he⟩,h2⟩
 ·by_cases hq:s.r i.a≠s.r i.b
  ·rw[show stepI P i s={s with p:=i.i.toNat}by unfold stepI;rw[e];show stp22 i s=_;unfold stp22;rw[if_pos (by simpa using hq)]];refine(h.onBox (s':={s with p:=i.i.toNat}) ⟨rfl,rfl,rfl,rfl,rfl⟩ (fun q hb=>djmp22y b _ i.a i.b i.c i.i W hb ia ib hp hq i.i.toNat him hi4)).mono ?_;rintro x w' ⟨rfl,h1,h2⟩;exact⟨rfl,⟨_,_,h1,DEnd.run he⟩,h2⟩
  ·rw[show stepI P i s={s with p:=s.p+1}by unfold stepI;rw[e];show stp22 i s=_;unfold stp22;rw[if_neg (by simpa using hq)]];refine(h.onBox (s':={s with p:=s.p+1}) ⟨rfl,rfl,rfl,rfl,rfl⟩ (fun q hb=>djmp22n b _ i.a i.b i.c i.i W hb ia ib hp hq)).mono ?_;rintro x w' ⟨rfl,h1,h2⟩;exact⟨rfl,⟨_,_,h1,DEnd.run he⟩,h2⟩
 ·by_cases hq:s.r i.a<s.r i.b
  ·rw[show stepI P i s={s with p:=i.i.toNat}by unfold stepI;rw[e];show stp23 i s=_;unfold stp23;rw[if_pos (by simpa using hq)]];refine(h.onBox (s':={s with p:=i.i.toNat}) ⟨rfl,rfl,rfl,rfl,rfl⟩ (fun q hb=>djmp23y b _ i.a i.b i.c i.i W hb ia ib hp hq i.i.toNat him hi4)).mono ?_;rintro x w' ⟨rfl,h1,h2⟩;exact⟨rfl,⟨_,_,h1,DEnd.run he⟩,h2⟩
  ·rw[show stepI P i s={s with p:=s.p+1}by unfold stepI;rw[e];show stp23 i s=_;unfold stp23;rw[if_neg (by simpa using hq)]];refine(h.onBox (s':={s with p:=s.p+1}) ⟨rfl,rfl,rfl,rfl,rfl⟩ (fun q hb=>djmp23n b _ i.a i.b i.c i.i W hb ia ib hp hq)).mono ?_;rintro x w' ⟨rfl,h1,h2⟩;exact⟨rfl,⟨_,_,h1,DEnd.run he⟩,h2⟩
 ·by_cases hq:s.r i.b≤s.r i.a
  ·rw[show stepI P i s={s with p:=i.i.toNat}by unfold stepI;rw[e];show stp24 i s=_;unfold stp24;rw[if_pos (by simpa using hq)]];refine(h.onBox (s':={s with p:=i.i.toNat}) ⟨rfl,rfl,rfl,rfl,rfl⟩ (fun q hb=>djmp24y b _ i.a i.b i.c i.i W hb ia ib hp hq i.i.toNat him hi4)).mono ?_;rintro x w' ⟨rfl,h1,h2⟩;exact⟨rfl,⟨_,_,h1,DEnd.run he⟩,h2⟩
  ·rw[show stepI P i s={s with p:=s.p+1}by unfold stepI;rw[e];show stp24 i s=_;unfold stp24;rw[if_neg (by simpa using hq)]];refine(h.onBox (s':={s with p:=s.p+1}) ⟨rfl,rfl,rfl,rfl,rfl⟩ (fun q hb=>djmp24n b _ i.a i.b i.c i.i W hb ia ib hp hq)).mono ?_;rintro x w' ⟨rfl,h1,h2⟩;exact⟨rfl,⟨_,_,h1,DEnd.run he⟩,h2⟩
theorem dguards_any (P:Pr)(i:Fi)(s:Fm)(n:Nat)(hs:s.Ok P)(he:s.e=0)(ho:i.Ok n P.gates.length)(hop:70≤i.op)(B:Nat)(W:World)(b:Nat)(c:Dc)(og op:Nat)(l:List Ob)(h:DIo B W b c P s og op l):
 Calls Tryz.prog 58 #[.pointer (some ⟨b,0,none⟩),.agg #[.int .u8 i.op,.int .i64 i.a,.int .i64 i.b,.int .i64 i.c,.int .u64 i.i]] W fun x w'=>x=.returned (.tuple #[])∧DAft B w' b c P (stepI P i s) l∧Below B W w':=by
 have ia:=ho.a;have hp:s.p≤1000000:=Nat.le_trans hs.p (by omega);have hk:i.op=70∨i.op=71∨i.op=72:=by have:=ho.op;unfold Named at this;omega
 rcases hk with e|e|e
 all_goals rw[e]
 ·by_cases hq:s.r i.a<i.i
  ·rw[show stepI P i s={s with p:=s.p+1}by unfold stepI;rw[e];show stp70 i s=_;unfold stp70;rw[if_pos (by simpa using hq)]];refine(h.onBox (s':={s with p:=s.p+1}) ⟨rfl,rfl,rfl,rfl,rfl⟩ (fun q hb=>dgrd70y b _ i.a i.b i.c i.i W hb ia hp hq)).mono ?_;rintro x w' ⟨rfl,h1,h2⟩;exact⟨rfl,⟨_,_,h1,DEnd.run he⟩,h2⟩
  ·rw[show stepI P i s={s with e:=2,v:=IntKind.u64.wrap i.c,f:=0}by unfold stepI;rw[e];show stp70 i s=_;unfold stp70;rw[if_neg (by simpa using hq)]];refine(h.onBox (s':={s with e:=2,v:=IntKind.u64.wrap i.c,f:=0}) (og':=s.g) (op':=s.p) ⟨rfl,rfl,rfl,rfl,rfl⟩ (fun q hb=>dgrd70n b _ i.a i.b i.c i.i W hb ia hq)).mono ?_;rintro x w' ⟨rfl,h1,h2⟩;exact⟨rfl,⟨_,_,h1,fun _=>⟨rfl,rfl⟩⟩,h2⟩
 ·by_cases hq:i.i≤s.r i.a
  ·rw[show stepI P i s={s with p:=s.p+1}by unfold stepI;rw[e];show stp71 i s=_;unfold stp71;rw[if_pos (by simpa using hq)]];refine(h.onBox (s':={s with p:=s.p+1}) ⟨rfl,rfl,rfl,rfl,rfl⟩ (fun q hb=>dgrd71y b _ i.a i.b i.c i.i W hb ia hp hq)).mono ?_;rintro x w' ⟨rfl,h1,h2⟩;exact⟨rfl,⟨_,_,h1,DEnd.run he⟩,h2⟩
  ·rw[show stepI P i s={s with e:=2,v:=IntKind.u64.wrap i.c,f:=0}by unfold stepI;rw[e];show stp71 i s=_;unfold stp71;rw[if_neg (by simpa using hq)]];refine(h.onBox (s':={s with e:=2,v:=IntKind.u64.wrap i.c,f:=0}) (og':=s.g) (op':=s.p) ⟨rfl,rfl,rfl,rfl,rfl⟩ (fun q hb=>dgrd71n b _ i.a i.b i.c i.i W hb ia hq)).mono ?_;rintro x w' ⟨rfl,h1,h2⟩;exact⟨rfl,⟨_,_,h1,fun _=>⟨rfl,rfl⟩⟩,h2⟩
 ·rw[show stepI P i s={s with e:=2,v:=IntKind.u64.wrap i.c,f:=0}by unfold stepI;rw[e];rfl];refine(h.onBox (s':={s with e:=2,v:=IntKind.u64.wrap i.c,f:=0}) (og':=s.g) (op':=s.p) ⟨rfl,rfl,rfl,rfl,rfl⟩ (fun q hb=>dgrd72 b _ i.a i.b i.c i.i W hb ia)).mono ?_;rintro x w' ⟨rfl,h1,h2⟩;exact⟨rfl,⟨_,_,h1,fun _=>⟨rfl,rfl⟩⟩,h2⟩
section
variable {B:Nat} {W W':World} {b:Nat} {c:Dc} {P:Pr} {s s':Fm} {og op og' op':Nat} {l:List Ob}
theorem sep_dbox {a:Nat}{x x':Dx}{l2:List Ob}(h:Sep B W (dbOb a x::l2))(v:Value)(j:Nat)(hb:DBx W a x→DBx (W.setCell ⟨a,j,none⟩ v) a x')(hB:B≤W.heap.size):Sep B (W.setCell ⟨a,j,none⟩ v) (dbOb a x'::l2)∧Below B W (W.setCell ⟨a,j,none⟩ v):=by
 have hk:Kp (fun k=>k=a) W (W.setCell ⟨a,j,none⟩ v):=Kp.set (S:=fun k=>k=a) W ⟨a,j,none⟩ v rfl;exact⟨sep_change (l1:=[]) (o:=dbOb a x) (o':=dbOb a x') h (hb (h.ins (dbOb a x) (by simp))) hk (fun _ r=>.inl r) hB,sep_below (l1:=[]) (o:=dbOb a x) h hk hB⟩
theorem DIo.new (h:DIo B W b c P s og op l)(cs:Array Value)(ty:TypeId):DIo B (W.alloc (.cells cs ty)) b c P s og op (boxOb W.heap.size cs::l)∧Below B W (W.alloc (.cells cs ty)):=by
 obtain⟨⟨q,h1,ia,ic,e,h2⟩,le⟩:=h;have hb:Below W.heap.size W (W.alloc (.cells cs ty)):=(Below.refl _ W).alloc (Nat.le_refl _) _;exact⟨⟨⟨q,sep_perm (h1.add (boxOb W.heap.size cs) (At.new W cs ty) (fun k q=>by have:k=W.heap.size:=q;omega) hb le) ((List.perm_middle.symm).trans (List.Perm.append_left _ (List.Perm.swap _ _ _))),ia,ic,e,h2.below (hb.mono le)⟩,Nat.le_trans le hb.size⟩,hb.mono le⟩
theorem DIo.there (h:DIo B W b c P s og op l)(o:Ob)(ho:o∈l):o.In W:=by
 obtain⟨⟨q,h1,_⟩,_⟩:=h;exact h1.ins o (by simp[ho])
theorem DIo.drop {o:Ob}(h:DIo B W b c P s og op (o::l)):DIo B W b c P s og op l:=by
 obtain⟨⟨q,h1,r⟩,le⟩:=h;exact⟨⟨q,sep_tail (sep_perm h1 ((List.Perm.append_left _ (List.Perm.swap _ _ _)).trans List.perm_middle)),r⟩,le⟩
theorem DIo.ge (h:DIo B W b c P s og op l):B≤b:=by
 obtain⟨⟨q,h1,_⟩,_⟩:=h;exact h1.ge (dbOb b (dxOf c P s q og op)) (by simp[dobs]) b rfl
theorem DIo.put (h:DIo B W b c P s og op l)(j:Nat)(v:Value)(hs:s'.st=s.st∧s'.m=s.m∧s'.inp=s.inp∧s'.out=s.out∧s'.tc=s.tc)(hb:∀q,DBx W b (dxOf c P s q og op)→DBx (W.setCell ⟨b,j,none⟩ v) b (dxOf c P s' q og' op')):
 DIo B (W.setCell ⟨b,j,none⟩ v) b c P s' og' op' l∧Below B W (W.setCell ⟨b,j,none⟩ v):=by
 obtain⟨⟨q,h1,ia,ic,e,h2⟩,le⟩:=h;obtain⟨e1,e2,e3,e4,e5⟩:=hs;obtain⟨h3,b3⟩:=sep_dbox h1 v j (hb q) le;refine⟨⟨⟨q,?_,ia,ic,by rw[e3];exact e,by rw[e3];exact h2.below b3⟩,Nat.le_trans le b3.size⟩,b3⟩;unfold dobs;rw[e1,e2,e3,e4,e5];exact h3
theorem DIo.pc (h:DIo B W b c P s og op l):DIo B (W.setCell ⟨b,5,none⟩ (.int .i64 ((s.p:Int)+1))) b c P {s with p:=s.p+1} og op l∧Below B W (W.setCell ⟨b,5,none⟩ (.int .i64 ((s.p:Int)+1))):=
 h.put 5 _ ⟨rfl,rfl,rfl,rfl,rfl⟩ (fun _ q=>q.p_ (s.p+1))
theorem DIo.reg (h:DIo B W b c P s og op l)(i:Nat)(hi:i<16)(n:Int):DIo B (W.setCell ⟨b,6+i,none⟩ (.int .u64 n)) b c P {s with r:=updR s.r i n} og op l∧Below B W (W.setCell ⟨b,6+i,none⟩ (.int .u64 n)):=
 h.put (6+i) _ ⟨rfl,rfl,rfl,rfl,rfl⟩ (fun _ q=>q.reg i hi n)
theorem DIo.in1 (h:DIo B W b c P s og op l){n:Int}{L:List Int}(hi:s.inp=n::L):∃jb jo jc,W.cell? ⟨b,24,none⟩=some (.slice (some ⟨jb,jo,none⟩) (L.length+1) jc)∧W.cell? ⟨jb,jo,none⟩=some (.int .u64 n)∧jb≠b∧L.length+1≤jc∧∀v,(v=Value.slice (some ⟨jb,jo+1,none⟩) L.length (jc - 1)∨jc=1∧v=Value.slice (some ⟨jb,jo,none⟩) 0 0)→DIo B (W.setCell ⟨b,24,none⟩ v) b c P {s with inp:=L} og op l∧Below B W (W.setCell ⟨b,24,none⟩ v):=by
 obtain⟨⟨q,h1,ia,ic,e,h2⟩,le⟩:=h;have hbx:DBx W b (dxOf c P s q og op):=h1.ins (dbOb b (dxOf c P s q og op)) (by simp[dobs]);have hgi:=h1.ins (giOb B q.iv s.inp) (by simp);have hgd:∀k,(giOb B q.iv s.inp).S k→k≠b:=fun k hk e=>(List.pairwise_append.1 h1.dis).2.2 (dbOb b (dxOf c P s q og op)) (by simp[dobs]) (giOb B q.iv s.inp) (by simp) k e hk
 have hbB:B≤b:=h1.ge (dbOb b (dxOf c P s q og op)) (by simp[dobs]) b rfl;rw[hi]at h2 hgi;obtain⟨k3,h2⟩:=h2;rcases h2 with⟨_,h2⟩|⟨jb,jo,rfl,h2⟩
 ·simp only[List.length_cons]at k3;omega
 have k3':L.length+1≤ic:=by simpa using k3
 have kc:jb<W.heap.size∧∀i (h:i<(n::L).length),W.cell? ⟨jb,jo+i,none⟩=some (.int .u64 (n::L)[i]):=by
  by_cases hj:jb<B
  ·exact h2 hj
  ·exact hgi jb jo _ _ e (by omega)
 have hne:jb≠b:=by
  by_cases hj:jb<B
  ·omega
  ·exact hgd jb ⟨by omega,jo,_,_,e⟩
 refine⟨jb,jo,ic,?_,kc.2 0 (by simp),hne,k3',fun v hv=>?_⟩
 ·have:=hbx.at_ 24 (by omega);rw[show(dxOf c P s q og op).at 24=q.iv from rfl,e,hi]at this;exact this
 ·have hv2:∀k off n2 c2,v=.slice (some ⟨k,off,none⟩) n2 c2→k=jb:=by
   intro k off n2 c2 ev;rcases hv with rfl|⟨_,rfl⟩
   ·injection ev with ev _ _
    injection ev with ev
    injection ev with ev _ _
    exact ev.symm
   ·injection ev with ev _ _
    injection ev with ev
    injection ev with ev _ _
    exact ev.symm
  have hv3:∀off n2 c2,v=.slice (some ⟨jb,off,none⟩) n2 c2→∀i (h:i<L.length),W.cell? ⟨jb,off+i,none⟩=some (.int .u64 L[i]):=by
   intro off n2 c2 ev i hl;rcases hv with rfl|⟨hc,rfl⟩
   ·injection ev with ev _ _
    injection ev with ev
    injection ev with _ ev _
    subst ev;have:=kc.2 (i+1) (by simpa using hl);rw[show jo+1+i=jo+(i+1)by omega,this]
    rfl
   ·omega
  have hS:Sep B W (dobs B b c P s q og op++giOb B v L::l):=by
   refine sep_change (l1:=dobs B b c P s q og op) (o:=giOb B q.iv s.inp) (o':=giOb B v L) (l2:=l) h1 (fun k off n2 c2 ev hB=>?_) (Kp.refl _ _) (fun k r=>.inl ?_) le
   ·have:=hv2 k off n2 c2 ev;subst this;exact⟨kc.1,hv3 off n2 c2 ev⟩
   ·obtain⟨hB,off,n2,c2,ev⟩:=r;have:=hv2 k off n2 c2 ev;subst this;exact⟨hB,jo,_,_,e⟩
  obtain⟨h3,b3⟩:=sep_dbox (x':=dxOf c P {s with inp:=L} {q with iv:=v} og op) hS v 24 (fun q=>q.iv _) le;refine⟨⟨⟨{q with iv:=v},h3,?_⟩,Nat.le_trans le b3.size⟩,b3⟩;rcases hv with rfl|⟨hc,rfl⟩
  ·exact⟨_,_,rfl,LgIn.below ⟨by show L.length≤ic - 1;omega,.inr ⟨jb,jo+1,rfl,fun _=>⟨kc.1,hv3 _ _ _ rfl⟩⟩⟩ b3⟩
  ·have:L=[]:=List.eq_nil_of_length_eq_zero (by omega);subst this;exact⟨_,_,rfl,LgIn.below ⟨Nat.le_refl _,.inr ⟨jb,jo,rfl,fun _=>⟨kc.1,fun i h=>absurd h (Nat.not_lt_zero _)⟩⟩⟩ b3⟩
theorem DIo.in0 (h:DIo B W b c P s og op l)(hi:s.inp=[]):∃q ja jc,DBx W b (dxOf c P s q og op)∧(dxOf c P s q og op).iv=.slice ja 0 jc:=by
 obtain⟨⟨q,h1,ia,ic,e,_⟩,_⟩:=h;exact⟨q,ia,ic,h1.ins (dbOb b (dxOf c P s q og op)) (by simp[dobs]),by show q.iv=_;rw[e,hi];rfl⟩
end
end Z
set_option maxRecDepth 100000
set_option maxHeartbeats 40000000
namespace Z
open Go.RowKit
open T (Sep Ob Kp Mf FlIn boxOb)
theorem dfin (B:Nat)(W0:World)(b:Nat)(c:Dc)(P:Pr)(s:Fm)(og op:Nat)(l:List Ob)(ia ib ic:Nat)(imm:Int)(h:DIo B W0 b c P s og op l)(n:Int)(L:List Int)(hi:s.inp=n::L)(ha:ia<16)(hp:s.p≤1000000):
 Calls Tryz.prog 56 #[.pointer (some ⟨b,0,none⟩),.agg #[.int .u8 29,.int .i64 ia,.int .i64 ib,.int .i64 ic,.int .u64 imm]] W0 fun x w'=>x=.returned (.tuple #[])∧DIo B w' b c P ({s with inp:=L,r:=updR s.r ia n,p:=s.p+1}) og op l∧Below B W0 w':=by
 replace hi:=ζ hi;have h2:=ζ (h.new #[.int .u8 29,.int .i64 ia,.int .i64 ib,.int .i64 ic,.int .u64 imm] 53);clear h;go_enter Tryz.func56,Tryz.ntmps56;go_upto_region 1 with fail
 refine wp_world (fun W=>DIo B W b c P s og op (boxOb W0.heap.size #[.int .u8 29,.int .i64 ia,.int .i64 ib,.int .i64 ic,.int .u64 imm]::l)∧Below B W0 W) h2.out ?_;rintro W ⟨h,hB⟩;replace h:=ζ h;replace hB:=ζ hB;clear h2;generalize W0.heap.size=kb at*;have KS:=xk2 29 ia ib ic imm kb;have k0:W.cell? ⟨kb,0,none⟩=some (.int .u8 29):=(h.out.there (boxOb kb #[.int .u8 29,.int .i64 ia,.int .i64 ib,.int .i64 ic,.int .u64 imm]) (.head _)).2.1 0;obtain⟨jb,jo,jc,c24,cin,hjb,hjc,htk⟩:=h.out.in1 hi.out;have hn0:((L.length:Int)+1==0)=false:=by simpa using(by omega:¬(L.length:Int)+1=0)
 have hbge:=h.out.ge;replace htk:=ζ htk;go_upto_region 10 with fail
 clear k0 hn0;have gd:Gr W W.drew:=(Gr.refl W).drew;have hd:=ζ (h.out.gr gd.below);have rr:∃y,W.drew.cell? ⟨b,6+ia,none⟩=some y:=by obtain⟨q,hq⟩:=hd.out.box;exact⟨_,hq.at_ (6+ia) (by omega)⟩
 obtain⟨y0,rr⟩:=rr;have rf:W.drew.frozen? ⟨b,6+ia,none⟩=false:=by obtain⟨q,hq⟩:=hd.out.box;exact hq.fr _
 have ri:(ia:Int)<16:=by omega
 have hlt:b<W.drew.heap.size:=by obtain⟨q,hq⟩:=hd.out.box;exact hq.lt
 have dx:W.drew.cell? ⟨b,24,none⟩=some (.slice (some ⟨jb,jo,none⟩) (L.length+1) jc):=c24;have dn:W.drew.cell? ⟨jb,jo,none⟩=some (.int .u64 n):=cin;have hrg:=ζ (hd.out.reg ia ha n);refine wp_region_held_drew (S:=(fun W=>W.cell? ⟨kb,0,none⟩=some (.int .u8 29)∧W.cell? ⟨kb,1,none⟩=some (.int .i64 ia)∧W.cell? ⟨kb,2,none⟩=some (.int .i64 ib)∧W.cell? ⟨kb,3,none⟩=some (.int .i64 ic)∧W.cell? ⟨kb,4,none⟩=some (.int .u64 imm))) (by kernel_rfl) (KS.out _ (hd.out.there (boxOb kb #[.int .u8 29,.int .i64 ia,.int .i64 ib,.int .i64 ic,.int .u64 imm]) (.head _))) (fun hHeld=>?_);refine xz 0 rfl (h:=xz 1 rfl (h:=xz 2 rfl (h:=xz 3 rfl (h:=xz 4 rfl (h:=xz 5 rfl (h:=xz 9 rfl (h:=xz 10 rfl (h:=?_))))))));try simp only[xap]
 refine xrd 6 rfl (fun K hK=>?_);go_simp;refine hK.out _ _ (KS.out _ (hd.out.there (boxOb kb #[.int .u8 29,.int .i64 ia,.int .i64 ib,.int .i64 ic,.int .u64 imm]) (.head _))) (fun hHeld=>?_);clear hK K;try simp only[xap]
 refine xz 7 rfl (h:=?_);try simp only[xap]
 refine xrd 8 rfl (fun K hK=>?_);go_simp;refine hK.out _ _ (KS.out _ (hd.out.there (boxOb kb #[.int .u8 29,.int .i64 ia,.int .i64 ib,.int .i64 ic,.int .u64 imm]) (.head _))) (fun hHeld=>?_);clear hK K;try simp only[xap]
 refine xz 11 rfl (h:=?_);try simp only[xap]
 refine xrd 12 rfl (fun K hK=>?_);go_simp;refine hK.out _ _ (KS.out _ (hrg.out.1.there (boxOb kb #[.int .u8 29,.int .i64 ia,.int .i64 ib,.int .i64 ic,.int .u64 imm]) (.head _))) (fun hHeld=>?_);clear hK K;try simp only[xap]
 refine xdn ?_ _;clear hHeld rr rf ri hlt dx dn c24 cin htk;replace h:=ζ hrg.out.1;replace hB:=ζ (hB.out.trans ((gd.below.mono (Nat.le_trans h.out.le (by simp))).trans hrg.out.2));clear hrg hd gd hjb hjc;replace h:=ζ (show DIo B (W.setCell ⟨b,6+ia,none⟩ (.int .u64 n)).drew b c P {s with r:=updR s.r ia n} og op (boxOb kb #[.int .u8 29,.int .i64 ia,.int .i64 ib,.int .i64 ic,.int .u64 imm]::l)from h.out);replace hB:=ζ (show Below B W0 (W.setCell ⟨b,6+ia,none⟩ (.int .u64 n)).drew from hB.out);generalize hVV:(W.setCell ⟨b,6+ia,none⟩ (.int .u64 n)).drew=V1 at*;clear hVV;obtain⟨jb,jo,jc,c24,cin,hjb,hjc,htk⟩:=h.out.in1 (L:=L) (n:=n) hi.out;have f24:V1.frozen? ⟨b,24,none⟩=false:=by obtain⟨q,hq⟩:=h.out.box;exact hq.fr 24
 have hlt:b<V1.heap.size:=by obtain⟨q,hq⟩:=h.out.box;exact hq.lt
 replace htk:=ζ htk;clear cin;by_cases hc1:jc=1
 ·subst hc1;obtain rfl:L=[]:=List.eq_nil_of_length_eq_zero (by omega);have hT:=ζ (htk.out _ (.inr ⟨rfl,rfl⟩));go_upto_region 12 with fail
  refine wp_world (fun V=>DIo B V b c P {s with r:=updR s.r ia n,inp:=[]} og op (boxOb kb #[.int .u8 29,.int .i64 ia,.int .i64 ib,.int .i64 ic,.int .u64 imm]::l)∧Below B V1 V) hT.out ?_;rintro V2 ⟨h3,hB3⟩;clear hT htk c24 f24 hlt;replace hB:=ζ (hB.out.trans hB3);replace h:=ζ h3;clear h3 hB3;have c5:V2.cell? ⟨b,5,none⟩=some (.int .i64 s.p):=by obtain⟨q,hq⟩:=h.out.box;exact hq.at_ 5 (by omega)
  have f5:V2.frozen? ⟨b,5,none⟩=false:=by obtain⟨q,hq⟩:=h.out.box;exact hq.fr 5
  have hlt:b<V2.heap.size:=by obtain⟨q,hq⟩:=h.out.box;exact hq.lt
  have hw5:wrap64 ((s.p:Int)+1)=(s.p:Int)+1:=by unfold wrap64;omega
  have hpc:=ζ h.out.pc;go_wp2_with fail
  first|go_end0|((try simp only[Exit.inBlock,Exit.then]);refine xre ?_)
  refine⟨rfl,hpc.out.1.drop,hB.out.trans hpc.out.2⟩
 ·have hT:=ζ (htk.out _ (.inl rfl));have hc2:¬jc - 1=0:=by omega
  have hc3:(1:Int)≤(jc:Int):=by omega
  go_upto_region 12 with fail;refine wp_world (fun V=>DIo B V b c P {s with r:=updR s.r ia n,inp:=L} og op (boxOb kb #[.int .u8 29,.int .i64 ia,.int .i64 ib,.int .i64 ic,.int .u64 imm]::l)∧Below B V1 V) hT.out ?_;rintro V2 ⟨h3,hB3⟩;clear hT htk c24 f24 hlt;replace hB:=ζ (hB.out.trans hB3);replace h:=ζ h3;clear h3 hB3;have c5:V2.cell? ⟨b,5,none⟩=some (.int .i64 s.p):=by obtain⟨q,hq⟩:=h.out.box;exact hq.at_ 5 (by omega)
  have f5:V2.frozen? ⟨b,5,none⟩=false:=by obtain⟨q,hq⟩:=h.out.box;exact hq.fr 5
  have hlt:b<V2.heap.size:=by obtain⟨q,hq⟩:=h.out.box;exact hq.lt
  have hw5:wrap64 ((s.p:Int)+1)=(s.p:Int)+1:=by unfold wrap64;omega
  have hpc:=ζ h.out.pc;go_wp2_with fail
  first|go_end0|((try simp only[Exit.inBlock,Exit.then]);refine xre ?_)
  refine⟨rfl,hpc.out.1.drop,hB.out.trans hpc.out.2⟩
section
variable {B:Nat} {W:World} {b:Nat} {c:Dc} {P:Pr} {s:Fm} {og op:Nat} {l:List Ob}
theorem DIo.appO (h:DIo B W b c P s og op l)(x:Int):∃q ta tk,DBx W b (dxOf c P s q og op)∧W.cell? ⟨b,25,none⟩=some (.slice ta s.out.length tk)∧(∀V,Below W.heap.size W V→V.ownsRow B 51 1 (.slice ta s.out.length tk) s.out.length (s.out.map u64I))∧∀V W2 g cap,Below W.heap.size W V→W2.ownsRow B 51 1 (.slice (some ⟨g,0,none⟩) (s.out.length+1) cap) (s.out.length+1) (s.out.map u64I++[u64I x])→V.grownBy W2 (Value.slice ta s.out.length tk).ownBlock→((Value.slice ta s.out.length tk).ownBlock=some g∨g=V.heap.size)→DBx W2 b (dxOf c P s q og op)∧(∀o∈l,o.In W2)∧DIo B (W2.setCell ⟨b,25,none⟩ (.slice (some ⟨g,0,none⟩) (s.out.length+1) cap)) b c P {s with out:=s.out++[x]} og op l∧Below B W (W2.setCell ⟨b,25,none⟩ (.slice (some ⟨g,0,none⟩) (s.out.length+1) cap)):=by
 obtain⟨⟨q,h1,ia,ic,e,h2⟩,le⟩:=h;have hb:=h1.ins (dbOb b (dxOf c P s q og op)) (by simp[dobs]);have hO:W.ownsRow B 51 1 q.ov_ s.out.length (s.out.map u64I):=h1.ins (ouOb B q.ov_ s.out) (by simp[dobs]);obtain⟨ta,tk,etv⟩:=own_slZ hO;refine⟨q,ta,tk,hb,by rw[←etv];exact hb.at_ 25 (by omega),fun V g=>by rw[←etv];exact own_keep hO (Kp.of_below (S:=fun _=>False) g) (fun _ _ r=>r),fun V W2 g cap g1 hown gr hg=>?_⟩;rw[←etv]at gr hg;have leV:=Nat.le_trans le g1.size;have hk:=kp_grown gr;have h3:=sep_change (l1:=[dbOb b (dxOf c P s q og op),rowOb B 144 18 q.sv s.st.length (s.st.flatMap Fr.vals),rowOb B 5 1 q.mv 65536 (mV s.m)]) (o:=ouOb B q.ov_ s.out) (o':=ouOb B (.slice (some ⟨g,0,none⟩) (s.out.length+1) cap) (s.out++[x])) (l2:=tcOb B q.tv s.tc::giOb B q.iv s.inp::l) (h1.gr g1) (by
  show W2.ownsRow B _ 1 _ (s.out++[x]).length ((s.out++[x]).map u64I);rw[List.length_append,List.map_append];simpa using hown) hk (fun k r=>by
  have e:g=k:=by simpa [ouOb,tcOb,rowOb,Value.ownBlock]using r
  rcases hg with u|u
  ·exact .inl (e▸u)
  ·exact .inr (by omega)) leV
 have b1:=sep_below (l1:=[dbOb b (dxOf c P s q og op),rowOb B 144 18 q.sv s.st.length (s.st.flatMap Fr.vals),rowOb B 5 1 q.mv 65536 (mV s.m)]) (o:=ouOb B q.ov_ s.out) (l2:=tcOb B q.tv s.tc::giOb B q.iv s.inp::l) (h1.gr g1) hk leV;obtain⟨h4,b2⟩:=sep_dbox (x':=dxOf c P {s with out:=s.out++[x]} {q with ov_:=.slice (some ⟨g,0,none⟩) (s.out.length+1) cap} og op) h3 (.slice (some ⟨g,0,none⟩) (s.out.length+1) cap) 25 (fun q=>q.ov_ _) (Nat.le_trans leV b1.size);have bb:Below B W (W2.setCell ⟨b,25,none⟩ (.slice (some ⟨g,0,none⟩) (s.out.length+1) cap)):=(g1.mono le).trans (b1.trans b2);exact⟨h3.ins (dbOb b (dxOf c P s q og op)) (by simp),fun o ho=>h3.ins o (by simp[ho]),⟨⟨{q with ov_:=.slice (some ⟨g,0,none⟩) (s.out.length+1) cap},h4,ia,ic,e,h2.below bb⟩,Nat.le_trans le bb.size⟩,bb⟩
theorem DIo.appT (h:DIo B W b c P s og op l)(x:Tc):∃q ta tk,DBx W b (dxOf c P s q og op)∧W.cell? ⟨b,26,none⟩=some (.slice ta s.tc.length tk)∧(∀V,Below W.heap.size W V→V.ownsRow B 67 3 (.slice ta s.tc.length tk) s.tc.length (s.tc.flatMap Tc.vals))∧∀V W2 g cap,Below W.heap.size W V→W2.ownsRow B 67 3 (.slice (some ⟨g,0,none⟩) (s.tc.length+1) cap) (s.tc.length+1) (s.tc.flatMap Tc.vals++x.vals)→V.grownBy W2 (Value.slice ta s.tc.length tk).ownBlock→((Value.slice ta s.tc.length tk).ownBlock=some g∨g=V.heap.size)→DBx W2 b (dxOf c P s q og op)∧(∀o∈l,o.In W2)∧DIo B (W2.setCell ⟨b,26,none⟩ (.slice (some ⟨g,0,none⟩) (s.tc.length+1) cap)) b c P {s with tc:=s.tc++[x]} og op l∧Below B W (W2.setCell ⟨b,26,none⟩ (.slice (some ⟨g,0,none⟩) (s.tc.length+1) cap)):=by
 obtain⟨⟨q,h1,ia,ic,e,h2⟩,le⟩:=h;have hb:=h1.ins (dbOb b (dxOf c P s q og op)) (by simp[dobs]);have hO:W.ownsRow B 67 3 q.tv s.tc.length (s.tc.flatMap Tc.vals):=h1.ins (tcOb B q.tv s.tc) (by simp[dobs]);obtain⟨ta,tk,etv⟩:=own_slZ hO;refine⟨q,ta,tk,hb,by rw[←etv];exact hb.at_ 26 (by omega),fun V g=>by rw[←etv];exact own_keep hO (Kp.of_below (S:=fun _=>False) g) (fun _ _ r=>r),fun V W2 g cap g1 hown gr hg=>?_⟩;rw[←etv]at gr hg;have leV:=Nat.le_trans le g1.size;have hk:=kp_grown gr;have h3:=sep_change (l1:=[dbOb b (dxOf c P s q og op),rowOb B 144 18 q.sv s.st.length (s.st.flatMap Fr.vals),rowOb B 5 1 q.mv 65536 (mV s.m),ouOb B q.ov_ s.out]) (o:=tcOb B q.tv s.tc) (o':=tcOb B (.slice (some ⟨g,0,none⟩) (s.tc.length+1) cap) (s.tc++[x])) (l2:=giOb B q.iv s.inp::l) (h1.gr g1) (by
  show W2.ownsRow B _ 3 _ (s.tc++[x]).length ((s.tc++[x]).flatMap Tc.vals);rw[List.length_append,List.flatMap_append];simpa using hown) hk (fun k r=>by
  have e:g=k:=by simpa [ouOb,tcOb,rowOb,Value.ownBlock]using r
  rcases hg with u|u
  ·exact .inl (e▸u)
  ·exact .inr (by omega)) leV
 have b1:=sep_below (l1:=[dbOb b (dxOf c P s q og op),rowOb B 144 18 q.sv s.st.length (s.st.flatMap Fr.vals),rowOb B 5 1 q.mv 65536 (mV s.m),ouOb B q.ov_ s.out]) (o:=tcOb B q.tv s.tc) (l2:=giOb B q.iv s.inp::l) (h1.gr g1) hk leV;obtain⟨h4,b2⟩:=sep_dbox (x':=dxOf c P {s with tc:=s.tc++[x]} {q with tv:=.slice (some ⟨g,0,none⟩) (s.tc.length+1) cap} og op) h3 (.slice (some ⟨g,0,none⟩) (s.tc.length+1) cap) 26 (fun q=>q.tv _) (Nat.le_trans leV b1.size);have bb:Below B W (W2.setCell ⟨b,26,none⟩ (.slice (some ⟨g,0,none⟩) (s.tc.length+1) cap)):=(g1.mono le).trans (b1.trans b2);exact⟨h3.ins (dbOb b (dxOf c P s q og op)) (by simp),fun o ho=>h3.ins o (by simp[ho]),⟨⟨{q with tv:=.slice (some ⟨g,0,none⟩) (s.tc.length+1) cap},h4,ia,ic,e,h2.below bb⟩,Nat.le_trans le bb.size⟩,bb⟩
theorem DIo.appS (h:DIo B W b c P s og op l)(x:Fr):∃q ta tk,DBx W b (dxOf c P s q og op)∧W.cell? ⟨b,22,none⟩=some (.slice ta s.st.length tk)∧(∀V,Below W.heap.size W V→V.ownsRow B 144 18 (.slice ta s.st.length tk) s.st.length (s.st.flatMap Fr.vals))∧∀V W2 g cap,Below W.heap.size W V→W2.ownsRow B 144 18 (.slice (some ⟨g,0,none⟩) (s.st.length+1) cap) (s.st.length+1) (s.st.flatMap Fr.vals++x.vals)→V.grownBy W2 (Value.slice ta s.st.length tk).ownBlock→((Value.slice ta s.st.length tk).ownBlock=some g∨g=V.heap.size)→DBx W2 b (dxOf c P s q og op)∧(∀o∈l,o.In W2)∧DIo B (W2.setCell ⟨b,22,none⟩ (.slice (some ⟨g,0,none⟩) (s.st.length+1) cap)) b c P {s with st:=s.st++[x]} og op l∧Below B W (W2.setCell ⟨b,22,none⟩ (.slice (some ⟨g,0,none⟩) (s.st.length+1) cap)):=by
 obtain⟨⟨q,h1,ia,ic,e,h2⟩,le⟩:=h;have hb:=h1.ins (dbOb b (dxOf c P s q og op)) (by simp[dobs]);have hO:W.ownsRow B 144 18 q.sv s.st.length (s.st.flatMap Fr.vals):=h1.ins (rowOb B 144 18 q.sv s.st.length (s.st.flatMap Fr.vals)) (by simp[dobs]);obtain⟨ta,tk,etv⟩:=own_slZ hO;refine⟨q,ta,tk,hb,by rw[←etv];exact hb.at_ 22 (by omega),fun V g=>by rw[←etv];exact own_keep hO (Kp.of_below (S:=fun _=>False) g) (fun _ _ r=>r),fun V W2 g cap g1 hown gr hg=>?_⟩;rw[←etv]at gr hg;have leV:=Nat.le_trans le g1.size;have hk:=kp_grown gr;have h3:=sep_change (l1:=[dbOb b (dxOf c P s q og op)]) (o:=rowOb B 144 18 q.sv s.st.length (s.st.flatMap Fr.vals)) (o':=rowOb B 144 18 (.slice (some ⟨g,0,none⟩) (s.st.length+1) cap) (s.st++[x]).length ((s.st++[x]).flatMap Fr.vals)) (l2:=rowOb B 5 1 q.mv 65536 (mV s.m)::ouOb B q.ov_ s.out::tcOb B q.tv s.tc::giOb B q.iv s.inp::l) (h1.gr g1) (by
  show W2.ownsRow B _ 18 _ (s.st++[x]).length ((s.st++[x]).flatMap Fr.vals);rw[List.length_append,List.flatMap_append];simpa using hown) hk (fun k r=>by
  have e:g=k:=by simpa [ouOb,tcOb,rowOb,Value.ownBlock]using r
  rcases hg with u|u
  ·exact .inl (e▸u)
  ·exact .inr (by omega)) leV
 have b1:=sep_below (l1:=[dbOb b (dxOf c P s q og op)]) (o:=rowOb B 144 18 q.sv s.st.length (s.st.flatMap Fr.vals)) (l2:=rowOb B 5 1 q.mv 65536 (mV s.m)::ouOb B q.ov_ s.out::tcOb B q.tv s.tc::giOb B q.iv s.inp::l) (h1.gr g1) hk leV;obtain⟨h4,b2⟩:=sep_dbox (x':=dxOf c P {s with st:=s.st++[x]} {q with sv:=.slice (some ⟨g,0,none⟩) (s.st.length+1) cap} og op) h3 (.slice (some ⟨g,0,none⟩) (s.st.length+1) cap) 22 (fun q=>q.sv _) (Nat.le_trans leV b1.size);have bb:Below B W (W2.setCell ⟨b,22,none⟩ (.slice (some ⟨g,0,none⟩) (s.st.length+1) cap)):=(g1.mono le).trans (b1.trans b2);exact⟨h3.ins (dbOb b (dxOf c P s q og op)) (by simp),fun o ho=>h3.ins o (by simp[ho]),⟨⟨{q with sv:=.slice (some ⟨g,0,none⟩) (s.st.length+1) cap},h4,ia,ic,e,h2.below bb⟩,Nat.le_trans le bb.size⟩,bb⟩
end
theorem dout (B:Nat)(W0:World)(b:Nat)(c:Dc)(P:Pr)(s:Fm)(og op:Nat)(l:List Ob)(ia ib ic:Nat)(imm:Int)(h:DIo B W0 b c P s og op l)(ha:ia<16)(hl:s.out.length≤1000000)(hp:s.p≤1000000):
 Calls Tryz.prog 56 #[.pointer (some ⟨b,0,none⟩),.agg #[.int .u8 30,.int .i64 ia,.int .i64 ib,.int .i64 ic,.int .u64 imm]] W0 fun x w'=>x=.returned (.tuple #[])∧DIo B w' b c P ({s with out:=s.out++[s.r ia],p:=s.p+1}) og op l∧Below B W0 w':=by
 have h2:=ζ (h.new #[.int .u8 30,.int .i64 ia,.int .i64 ib,.int .i64 ic,.int .u64 imm] 53);clear h;go_enter Tryz.func56,Tryz.ntmps56;go_upto_region 1 with fail
 refine wp_world (fun W=>DIo B W b c P s og op (boxOb W0.heap.size #[.int .u8 30,.int .i64 ia,.int .i64 ib,.int .i64 ic,.int .u64 imm]::l)∧Below B W0 W) h2.out ?_;rintro W ⟨h,hB⟩;replace h:=ζ h;replace hB:=ζ hB;clear h2;generalize W0.heap.size=kb at*;have KS:=xk2 30 ia ib ic imm kb;have k0:W.cell? ⟨kb,0,none⟩=some (.int .u8 30):=(h.out.there (boxOb kb #[.int .u8 30,.int .i64 ia,.int .i64 ib,.int .i64 ic,.int .u64 imm]) (.head _)).2.1 0;have hleW:=h.out.le;obtain⟨q,ta,tk,hq,c25,hO2,hap⟩:=h.out.appO (s.r ia);have hlt:=hq.lt;have KS2:Hz (∀V,Gr W V→(V.cell? ⟨kb,1,none⟩=some (.int .i64 ia))∧V.cell? ⟨b,6+ia,none⟩=some (.int .u64 (s.r ia))):=ζ (fun V g=>⟨((h.out.there (boxOb kb #[.int .u8 30,.int .i64 ia,.int .i64 ib,.int .i64 ic,.int .u64 imm]) (.head _)).gr g).2.1 1,((hq.gr g).at_ (6+ia) (by omega)).trans (congrArg some (Dx.reg _ ia ha))⟩);have KS3:Hz (∀V (s':Fm),s'.r=s.r→DIo B V b c P s' og op (boxOb kb #[.int .u8 30,.int .i64 ia,.int .i64 ib,.int .i64 ic,.int .u64 imm]::l)→(V.cell? ⟨kb,1,none⟩=some (.int .i64 ia))∧V.cell? ⟨b,6+ia,none⟩=some (.int .u64 (s.r ia))):=ζ (fun V s' es g=>⟨(show At V kb _ from g.there (boxOb kb #[.int .u8 30,.int .i64 ia,.int .i64 ib,.int .i64 ic,.int .u64 imm]) (.head _)).2.1 1,by obtain⟨q9,h9⟩:=g.box;rw[←es];exact(h9.at_ (6+ia) (by omega)).trans (congrArg some (Dx.reg _ ia ha))⟩)
 replace hq:=ζ hq;replace hO2:=ζ hO2;replace hap:=ζ hap;have ri:(ia:Int)<16:=by omega
 generalize s.out.map u64I=xs at*;go_upto_region 14 with fail
 clear k0;have g0:Gr W W.drew:=(Gr.refl W).drew;refine wp_region_held_drew (S:=(fun W=>(W.cell? ⟨kb,1,none⟩=some (.int .i64 ia))∧W.cell? ⟨b,6+ia,none⟩=some (.int .u64 (s.r ia)))) (by kernel_rfl) (KS2.out _ g0) (fun hHeld=>?_);refine xz 0 rfl (h:=xz 1 rfl (h:=xz 2 rfl (h:=xz 3 rfl (h:=xz 5 rfl (h:=xz 6 rfl (h:=xz 7 rfl (h:=xz 8 rfl (h:=xz 9 rfl (h:=xz 10 rfl (h:=xz 11 rfl (h:=?_)))))))))));try simp only[xap]
 refine wpAnyH_ready (rs:=[4,12]) (by kernel_rfl) (by simp) ?_;refine(xcn rfl (fun K hK=>?_) (xcn rfl (fun K hK=>?_) AllReadyH.nil))
 ·skip
  have c4:W.drew.cell? ⟨b,25,none⟩=some (.slice ta s.out.length tk):=(T.cell_of_block (g0.below.block b hlt) _).trans c25;go_simp;clear hHeld;refine hK.out _ _ (KS2.out _ g0) (fun hHeld=>?_);clear hK K c4;try simp only[xap]
  refine xrd 12 rfl (fun K hK=>?_);go_simp;have hX:At ((W.alloc (.cells #[.int .u64 (s.r ia)] 51)).drew) W.heap.size #[.int .u64 (s.r ia)]:=At.new W.drew #[.int .u64 (s.r ia)] 51;have g1:Gr W ((W.alloc (.cells #[.int .u64 (s.r ia)] 51)).drew):=g0.alloc _;clear hHeld;generalize hVV:(W.alloc (.cells #[.int .u64 (s.r ia)] 51)).drew=V1 at*;clear hVV g0;generalize W.heap.size=kX at hX ⊢;refine hK.out _ _ (KS2.out _ g1) (fun hHeld=>?_);clear hK K;try simp only[xap]
  refine xrd 13 rfl (fun K hK=>?_);refine wp_append_z _ _ 26 51 (.int .u64 0) 1 8 rfl Tryz.underlying26 (by kernel_rfl) (by kernel_rfl) (by decide) (by decide) B (.slice ta s.out.length tk) s.out.length xs [.int .u64 (s.r ia)] (by rfl) (hO2.out V1 g1.below) kX (by rfl) hX rfl (by simp[Value.oneCell']) hl (Nat.le_trans hleW g1.below.size) ?_;intro g cap W2 k1 k2 k3;obtain⟨hq2,hA2,hM,hBe⟩:=hap.out V1 W2 g cap g1.below k1 k2 k3;have cu:W2.cell? ⟨b,25,none⟩=some _:=hq2.at_ 25 (by omega);have fu:=hq2.fr 25;have hlt2:=hq2.lt;have S9:Hz ((W2.cell? ⟨kb,1,none⟩=some (.int .i64 ia))∧W2.cell? ⟨b,6+ia,none⟩=some (.int .u64 (s.r ia))):=ζ ⟨(show At W2 kb _ from hA2 (boxOb kb #[.int .u8 30,.int .i64 ia,.int .i64 ib,.int .i64 ic,.int .u64 imm]) (.head _)).2.1 1,(hq2.at_ (6+ia) (by omega)).trans (congrArg some (Dx.reg _ ia ha))⟩;replace hM:=ζ hM;clear k1 k2 k3 hHeld hq2 hA2;refine hK.out _ _ S9.out (fun hHeld=>?_)
  clear hK K;try simp only[xap]
  refine xz 14 rfl (h:=xz 15 rfl (h:=?_));try simp only[xap]
  refine xrd 16 rfl (fun K hK=>?_);go_simp;clear hHeld;have S8:Hz (_∧_):=ζ (KS3.out _ {s with out:=s.out++[s.r ia]} rfl hM.out);refine hK.out _ _ S8.out (fun hHeld=>?_);clear hK K;try simp only[Act.put]
  refine xdn ?_ _;clear hHeld;replace hB:=ζ (hB.out.trans hBe);generalize World.setCell _ _ _=V2 at*;have h:=hM;clear hM;have c5:V2.cell? ⟨b,5,none⟩=some (.int .i64 s.p):=by obtain⟨q,hq⟩:=h.out.box;exact hq.at_ 5 (by omega)
  have f5:V2.frozen? ⟨b,5,none⟩=false:=by obtain⟨q,hq⟩:=h.out.box;exact hq.fr 5
  have hlt:b<V2.heap.size:=by obtain⟨q,hq⟩:=h.out.box;exact hq.lt
  have hw5:wrap64 ((s.p:Int)+1)=(s.p:Int)+1:=by unfold wrap64;omega
  have hpc:=ζ h.out.pc;go_wp2_with fail
  first|go_end0|((try simp only[Exit.inBlock,Exit.then]);refine xre ?_)
  refine⟨rfl,hpc.out.1.drop,hB.out.trans hpc.out.2⟩
 ·skip
  go_simp;have hX:At ((W.alloc (.cells #[.int .u64 (s.r ia)] 51)).drew) W.heap.size #[.int .u64 (s.r ia)]:=At.new W.drew #[.int .u64 (s.r ia)] 51;have g1:Gr W ((W.alloc (.cells #[.int .u64 (s.r ia)] 51)).drew):=g0.alloc _;clear hHeld;generalize hVV:(W.alloc (.cells #[.int .u64 (s.r ia)] 51)).drew=V1 at*;clear hVV g0;generalize W.heap.size=kX at hX ⊢;refine hK.out _ _ (KS2.out _ g1) (fun hHeld=>?_);clear hK K;try simp only[xap]
  refine xrd 4 rfl (fun K hK=>?_);have c4:V1.cell? ⟨b,25,none⟩=some (.slice ta s.out.length tk):=(T.cell_of_block (g1.below.block b hlt) _).trans c25;go_simp;clear hHeld;refine hK.out _ _ (KS2.out _ g1) (fun hHeld=>?_);clear hK K c4;try simp only[xap]
  refine xrd 13 rfl (fun K hK=>?_);refine wp_append_z _ _ 26 51 (.int .u64 0) 1 8 rfl Tryz.underlying26 (by kernel_rfl) (by kernel_rfl) (by decide) (by decide) B (.slice ta s.out.length tk) s.out.length xs [.int .u64 (s.r ia)] (by rfl) (hO2.out V1 g1.below) kX (by rfl) hX rfl (by simp[Value.oneCell']) hl (Nat.le_trans hleW g1.below.size) ?_;intro g cap W2 k1 k2 k3;obtain⟨hq2,hA2,hM,hBe⟩:=hap.out V1 W2 g cap g1.below k1 k2 k3;have cu:W2.cell? ⟨b,25,none⟩=some _:=hq2.at_ 25 (by omega);have fu:=hq2.fr 25;have hlt2:=hq2.lt;have S9:Hz ((W2.cell? ⟨kb,1,none⟩=some (.int .i64 ia))∧W2.cell? ⟨b,6+ia,none⟩=some (.int .u64 (s.r ia))):=ζ ⟨(show At W2 kb _ from hA2 (boxOb kb #[.int .u8 30,.int .i64 ia,.int .i64 ib,.int .i64 ic,.int .u64 imm]) (.head _)).2.1 1,(hq2.at_ (6+ia) (by omega)).trans (congrArg some (Dx.reg _ ia ha))⟩;replace hM:=ζ hM;clear k1 k2 k3 hHeld hq2 hA2;refine hK.out _ _ S9.out (fun hHeld=>?_)
  clear hK K;try simp only[xap]
  refine xz 14 rfl (h:=xz 15 rfl (h:=?_));try simp only[xap]
  refine xrd 16 rfl (fun K hK=>?_);go_simp;clear hHeld;have S8:Hz (_∧_):=ζ (KS3.out _ {s with out:=s.out++[s.r ia]} rfl hM.out);refine hK.out _ _ S8.out (fun hHeld=>?_);clear hK K;try simp only[Act.put]
  refine xdn ?_ _;clear hHeld;replace hB:=ζ (hB.out.trans hBe);generalize World.setCell _ _ _=V2 at*;have h:=hM;clear hM;have c5:V2.cell? ⟨b,5,none⟩=some (.int .i64 s.p):=by obtain⟨q,hq⟩:=h.out.box;exact hq.at_ 5 (by omega)
  have f5:V2.frozen? ⟨b,5,none⟩=false:=by obtain⟨q,hq⟩:=h.out.box;exact hq.fr 5
  have hlt:b<V2.heap.size:=by obtain⟨q,hq⟩:=h.out.box;exact hq.lt
  have hw5:wrap64 ((s.p:Int)+1)=(s.p:Int)+1:=by unfold wrap64;omega
  have hpc:=ζ h.out.pc;go_wp2_with fail
  first|go_end0|((try simp only[Exit.inBlock,Exit.then]);refine xre ?_)
  refine⟨rfl,hpc.out.1.drop,hB.out.trans hpc.out.2⟩
theorem DBx.rgs {w:World}{a:Nat}{x:Dx}(h:DBx w a x)(r:Nat→Int):DBx (w.setCells a 6 (regs r)) a {x with r:=r}:=by
 have hth:∀j,j<16→(w.cell? ⟨a,6+j,none⟩).isSome=true:=fun j hj=>by rw[h.at_ (6+j) (by omega)];rfl
 have hin:∀j (hj:j<(regs r).length),(w.setCells a 6 (regs r)).cell? ⟨a,6+j,none⟩=some (regs r)[j]:=World.cell?_setCells_in a (regs r) 6 w (fun j hj=>hth j (by rwa [regs_len]at hj));have hout:∀j,j<6∨22≤j→(w.setCells a 6 (regs r)).cell? ⟨a,j,none⟩=w.cell? ⟨a,j,none⟩:=fun j hj=>World.cell?_setCells_out a (regs r) 6 w ⟨a,j,none⟩ (fun _ _=>by rw[regs_len];omega)
 have ho:∀j,j<32→(j<6∨22≤j)→({x with r:=r}:Dx).at j=x.at j→(w.setCells a 6 (regs r)).cell? ⟨a,j,none⟩=some (({x with r:=r}:Dx).at j):=fun j h1 h2 h3=>by rw[hout j h2,h3];exact h.at_ j h1
 refine⟨by rw[setCells_size];exact h.lt,dx_cases (P:=fun j=>(w.setCells a 6 (regs r)).cell? ⟨a,j,none⟩=some (({x with r:=r}:Dx).at j)) (ho 0 (by omega) (by omega) rfl) (ho 1 (by omega) (by omega) rfl) (ho 2 (by omega) (by omega) rfl) (ho 3 (by omega) (by omega) rfl) (ho 4 (by omega) (by omega) rfl) (ho 5 (by omega) (by omega) rfl) (fun i hi=>?_) (ho 22 (by omega) (by omega) rfl) (ho 23 (by omega) (by omega) rfl) (ho 24 (by omega) (by omega) rfl) (ho 25 (by omega) (by omega) rfl) (ho 26 (by omega) (by omega) rfl) (ho 27 (by omega) (by omega) rfl) (ho 28 (by omega) (by omega) rfl) (ho 29 (by omega) (by omega) rfl) (ho 30 (by omega) (by omega) rfl) (ho 31 (by omega) (by omega) rfl),fun j=>by rw[World.frozen?_setCells];exact h.fr j⟩;have:=hin i (by rw[regs_len];exact hi);rw[this,Dx.reg _ i hi];have e:=regs_at r i hi;rw[List.getElem?_eq_getElem (by rw[regs_len];exact hi)]at e;exact e
section
variable {B:Nat} {W:World} {b:Nat} {c:Dc} {P:Pr} {s:Fm} {og op:Nat} {l:List Ob}
theorem DIo.rgs (h:DIo B W b c P s og op l)(r:Nat→Int):DIo B (W.setCells b 6 (Z.regs r)) b c P {s with r:=r} og op l∧Below B W (W.setCells b 6 (Z.regs r))∧W.there b 6 16:=by
 obtain⟨⟨q,h1,ia,ic,e,h2⟩,le⟩:=h;have hb:DBx W b (dxOf c P s q og op):=h1.ins (dbOb b (dxOf c P s q og op)) (by simp[dobs]);have hk:=kp_setsZ W b (Z.regs r) 6;have h3:=sep_change (l1:=[]) (o:=dbOb b (dxOf c P s q og op)) (o':=dbOb b (dxOf c P {s with r:=r} q og op)) h1 (hb.rgs r) hk (fun _ r=>.inl r) le;have bb:=sep_below (l1:=[]) (o:=dbOb b (dxOf c P s q og op)) h1 hk le;exact⟨⟨⟨q,h3,ia,ic,e,h2.below bb⟩,Nat.le_trans le bb.size⟩,bb,fun j hj=>⟨by rw[hb.at_ (6+j) (by omega)];rfl,hb.fr _⟩⟩
theorem DIo.gate (h:DIo B W b c P s og op l)(n:Nat):DIo B (W.setCell ⟨b,4,none⟩ (.int .i64 n)) b c P {s with g:=n} og op l∧Below B W (W.setCell ⟨b,4,none⟩ (.int .i64 n)):=
 h.put 4 _ ⟨rfl,rfl,rfl,rfl,rfl⟩ (fun _ q=>q.g_ n)
theorem DIo.pcs (h:DIo B W b c P s og op l)(n:Nat):DIo B (W.setCell ⟨b,5,none⟩ (.int .i64 n)) b c P {s with p:=n} og op l∧Below B W (W.setCell ⟨b,5,none⟩ (.int .i64 n)):=
 h.put 5 _ ⟨rfl,rfl,rfl,rfl,rfl⟩ (fun _ q=>q.p_ n)
end
theorem regsA_one (r:Nat→Int):(regs r).toArray.all (fun x=>x.oneCell')=true:=by
 rw[Array.all_eq_true_iff_forall_mem];intro u hu;exact regs_one r u (by simpa using hu)
theorem regs_set (r:Nat→Int)(i:Nat)(hi:i<16)(n:Int):(regs r).set i (.int .u64 n)=regs (updR r i n):=by
 apply List.ext_getElem?;intro j;by_cases hj:j<16
 ·rw[regs_at _ j hj];by_cases q:i=j
  ·subst q;rw[List.getElem?_set_self (by rw[regs_len];exact hi)];unfold updR;rw[if_pos rfl]
  ·rw[List.getElem?_set_ne q,regs_at _ j hj];unfold updR;rw[if_neg (Ne.symm q)]
 ·rw[List.getElem?_eq_none (by rw[List.length_set,regs_len];omega),List.getElem?_eq_none (by rw[regs_len];omega)]
theorem at_regs {w:World}{k:Nat}{r:Nat→Int}(h:At w k (regs r).toArray)(i:Nat)(hi:i<16)(n:Int):At (w.setCell ⟨k,i,none⟩ (.int .u64 n)) k (regs (updR r i n)).toArray:=by
 have e:(regs (updR r i n)).toArray=(regs r).toArray.setIfInBounds i (.int .u64 n):=by
  rw[←regs_set r i hi n,List.setIfInBounds_toArray]
 rw[e];exact h.set i _ (by simp[regs_len,hi])
theorem entR_next (g:Fg)(A:Nat→Int)(j:Nat):entR g (j+1) A=updR (entR g j A) (j+1) (A j):=by
 funext k
 unfold updR entR;by_cases e:k=j+1
 ·subst e;rw[if_pos ⟨by omega,by omega⟩,if_pos rfl,Nat.add_sub_cancel]
 ·rw[if_neg e];by_cases q:1≤k∧k≤j
  ·rw[if_pos q,if_pos ⟨q.1,by omega⟩]
  ·rw[if_neg q,if_neg (by omega)]
theorem entR_zero (g:Fg)(A:Nat→Int):entR g 0 A=g.r:=by
 funext k
 unfold entR;rw[if_neg (by omega)]
theorem denter (B:Nat)(W0:World)(b:Nat)(c:Dc)(P:Pr)(s:Fm)(og op:Nat)(l:List Ob)(h:DIo B W0 b c P s og op l)(k gb go:Nat)(hk:k<P.gates.length)(hga:c.ga=some ⟨gb,go,none⟩)(hgbB:gb<B)(hgr:W0.rangeAt gb (go+k*19) P.gates[k].vals)(hga7:P.gates[k].a≤7)(f:Nat→Int):
 Calls Tryz.prog 48 #[.pointer (some ⟨b,0,none⟩),.int .i64 k,.agg (regs f).toArray] W0 fun x w'=>x=.returned (.tuple #[])∧DIo B w' b c P {s with r:=entR P.gates[k] P.gates[k].a (fun j=>f (j+1)),g:=k,p:=P.gates[k].e} og op l∧Below B W0 w':=by
 have hgb:gb<W0.heap.size:=Nat.lt_of_lt_of_le hgbB h.le;have c1:W0.cell? ⟨b,1,none⟩=some (.slice (some ⟨gb,go,none⟩) P.gates.length c.gc):=by obtain⟨q,hq⟩:=h.box;exact(hq.at_ 1 (by omega)).trans (congrArg some (by show Value.slice c.ga _ _=_;rw[hga]))
 have hbl:b<W0.heap.size:=by obtain⟨q,hq⟩:=h.box;exact hq.lt
 have hki:(k:Int)<(P.gates.length:Int):=by omega
 replace h:=ζ h;replace hga:=ζ hga;replace hgr:=ζ hgr;have hS0:Hz (W0.heap.size≤W0.heap.size):=ζ (Nat.le_refl _);obtain⟨g,hgg⟩:∃g,P.gates[k]=g:=⟨_,rfl⟩;rw[hgg];have hgr0:Hz (W0.rangeAt gb (go+k*19) g.vals):=ζ (by rw[←hgg];exact hgr.out);have ha7:g.a≤7:=by rw[←hgg];exact hga7
 clear hgr hgg hga7;obtain⟨A,hA⟩:∃A:Nat→Int,(fun j=>f (j+1))=A:=⟨_,rfl⟩;rw[hA];have hAm:Hz (∀m,1≤m→A (m - 1)=f m):=ζ (fun m hm=>by rw[←hA];show f (m - 1+1)=f m;rw[Nat.sub_add_cancel hm]);clear hA;obtain⟨r1,hr1⟩:∃r,entR g g.a A=r:=⟨_,rfl⟩;rw[hr1];replace hr1:=ζ hr1;go_enter Tryz.func48,Tryz.ntmps48;go_upto_region 1 with fail
 refine wp_world (fun X=>At X W0.heap.size (regs f).toArray∧Gr W0 X) ⟨At.new W0 _ _,(Gr.refl _).alloc _⟩ ?_;rintro W ⟨hAf,G⟩;have hgr1:Hz (W.rangeAt gb (go+k*19) g.vals):=ζ (fun j v q=>(T.cell_of_block (G.below.block gb hgb) _).trans (hgr0.out j v q));have hf0:W0.heap.size≤W0.heap.size:=Nat.le_refl _;have hWs:W0.heap.size≤W.heap.size:=G.below.size;generalize hkf:W0.heap.size=kf at hAf hf0 ⊢;replace hAf:=ζ hAf;have d1:W.cell? ⟨b,1,none⟩=some (.slice (some ⟨gb,go,none⟩) P.gates.length c.gc):=(T.cell_of_block (G.below.block b hbl) _).trans c1;refine wp_region_lit ?_;iterate 7 (refine xp fun K hK=>?_;go_simp;with_reducible refine hK _ _ ?_;clear hK K;(try simp only[xap]))
 refine xp fun K hK=>?_
 refine wp_load_mid _ _ rfl _ (go+k*19) rfl g.vals _ hgr1.out Tryz.underlying70 rfl (by rw[Fg.len];kernel_rfl) (hK _ _ ?_);clear hK K;try simp only[xap]
 refine xp fun K hK=>?_
 go_simp;with_reducible refine hK _ _ ?_
 clear hK K;try simp only[xap]
 have hA7:At (W.alloc (.cells (List.toArray [Value.int .i64 0,.int .i64 0,.int .i64 0,.int .u64 0,.int .u64 0,.int .u64 0,.int .u64 0,.int .u64 0,.int .u64 0,.int .u64 0,.int .u64 0,.int .u64 0,.int .u64 0,.int .u64 0,.int .u64 0,.int .u64 0,.int .u64 0,.int .u64 0,.int .u64 0]) 70)) W.heap.size (List.toArray [Value.int .i64 0,.int .i64 0,.int .i64 0,.int .u64 0,.int .u64 0,.int .u64 0,.int .u64 0,.int .u64 0,.int .u64 0,.int .u64 0,.int .u64 0,.int .u64 0,.int .u64 0,.int .u64 0,.int .u64 0,.int .u64 0,.int .u64 0,.int .u64 0,.int .u64 0]):=At.new W _ _;have hth:=ζ (At.there hA7 0 19 (by decide));have hA8:=ζ (At.setAll hA7 g.vals (by rw[Fg.len];rfl));have g8:=ζ (Gr.setCells ((Gr.refl W).alloc (.cells (List.toArray [Value.int .i64 0,.int .i64 0,.int .i64 0,.int .u64 0,.int .u64 0,.int .u64 0,.int .u64 0,.int .u64 0,.int .u64 0,.int .u64 0,.int .u64 0,.int .u64 0,.int .u64 0,.int .u64 0,.int .u64 0,.int .u64 0,.int .u64 0,.int .u64 0,.int .u64 0]) 70)) W.heap.size (Nat.le_refl _) g.vals 0)
 clear hA7;refine xp fun K hK=>?_
 refine wp_store_mid _ _ _ rfl _ _ (List.toArray g.vals) rfl rfl (show World.there _ _ _ _ by simpa [Fg.len]using hth.out) (by rw[List.size_toArray,Fg.len];kernel_rfl) (Fg.one _) (hK _ _ ?_);clear hK K;try simp only[Act.put]
 generalize hVx:((W.alloc (.cells (List.toArray [Value.int .i64 0,.int .i64 0,.int .i64 0,.int .u64 0,.int .u64 0,.int .u64 0,.int .u64 0,.int .u64 0,.int .u64 0,.int .u64 0,.int .u64 0,.int .u64 0,.int .u64 0,.int .u64 0,.int .u64 0,.int .u64 0,.int .u64 0,.int .u64 0,.int .u64 0]) 70)).setCells W.heap.size 0 g.vals)=W1 at*;clear hVx hth;have hs8:W.heap.size<W1.heap.size:=hA8.out.1;generalize hk9:W.heap.size=kq at hA8 hs8 ⊢;have hAq:=hA8;replace hAf:=ζ (hAf.out.gr g8.out);replace G:=G.trans g8.out;have hq1:kq<W1.heap.size:=hs8;have hf1:kf<W1.heap.size:=hAf.out.1;clear hA8 g8 hgr1 hs8 d1 c1;have hq0:W0.heap.size≤kq:=by rw[←hk9];exact hWs
 clear hk9;have hrg:Hz (W1.rangeAt kq 3 (regs g.r)):=ζ (fun j v q=>by
  have:=hAq.out.range (3+j) v (by rw[show 3+j=j+1+1+1 by omega];exact q)
  rwa [Nat.zero_add]at this)
 go_upto_region 2 with fail;refine wp_region_lit ?_;refine xp fun K hK=>?_
 go_simp;with_reducible refine hK _ _ ?_
 clear hK K;try simp only[xap]
 refine xp fun K hK=>?_
 refine wp_load_mid _ _ rfl _ 3 rfl (regs g.r) _ hrg.out Tryz.underlying68 rfl (by rw[regs_len];kernel_rfl) (hK _ _ ?_);clear hK K;try simp only[xap]
 refine xp fun K hK=>?_
 go_simp;with_reducible refine hK _ _ ?_
 clear hK K;try simp only[xap]
 have hA7:At (W1.alloc (.cells (List.toArray [Value.int .u64 0,.int .u64 0,.int .u64 0,.int .u64 0,.int .u64 0,.int .u64 0,.int .u64 0,.int .u64 0,.int .u64 0,.int .u64 0,.int .u64 0,.int .u64 0,.int .u64 0,.int .u64 0,.int .u64 0,.int .u64 0]) 68)) W1.heap.size (List.toArray [Value.int .u64 0,.int .u64 0,.int .u64 0,.int .u64 0,.int .u64 0,.int .u64 0,.int .u64 0,.int .u64 0,.int .u64 0,.int .u64 0,.int .u64 0,.int .u64 0,.int .u64 0,.int .u64 0,.int .u64 0,.int .u64 0]):=At.new W1 _ _;have hth:=ζ (At.there hA7 0 16 (by decide));have hA8:=ζ (At.setAll hA7 (regs g.r) (by rw[regs_len];rfl));have g8:=ζ (Gr.setCells ((Gr.refl W1).alloc (.cells (List.toArray [Value.int .u64 0,.int .u64 0,.int .u64 0,.int .u64 0,.int .u64 0,.int .u64 0,.int .u64 0,.int .u64 0,.int .u64 0,.int .u64 0,.int .u64 0,.int .u64 0,.int .u64 0,.int .u64 0,.int .u64 0,.int .u64 0]) 68)) W1.heap.size (Nat.le_refl _) (regs g.r) 0)
 clear hA7;refine xp fun K hK=>?_
 refine wp_store_mid _ _ _ rfl _ _ (List.toArray (regs g.r)) rfl rfl (show World.there _ _ _ _ by simpa [regs_len]using hth.out) (by rw[List.size_toArray,regs_len];kernel_rfl) (regsA_one _) (hK _ _ ?_);clear hK K;try simp only[Act.put]
 generalize hVx:((W1.alloc (.cells (List.toArray [Value.int .u64 0,.int .u64 0,.int .u64 0,.int .u64 0,.int .u64 0,.int .u64 0,.int .u64 0,.int .u64 0,.int .u64 0,.int .u64 0,.int .u64 0,.int .u64 0,.int .u64 0,.int .u64 0,.int .u64 0,.int .u64 0]) 68)).setCells W1.heap.size 0 (regs g.r))=W2 at*;clear hVx hth;have hs8:W1.heap.size<W2.heap.size:=hA8.out.1;generalize hk9:W1.heap.size=kr at hA8 hs8 ⊢;have hAr:=hA8;replace hAf:=ζ (hAf.out.gr g8.out);replace hAq:=ζ (hAq.out.gr g8.out);have hr0:W0.heap.size≤kr:=by omega
 have hne1:kf≠kr:=by omega
 have hne2:kq≠kr:=by omega
 replace G:=ζ (G.trans g8.out);clear hA8 g8 hrg;clear hkf hk9 hWs hf0 hs8 hq1 hf1 hS0 hgr0;have hAr0:Hz (At W2 kr (regs (entR g (1 - 1) A)).toArray):=ζ (by rw[Nat.sub_self,entR_zero];exact hAr.out);clear hAr;go_upto_region 4 with fail
 go_loopw [8] (fun x wr=>∃m:Nat,x=.int .i64 m∧1≤m∧m≤g.a+1∧Hz (At wr kr (regs (entR g (m - 1) A)).toArray)∧Hz (At wr kf (regs f).toArray)∧Hz (At wr kq g.vals.toArray)∧Hz (Gr W0 wr)) (fun x _=>g.a+2 - (intOf x).toNat)
 case atStart=>exact⟨1,rfl,Nat.le_refl _,by omega,hAr0,hAf,hAq,G⟩
 case round=>
  clear hAr0 hAf hAq G;obtain⟨m,rfl,hm1,hm2,hAr,hAf,hAq,G⟩:=hrel;have q1:wr.cell? ⟨kq,1,none⟩=some (.int .i64 g.a):=hAq.out.2.1 1;by_cases hj:m≤g.a
  ·have hle:(m:Int)≤(g.a:Int):=by omega
   have hm16:m<16:=by omega
   have hmi:(m:Int)<16:=by omega
   have cf:wr.cell? ⟨kf,m,none⟩=some (.int .u64 (f m)):=by rw[hAf.out.2.1];simpa using regs_at f m hm16
   have cr:wr.cell? ⟨kr,m,none⟩=some (.int .u64 (entR g (m - 1) A m)):=by rw[hAr.out.2.1];simpa using regs_at (entR g (m - 1) A) m hm16
   have fr:=hAr.out.2.2 m;have hlr:=hAr.out.1;have hK:=Kp.set (S:=fun k=>k=kr) wr ⟨kr,m,none⟩ (.int .u64 (f m)) rfl;have n1:Hz (At (wr.setCell ⟨kr,m,none⟩ (.int .u64 (f m))) kr (regs (entR g (m+1 - 1) A)).toArray):=ζ (by
    have q:=at_regs hAr.out m hm16 (f m);have e:=entR_next g A (m - 1);rw[Nat.sub_add_cancel hm1,hAm.out m hm1]at e;rw[Nat.add_sub_cancel,e];exact q)
   have n2:=ζ (T.at_kp hAf.out hK hne1);have n3:=ζ (T.at_kp hAq.out hK hne2);have n4:=ζ (G.out.setCell kr m (.int .u64 (f m)) hr0);clear hAr hAf hAq G hK;go_wp2_with fail;refine And.intro (Exists.intro (m+1) ⟨rfl,by omega,by omega,n1,n2,n3,n4⟩) ?_;simp[intOf];omega
  ·have hle:¬(m:Int)≤(g.a:Int):=by omega
   obtain rfl:m=g.a+1:=by omega
   rw[Nat.add_sub_cancel]at hAr;rw[hr1.out]at hAr;have hrn:=ζ hAr.out.range;obtain⟨hD,hbD,hth⟩:=(h.out.gr G.out.below).rgs r1;replace hth:=ζ hth;have hbq:kq≠b:=by omega
   have hAq1:=ζ (T.at_kp hAq.out (kp_setsZ wr b (regs r1) 6) hbq);have hB:Hz (Below B W0 (wr.setCells b 6 (regs r1))):=ζ ((G.out.below.mono h.out.le).trans hbD);replace hD:=ζ hD;clear hbD hAq hAf hAr;go_upto_region 7 with fail
   clear q1 hle;refine wp_region_lit ?_;refine xp fun K hK=>?_
   go_simp;with_reducible refine hK _ _ ?_
   clear hK K;try simp only[xap]
   refine xp fun K hK=>?_
   refine wp_load_mid _ _ rfl _ 0 rfl (regs r1) _ hrn.out Tryz.underlying68 rfl (by rw[regs_len];kernel_rfl) (hK _ _ ?_);clear hK K;try simp only[xap]
   iterate 2 (refine xp fun K hK=>?_;go_simp;with_reducible refine hK _ _ ?_;clear hK K;(try simp only[xap]))
   refine xp fun K hK=>?_
   refine wp_store_mid _ _ _ rfl _ _ (List.toArray (regs r1)) rfl rfl (show World.there _ _ _ _ by simpa [regs_len]using hth.out) (by rw[List.size_toArray,regs_len];kernel_rfl) (regsA_one _) (hK _ _ ?_);clear hK K;try simp only[Act.put]
   generalize hVx:wr.setCells b 6 (regs r1)=V1 at*;clear hVx hth hrn G;have c4:∃y,V1.cell? ⟨b,4,none⟩=some y:=by obtain⟨q,hq⟩:=hD.out.box;exact⟨_,hq.at_ 4 (by omega)⟩
   obtain⟨y4,c4⟩:=c4;have f4:V1.frozen? ⟨b,4,none⟩=false:=by obtain⟨q,hq⟩:=hD.out.box;exact hq.fr 4
   have hl4:b<V1.heap.size:=by obtain⟨q,hq⟩:=hD.out.box;exact hq.lt
   obtain⟨hD2,hb2⟩:=hD.out.gate k;have hAq2:=ζ (T.at_kp hAq1.out (Kp.set (S:=fun k=>k=b) V1 ⟨b,4,none⟩ (.int .i64 k) rfl) hbq);replace hB:=ζ (hB.out.trans hb2);replace hD2:=ζ hD2;clear hb2 hAq1;go_upto_region 9 with fail;generalize hVy:V1.setCell ⟨b,4,none⟩ (.int .i64 k)=V2 at*;clear hVy c4 f4 hl4 hD;have c5:∃y,V2.cell? ⟨b,5,none⟩=some y:=by obtain⟨q,hq⟩:=hD2.out.box;exact⟨_,hq.at_ 5 (by omega)⟩
   obtain⟨y5,c5⟩:=c5;have f5:V2.frozen? ⟨b,5,none⟩=false:=by obtain⟨q,hq⟩:=hD2.out.box;exact hq.fr 5
   have hl5:b<V2.heap.size:=by obtain⟨q,hq⟩:=hD2.out.box;exact hq.lt
   have q0:V2.cell? ⟨kq,0,none⟩=some (.int .i64 g.e):=hAq2.out.2.1 0;have hf:=ζ (hD2.out.pcs g.e);go_wp2_with fail
   first|go_end0|((try simp only[Exit.inBlock,Exit.then]);refine xre ?_)
   exact⟨rfl,hf.out.1,hB.out.trans hf.out.2⟩
theorem build_dfr (x y:Int)(r:Nat→Int)(W:World):(Instr.build 144 #[(0,.int .i64 x),(1,.int .i64 y),(2,.agg (regs r).toArray)]).run Tryz.prog W=.ok (.agg (Value.int .i64 x::.int .i64 y::regs r).toArray) W:=by kernel_rfl
theorem yields_dfr {ops:Array Oper}{S:World→Prop}{op:Oper}{a:Act}(hw:Region.wanted op (yielded ops a.tmps)=true)(x0 x1 x2:Operand)(ho:op.op=.build 144 #[(0,x0),(1,x1),(2,x2)])
 (f:Fr)(h0:a.eval x0=.int .i64 f.g)(h1:a.eval x1=.int .i64 f.p)(h2:a.eval x2=.agg (regs f.r).toArray):
 YieldsIf Tryz.prog ops S op (.agg (Fr.vals f).toArray) a:=
 .inl ⟨hw,fun w _=>by
  unfold execOp;simp only[ho,List.map_toArray,List.map_cons,List.map_nil,h0,h1,h2,build_dfr,Sem.run_bind,Sem.run_pure,Result.andThen_ok]
  rfl⟩
theorem build_dfrs (f:Fr)(W:World):(Instr.buildSlice 93 1 #[(0,.agg (Fr.vals f).toArray)]).run Tryz.prog W=.ok (.slice (some ⟨W.heap.size,0,none⟩) 1 1) (W.alloc (.cells (Fr.vals f).toArray 144)):=by kernel_rfl
theorem wp_build_dfrs {o:Oper}{a:Act}{K:Act→World→Prop}{Q:Exit→Act→World→Prop}{w:World}(x:Operand)(ho:o.op=.buildSlice 93 1 #[(0,x)])(f:Fr)(hx:a.eval x=.agg (Fr.vals f).toArray)
 (h:K (a.put o.dst (.slice (some ⟨w.heap.size,0,none⟩) 1 1)) (w.alloc (.cells (Fr.vals f).toArray 144))):o.wp Tryz.prog a w K Q:=by
 unfold Oper.wp execOp;simp only[ho,List.map_toArray,List.map_cons,List.map_nil,hx,build_dfrs,Sem.run_bind,Sem.run_pure,Result.andThen_ok];exact h
theorem DBx.rrow {w:World}{a:Nat}{x:Dx}(h:DBx w a x):w.rangeAt a 6 (regs x.r):=fun j v q=>by
 have hj:j<16:=by have:=(List.getElem?_eq_some_iff.1 q).1;rwa [regs_len]at this
 rw[h.at_ (6+j) (by omega),Dx.reg x j hj,←q,regs_at x.r j hj]
theorem DIo.hand {B:Nat}{W:World}{b:Nat}{c:Dc}{P:Pr}{s:Fm}{og op:Nat}{l:List Ob}(h:DIo B W b c P s og op l):W.cell? ⟨b,4,none⟩=some (.int .i64 s.g)∧W.cell? ⟨b,5,none⟩=some (.int .i64 s.p)∧W.rangeAt b 6 (regs s.r):=by
 obtain⟨q,hq⟩:=h.box;exact⟨hq.at_ 4 (by omega),hq.at_ 5 (by omega),hq.rrow⟩
theorem DIo.deep {B:Nat}{W:World}{b:Nat}{c:Dc}{P:Pr}{s:Fm}{og op:Nat}{l:List Ob}(h:DIo B W b c P s og op l):∃ta tk,W.cell? ⟨b,22,none⟩=some (.slice ta s.st.length tk)∧W.cell? ⟨b,3,none⟩=some (.int .i64 P.dep):=by
 obtain⟨q,ta,tk,hq,c22,_⟩:=h.appS ⟨0,0,fun _=>0⟩;exact⟨ta,tk,c22,hq.at_ 3 (by omega)⟩
theorem dfull (B:Nat)(W0:World)(b:Nat)(c:Dc)(P:Pr)(s:Fm)(og op:Nat)(l:List Ob)(ia ib ic:Nat)(imm:Int)(h:DIo B W0 b c P s og op l)(hd:P.dep≤(s.st.length:Int)):
 Calls Tryz.prog 56 #[.pointer (some ⟨b,0,none⟩),.agg #[.int .u8 31,.int .i64 ia,.int .i64 ib,.int .i64 ic,.int .u64 imm]] W0 fun x w'=>x=.returned (.tuple #[])∧DIo B w' b c P ({s with e:=5,v:=0,f:=0}) s.g s.p l∧Below B W0 w':=by
 have h2:=ζ (h.new #[.int .u8 31,.int .i64 ia,.int .i64 ib,.int .i64 ic,.int .u64 imm] 53);clear h;go_enter Tryz.func56,Tryz.ntmps56;go_upto_region 1 with fail
 refine wp_world (fun W=>DIo B W b c P s og op (boxOb W0.heap.size #[.int .u8 31,.int .i64 ia,.int .i64 ib,.int .i64 ic,.int .u64 imm]::l)∧Below B W0 W) h2.out ?_;rintro W ⟨h,hB⟩;replace h:=ζ h;replace hB:=ζ hB;clear h2;generalize W0.heap.size=kb at*;have KS:=xk2 31 ia ib ic imm kb;have k0:W.cell? ⟨kb,0,none⟩=some (.int .u8 31):=(h.out.there (boxOb kb #[.int .u8 31,.int .i64 ia,.int .i64 ib,.int .i64 ic,.int .u64 imm]) (.head _)).2.1 0;have hd1:decide (P.dep≤(s.st.length:Int))=true:=decide_eq_true hd;obtain⟨ta,tk,c22,c3⟩:=h.out.deep;go_upto_region 17 with fail
 clear k0;have gd:Gr W W.drew:=(Gr.refl W).drew;refine wp_region_held_drew (S:=(fun X=>X.cell? ⟨b,22,none⟩=some (.slice ta s.st.length tk)∧X.cell? ⟨b,3,none⟩=some (.int .i64 P.dep))) (by kernel_rfl) (⟨c22,c3⟩) (fun hHeld=>?_);refine xz 0 rfl (h:=xz 1 rfl (h:=xz 2 rfl (h:=xz 3 rfl (h:=xz 4 rfl (h:=xz 5 rfl (h:=xz 6 rfl (h:=xz 7 rfl (h:=xz 8 rfl (h:=xz 9 rfl (h:=xz 10 rfl (h:=?_)))))))))));try simp only[xap]
 refine xdn ?_ _;clear hHeld c22 c3;replace hB:=ζ (hB.out.trans (gd.below.mono h.out.le));replace h:=ζ (h.out.gr gd.below);clear gd;generalize W.drew=V at*;have hen:=ζ (h.out.onBox (s':={s with e:=5,v:=0,f:=0}) (og':=s.g) (op':=s.p) ⟨rfl,rfl,rfl,rfl,rfl⟩ (fun q hb=>dend_any b _ 5 0 0 V hb));go_wp2_with fail;refine hen.out.mono ?_;rintro r V9 ⟨rfl,h9,hB9⟩;replace hB:=ζ (hB.out.trans hB9);replace h9:=ζ h9;clear hen hB9;go_wp2_with fail
 first|go_end0|((try simp only[Exit.inBlock,Exit.then]);refine xre ?_)
 exact⟨rfl,h9.out.drop,hB.out⟩
theorem dcall (B:Nat)(W0:World)(b:Nat)(c:Dc)(P:Pr)(s:Fm)(og op:Nat)(l:List Ob)(ia ib ic:Nat)(imm:Int)(h:DIo B W0 b c P s og op l)(gn gb go:Nat)(hd:(s.st.length:Int)<P.dep)(hi:imm=(gn:Int))(hgn:gn<P.gates.length)(hg16:gn<1000)(hga:c.ga=some ⟨gb,go,none⟩)(hgbB:gb<B)(hgr:∀V,Below B W0 V→V.rangeAt gb (go+gn*19) P.gates[gn].vals)(hag:P.gates[gn].a≤7)(hsl:s.st.length≤1000000)(hp:s.p≤1000000):
 Calls Tryz.prog 56 #[.pointer (some ⟨b,0,none⟩),.agg #[.int .u8 31,.int .i64 ia,.int .i64 ib,.int .i64 ic,.int .u64 imm]] W0 fun x w'=>x=.returned (.tuple #[])∧DIo B w' b c P ({s with g:=gn,p:=P.gates[gn].e,r:=entR P.gates[gn] P.gates[gn].a (fun k=>s.r (k+1)),st:=s.st++[⟨s.g,s.p+1,s.r⟩]}) og op l∧Below B W0 w':=by
 replace hi:=ζ hi;have h2:=ζ (h.new #[.int .u8 31,.int .i64 ia,.int .i64 ib,.int .i64 ic,.int .u64 imm] 53);clear h;go_enter Tryz.func56,Tryz.ntmps56;go_upto_region 1 with fail
 refine wp_world (fun W=>DIo B W b c P s og op (boxOb W0.heap.size #[.int .u8 31,.int .i64 ia,.int .i64 ib,.int .i64 ic,.int .u64 imm]::l)∧Below B W0 W) h2.out ?_;rintro W ⟨h,hB⟩;replace h:=ζ h;replace hB:=ζ hB;clear h2;generalize W0.heap.size=kb at*;have KS:=xk2 31 ia ib ic imm kb;have k0:W.cell? ⟨kb,0,none⟩=some (.int .u8 31):=(h.out.there (boxOb kb #[.int .u8 31,.int .i64 ia,.int .i64 ib,.int .i64 ic,.int .u64 imm]) (.head _)).2.1 0;have hd1:decide (P.dep≤(s.st.length:Int))=false:=decide_eq_false (by omega);replace hga:=ζ hga;replace hgr:=ζ hgr;have hii:IntKind.i64.wrap imm=(gn:Int):=by rw[IntKind.wrap_i64];have:=hi.out;omega
 obtain⟨ta,tk,c22,c3⟩:=h.out.deep;go_upto_region 17 with fail;clear k0;have gd:Gr W W.drew:=(Gr.refl W).drew;refine wp_region_held_drew (S:=(fun X=>X.cell? ⟨b,22,none⟩=some (.slice ta s.st.length tk)∧X.cell? ⟨b,3,none⟩=some (.int .i64 P.dep))) (by kernel_rfl) (⟨c22,c3⟩) (fun hHeld=>?_);refine xz 0 rfl (h:=xz 1 rfl (h:=xz 2 rfl (h:=xz 3 rfl (h:=xz 4 rfl (h:=xz 5 rfl (h:=xz 6 rfl (h:=xz 7 rfl (h:=xz 8 rfl (h:=xz 9 rfl (h:=xz 10 rfl (h:=?_)))))))))));try simp only[xap]
 refine xdn ?_ _;clear hHeld c22 c3;replace hB:=ζ (hB.out.trans (gd.below.mono h.out.le));replace h:=ζ (h.out.gr gd.below);clear gd;generalize W.drew=V at*;have hleW:=h.out.le;obtain⟨q,ta,tk,hq,c22,hO2,hap⟩:=h.out.appS ⟨s.g,s.p+1,s.r⟩;have hlt:=hq.lt;clear hq;replace hO2:=ζ hO2;replace hap:=ζ hap;have hw5:IntKind.i64.wrap ((s.p:Int)+1)=(s.p:Int)+1:=by rw[IntKind.wrap_i64];omega
 generalize s.st.flatMap Fr.vals=xs at*;go_upto_region 19 with fail
 have g0:Gr V V.drew:=(Gr.refl V).drew;refine wp_region_held_drew (S:=(fun X=>X.cell? ⟨b,4,none⟩=some (.int .i64 s.g)∧X.cell? ⟨b,5,none⟩=some (.int .i64 s.p)∧X.rangeAt b 6 (regs s.r))) (by kernel_rfl) ((h.out.gr g0.below).hand) (fun hHeld=>?_);refine xz 0 rfl (h:=xz 1 rfl (h:=xz 2 rfl (h:=xz 3 rfl (h:=xz 5 rfl (h:=xz 6 rfl (h:=xz 7 rfl (h:=xz 8 rfl (h:=xz 9 rfl (h:=xz 10 rfl (h:=xz 11 rfl (h:=xz 12 rfl (h:=?_))))))))))));try simp only[xap]
 refine xtk 13 (v:=.int .i64 ((s.p:Int)+1)) rfl (Or.inl ⟨by rfl,?_⟩) ?_
 ·intro w hSw;(try dsimp only at hSw);go_simp;first|done|(rw[hw5])
 try simp only[xap]
 refine xz 14 rfl (h:=xz 15 rfl (h:=xz 16 rfl (h:=?_)));try simp only[xap]
 refine xtk 17 rfl (yieldsIf_load_mid (by rfl) _ _ rfl _ _ rfl _ _ (fun _ h=>h.2.2) Tryz.underlying68 rfl (by rw[regs_len];kernel_rfl)) ?_;try simp only[xap]
 refine xtk 18 rfl (yields_dfr (by rfl) _ _ _ rfl ⟨s.g,s.p+1,s.r⟩ (by rfl) (by rfl) (by rfl)) ?_;try simp only[xap]
 refine wpAnyH_ready (rs:=[4,19]) (by kernel_rfl) (by simp) ?_;refine(xcn rfl (fun K hK=>?_) (xcn rfl (fun K hK=>?_) AllReadyH.nil))
 ·skip
  have c4:V.drew.cell? ⟨b,22,none⟩=some (.slice ta s.st.length tk):=(T.cell_of_block (g0.below.block b hlt) _).trans c22;go_simp;clear hHeld;refine hK.out _ _ ((h.out.gr g0.below).hand) (fun hHeld=>?_);clear hK K c4;try simp only[xap]
  refine xrd 19 rfl (fun K hK=>?_);rw[if_pos (by rfl)];refine wp_build_dfrs _ rfl ⟨s.g,s.p+1,s.r⟩ (by rfl) ?_;clear hHeld;have hX:At (V.drew.alloc (.cells (Fr.vals ⟨s.g,s.p+1,s.r⟩).toArray 144)) V.drew.heap.size (Fr.vals ⟨s.g,s.p+1,s.r⟩).toArray:=At.new V.drew _ _;have g1:Gr V (V.drew.alloc (.cells (Fr.vals ⟨s.g,s.p+1,s.r⟩).toArray 144)):=g0.alloc _;generalize hVV:V.drew.alloc (.cells (Fr.vals ⟨s.g,s.p+1,s.r⟩).toArray 144)=Q1 at*;clear hVV g0;generalize V.drew.heap.size=kX at hX ⊢;refine hK.out _ _ ((h.out.gr g1.below).hand) (fun hHeld=>?_);clear hK K;try simp only[xap]
  refine xrd 20 rfl (fun K hK=>?_);refine wp_append_z _ _ 93 144 (.agg (List.toArray [Value.int .i64 0,.int .i64 0,.int .u64 0,.int .u64 0,.int .u64 0,.int .u64 0,.int .u64 0,.int .u64 0,.int .u64 0,.int .u64 0,.int .u64 0,.int .u64 0,.int .u64 0,.int .u64 0,.int .u64 0,.int .u64 0,.int .u64 0,.int .u64 0])) 18 144 rfl Tryz.underlying93 (by kernel_rfl) (by kernel_rfl) (by decide) (by decide) B (.slice ta s.st.length tk) s.st.length xs (Fr.vals ⟨s.g,s.p+1,s.r⟩) (by rfl) (hO2.out Q1 g1.below) kX (by rfl) hX (Fr.len _) (fun u hu=>Array.all_eq_true_iff_forall_mem.1 (Fr.one ⟨s.g,s.p+1,s.r⟩) u (by simpa using hu)) hsl (Nat.le_trans hleW g1.below.size) ?_;intro g cap W2 k1 k2 k3;obtain⟨hq2,hA2,hM,hBe⟩:=hap.out Q1 W2 g cap g1.below k1 k2 k3;have cu:W2.cell? ⟨b,22,none⟩=some _:=hq2.at_ 22 (by omega);have fu:=hq2.fr 22;have hlt2:=hq2.lt;have S9:Hz (W2.cell? ⟨b,4,none⟩=some (.int .i64 s.g)∧W2.cell? ⟨b,5,none⟩=some (.int .i64 s.p)∧W2.rangeAt b 6 (regs s.r)):=ζ ⟨hq2.at_ 4 (by omega),hq2.at_ 5 (by omega),hq2.rrow⟩
  replace hM:=ζ hM;clear k1 k2 k3 hHeld hq2 hA2;refine hK.out _ _ S9.out (fun hHeld=>?_);clear hK K;try simp only[xap]
  refine xz 21 rfl (h:=xz 22 rfl (h:=?_));try simp only[xap]
  refine xrd 23 rfl (fun K hK=>?_);go_simp;clear hHeld;refine hK.out _ _ hM.out.hand (fun hHeld=>?_);clear hK K;try simp only[Act.put]
  refine xdn ?_ _;clear hHeld cu fu hlt2;replace hB:=ζ (hB.out.trans hBe);generalize World.setCell _ _ _=V2 at*;clear h hX hap hO2 c22 hlt hleW;have h:=hM;clear hM;go_upto_region 20 with fail
  have gd:Gr V2 V2.drew:=(Gr.refl V2).drew;replace hB:=ζ (hB.out.trans (gd.below.mono h.out.le));replace h:=ζ (h.out.gr gd.below);have k4:V2.drew.cell? ⟨kb,4,none⟩=some (.int .u64 imm):=(h.out.there (boxOb kb #[.int .u8 31,.int .i64 ia,.int .i64 ib,.int .i64 ic,.int .u64 imm]) (.head _)).2.1 4;have hen:=ζ (denter B V2.drew b c P {s with st:=s.st++[⟨s.g,s.p+1,s.r⟩]} og op _ h.out gn gb go hgn hga.out hgbB (hgr.out _ hB.out) hag s.r);have hrr:=ζ h.out.hand.2.2;refine wp_region_held_drew (S:=(fun X=>X.cell? ⟨kb,4,none⟩=some (.int .u64 imm))) (by kernel_rfl) (k4) (fun hHeld=>?_);refine xz 0 rfl (h:=xz 1 rfl (h:=xz 2 rfl (h:=?_)));try simp only[xap]
  refine xtk 3 (v:=.int .i64 (gn:Int)) rfl (Or.inl ⟨by rfl,?_⟩) ?_
  ·intro w hSw;(try dsimp only at hSw);go_simp;first|done|(rw[hii])
  try simp only[xap]
  refine xz 4 rfl (h:=xz 5 rfl (h:=xz 6 rfl (h:=?_)));try simp only[xap]
  refine xrd 7 rfl (fun K hK=>?_);rw[if_pos (by rfl)];refine wp_load_mid _ _ rfl _ 6 rfl (regs s.r) _ hrr.out Tryz.underlying68 rfl (by rw[regs_len];kernel_rfl) ?_;refine hK.out _ _ k4 (fun hHeld=>?_);clear hK K;try simp only[xap]
  refine xrd 8 rfl (fun K hK=>?_);go_simp;go_wp2_with(refine hen.out.mono ?_;rintro r V9 ⟨rfl,h9,hB9⟩;clear hHeld;have k9:V9.cell? ⟨kb,4,none⟩=some (.int .u64 imm):=(show At V9 kb _ from h9.there (boxOb kb #[.int .u8 31,.int .i64 ia,.int .i64 ib,.int .i64 ic,.int .u64 imm]) (.head _)).2.1 4;replace h9:=ζ h9;replace hB9:=ζ hB9);refine hK.out _ _ (k9) (fun hHeld=>?_);clear hK K;try simp only[xap]
  refine xdn ?_ _;clear hHeld k4 k9 hen hrr;go_wp2_with fail
  first|go_end0|((try simp only[Exit.inBlock,Exit.then]);refine xre ?_)
  exact⟨rfl,h9.out.drop,hB.out.trans hB9.out⟩
 ·skip
  rw[if_pos (by rfl)];refine wp_build_dfrs _ rfl ⟨s.g,s.p+1,s.r⟩ (by rfl) ?_;clear hHeld;have hX:At (V.drew.alloc (.cells (Fr.vals ⟨s.g,s.p+1,s.r⟩).toArray 144)) V.drew.heap.size (Fr.vals ⟨s.g,s.p+1,s.r⟩).toArray:=At.new V.drew _ _;have g1:Gr V (V.drew.alloc (.cells (Fr.vals ⟨s.g,s.p+1,s.r⟩).toArray 144)):=g0.alloc _;generalize hVV:V.drew.alloc (.cells (Fr.vals ⟨s.g,s.p+1,s.r⟩).toArray 144)=Q1 at*;clear hVV g0;generalize V.drew.heap.size=kX at hX ⊢;refine hK.out _ _ ((h.out.gr g1.below).hand) (fun hHeld=>?_);clear hK K;try simp only[xap]
  refine xrd 4 rfl (fun K hK=>?_);have c4:Q1.cell? ⟨b,22,none⟩=some (.slice ta s.st.length tk):=(T.cell_of_block (g1.below.block b hlt) _).trans c22;go_simp;clear hHeld;refine hK.out _ _ ((h.out.gr g1.below).hand) (fun hHeld=>?_);clear hK K c4;try simp only[xap]
  refine xrd 20 rfl (fun K hK=>?_);refine wp_append_z _ _ 93 144 (.agg (List.toArray [Value.int .i64 0,.int .i64 0,.int .u64 0,.int .u64 0,.int .u64 0,.int .u64 0,.int .u64 0,.int .u64 0,.int .u64 0,.int .u64 0,.int .u64 0,.int .u64 0,.int .u64 0,.int .u64 0,.int .u64 0,.int .u64 0,.int .u64 0,.int .u64 0])) 18 144 rfl Tryz.underlying93 (by kernel_rfl) (by kernel_rfl) (by decide) (by decide) B (.slice ta s.st.length tk) s.st.length xs (Fr.vals ⟨s.g,s.p+1,s.r⟩) (by rfl) (hO2.out Q1 g1.below) kX (by rfl) hX (Fr.len _) (fun u hu=>Array.all_eq_true_iff_forall_mem.1 (Fr.one ⟨s.g,s.p+1,s.r⟩) u (by simpa using hu)) hsl (Nat.le_trans hleW g1.below.size) ?_;intro g cap W2 k1 k2 k3;obtain⟨hq2,hA2,hM,hBe⟩:=hap.out Q1 W2 g cap g1.below k1 k2 k3;have cu:W2.cell? ⟨b,22,none⟩=some _:=hq2.at_ 22 (by omega);have fu:=hq2.fr 22;have hlt2:=hq2.lt;have S9:Hz (W2.cell? ⟨b,4,none⟩=some (.int .i64 s.g)∧W2.cell? ⟨b,5,none⟩=some (.int .i64 s.p)∧W2.rangeAt b 6 (regs s.r)):=ζ ⟨hq2.at_ 4 (by omega),hq2.at_ 5 (by omega),hq2.rrow⟩
  replace hM:=ζ hM;clear k1 k2 k3 hHeld hq2 hA2;refine hK.out _ _ S9.out (fun hHeld=>?_);clear hK K;try simp only[xap]
  refine xz 21 rfl (h:=xz 22 rfl (h:=?_));try simp only[xap]
  refine xrd 23 rfl (fun K hK=>?_);go_simp;clear hHeld;refine hK.out _ _ hM.out.hand (fun hHeld=>?_);clear hK K;try simp only[Act.put]
  refine xdn ?_ _;clear hHeld cu fu hlt2;replace hB:=ζ (hB.out.trans hBe);generalize World.setCell _ _ _=V2 at*;clear h hX hap hO2 c22 hlt hleW;have h:=hM;clear hM;go_upto_region 20 with fail
  have gd:Gr V2 V2.drew:=(Gr.refl V2).drew;replace hB:=ζ (hB.out.trans (gd.below.mono h.out.le));replace h:=ζ (h.out.gr gd.below);have k4:V2.drew.cell? ⟨kb,4,none⟩=some (.int .u64 imm):=(h.out.there (boxOb kb #[.int .u8 31,.int .i64 ia,.int .i64 ib,.int .i64 ic,.int .u64 imm]) (.head _)).2.1 4;have hen:=ζ (denter B V2.drew b c P {s with st:=s.st++[⟨s.g,s.p+1,s.r⟩]} og op _ h.out gn gb go hgn hga.out hgbB (hgr.out _ hB.out) hag s.r);have hrr:=ζ h.out.hand.2.2;refine wp_region_held_drew (S:=(fun X=>X.cell? ⟨kb,4,none⟩=some (.int .u64 imm))) (by kernel_rfl) (k4) (fun hHeld=>?_);refine xz 0 rfl (h:=xz 1 rfl (h:=xz 2 rfl (h:=?_)));try simp only[xap]
  refine xtk 3 (v:=.int .i64 (gn:Int)) rfl (Or.inl ⟨by rfl,?_⟩) ?_
  ·intro w hSw;(try dsimp only at hSw);go_simp;first|done|(rw[hii])
  try simp only[xap]
  refine xz 4 rfl (h:=xz 5 rfl (h:=xz 6 rfl (h:=?_)));try simp only[xap]
  refine xrd 7 rfl (fun K hK=>?_);rw[if_pos (by rfl)];refine wp_load_mid _ _ rfl _ 6 rfl (regs s.r) _ hrr.out Tryz.underlying68 rfl (by rw[regs_len];kernel_rfl) ?_;refine hK.out _ _ k4 (fun hHeld=>?_);clear hK K;try simp only[xap]
  refine xrd 8 rfl (fun K hK=>?_);go_simp;go_wp2_with(refine hen.out.mono ?_;rintro r V9 ⟨rfl,h9,hB9⟩;clear hHeld;have k9:V9.cell? ⟨kb,4,none⟩=some (.int .u64 imm):=(show At V9 kb _ from h9.there (boxOb kb #[.int .u8 31,.int .i64 ia,.int .i64 ib,.int .i64 ic,.int .u64 imm]) (.head _)).2.1 4;replace h9:=ζ h9;replace hB9:=ζ hB9);refine hK.out _ _ (k9) (fun hHeld=>?_);clear hK K;try simp only[xap]
  refine xdn ?_ _;clear hHeld k4 k9 hen hrr;go_wp2_with fail
  first|go_end0|((try simp only[Exit.inBlock,Exit.then]);refine xre ?_)
  exact⟨rfl,h9.out.drop,hB.out.trans hB9.out⟩
end Z
end Go.Proofs.YtdidjhillmgccaaGreat
