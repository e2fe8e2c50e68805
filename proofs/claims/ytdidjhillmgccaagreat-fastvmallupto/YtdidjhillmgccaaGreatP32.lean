import Derived.Test.YtdidjhillmgccaaGreatP31
import Derived.Test.YtdidjhillmgccaaGreatP24
namespace Go.Proofs.YtdidjhillmgccaaGreat
namespace Z
open Go.RowKit
open T (Sep Ob Kp Mf FlIn boxOb)
section
variable {B:Nat} {W W':World} {b:Nat} {c:Dc} {P:Pr} {s s':Fm} {og op og' op':Nat} {l:List Ob}
theorem DIo.add (h:DIo B W b c P s og op l)(o:Ob)(hi:o.In W')(hn:∀k,o.S k→W.heap.size≤k)(hb:Below W.heap.size W W'):DIo B W' b c P s og op (o::l):=by
 obtain⟨⟨q,h1,ia,ic,e,h2⟩,le⟩:=h;exact⟨⟨q,sep_perm (h1.add o hi hn hb le) (List.perm_middle.symm.trans (List.Perm.append_left _ (List.Perm.swap _ _ _))),ia,ic,e,h2.below (hb.mono le)⟩,Nat.le_trans le hb.size⟩
theorem DIo.side {o o':Ob}(h:DIo B W b c P s og op (o::l))(hi:o'.In W')(hk:Kp o.S W W')(hn:∀k,o'.S k→o.S k∨W.heap.size≤k):DIo B W' b c P s og op (o'::l)∧Below B W W':=by
 obtain⟨⟨q,h1,ia,ic,e,h2⟩,le⟩:=h;have hb:=sep_below (l1:=dobs B b c P s q og op++[giOb B q.iv s.inp]) (o:=o) (l2:=l) (by simpa using h1) hk le;exact⟨⟨⟨q,by simpa using sep_change (l1:=dobs B b c P s q og op++[giOb B q.iv s.inp]) (o:=o) (o':=o') (l2:=l) (by simpa using h1) hi hk hn le,ia,ic,e,h2.below hb⟩,Nat.le_trans le hk.size⟩,hb⟩
theorem DIo.top (h:DIo B W b c P s og op l)(L:List Fr)(t:Fr)(hs:s.st=L++[t]):∃g k,W.cell? ⟨b,22,none⟩=some (.slice (some ⟨g,0,none⟩) (L.length+1) k)∧L.length+1≤k∧g<W.heap.size∧W.frozen? ⟨b,22,none⟩=false∧W.rangeAt g (L.length*18) t.vals∧
 (DIo B (W.setCell ⟨b,22,none⟩ (.slice (some ⟨g,0,none⟩) L.length k)) b c P {s with st:=L} og op l∧Below B W (W.setCell ⟨b,22,none⟩ (.slice (some ⟨g,0,none⟩) L.length k))):=by
 obtain⟨⟨q,h1,ia,ic,e,h2⟩,le⟩:=h;have hb:=h1.ins (dbOb b (dxOf c P s q og op)) (by simp[dobs]);have hO:W.ownsRow B 144 18 q.sv s.st.length (s.st.flatMap Fr.vals):=h1.ins (rowOb B 144 18 q.sv s.st.length (s.st.flatMap Fr.vals)) (by simp[dobs]);have hlt:=hO.lt;rw[hs]at hO;rw[List.length_append]at hO;obtain⟨ta,tk,etv⟩:=own_slZ hO;have hpop:=own_pop (n:=L.length) (ys:=L.flatMap Fr.vals) hO etv (by rw[List.flatMap_append,List.take_append_of_le_length (by rw[frs_len];exact Nat.le_refl _),List.take_of_length_le (by rw[frs_len];exact Nat.le_refl _)]);rcases hO.2 with⟨_,h9⟩|⟨g,cap,cur,e1,hbb,hg,hc1,hc2,hc3,hc4⟩
 ·simp at h9
 ·rw[etv]at e1;injection e1 with e1 e2 e3
  subst e1 e3;have hgl:g<W.heap.size:=(hlt g (by rw[etv];rfl)).2;refine⟨g,tk,by have:=hb.at_ 22 (by omega);rw[show(dxOf c P s q og op).at 22=q.sv from rfl,etv]at this;exact this,hc1,hgl,hb.fr 22,fun j v qj=>?_,?_⟩
  ·have hj:j<18:=by have:=(List.getElem?_eq_some_iff.1 qj).1;rwa [Fr.len]at this
   have hf:=flat_at' (f:=Fr.vals) Fr.len (L++[t]) L.length (by simp) j hj;rw[List.getElem_append_right (by omega)]at hf;simp only[Nat.sub_self,List.getElem_cons_zero]at hf;rw[qj,←hc4,List.getElem?_take_of_lt (by simp;omega)]at hf;have:W.cell? ⟨g,L.length*18+j,none⟩=cur[L.length*18+j]?:=by simp[World.cell?,hg]
   rw[this,←hf];simp
  ·have h3:=sep_change (W':=W) (l1:=[dbOb b (dxOf c P s q og op)]) (o:=rowOb B 144 18 q.sv s.st.length (s.st.flatMap Fr.vals)) (o':=rowOb B 144 18 (.slice (some ⟨g,0,none⟩) L.length tk) L.length (L.flatMap Fr.vals)) (l2:=rowOb B 5 1 q.mv 65536 (mV s.m)::ouOb B q.ov_ s.out::tcOb B q.tv s.tc::giOb B q.iv s.inp::l) h1 hpop (Kp.refl _ W) (fun k r=>.inl (by
    show q.sv.ownBlock=some k;rw[etv];exact r)) le
   obtain⟨h4,b4⟩:=sep_dbox (x':=dxOf c P {s with st:=L} {q with sv:=.slice (some ⟨g,0,none⟩) L.length tk} og op) h3 (.slice (some ⟨g,0,none⟩) L.length tk) 22 (fun hb=>hb.sv _) le;exact⟨⟨⟨{q with sv:=.slice (some ⟨g,0,none⟩) L.length tk},h4,ia,ic,e,h2.below b4⟩,Nat.le_trans le b4.size⟩,b4⟩
theorem at_fr {w:World}{k:Nat}{f:Fr}(h:At w k f.vals.toArray)(i:Nat)(hi:i<16)(n:Int):At (w.setCell ⟨k,2+i,none⟩ (.int .u64 n)) k (Fr.vals ⟨f.g,f.p,updR f.r i n⟩).toArray:=by
 have e:(Fr.vals ⟨f.g,f.p,updR f.r i n⟩).toArray=f.vals.toArray.setIfInBounds (2+i) (.int .u64 n):=by
  rw[List.setIfInBounds_toArray]
  congr 1
  unfold Fr.vals;rw[←regs_set f.r i hi n,show 2+i=i+1+1 by omega,List.set_cons_succ,List.set_cons_succ]
 rw[e];exact h.set (2+i) _ (by rw[List.size_toArray,Fr.len];omega)
theorem DIo.gates (h:DIo B W b c P s og op l)(gb go:Nat)(hga:c.ga=some ⟨gb,go,none⟩):W.cell? ⟨b,1,none⟩=some (.slice (some ⟨gb,go,none⟩) P.gates.length c.gc)∧W.cell? ⟨b,4,none⟩=some (.int .i64 s.g):=by
 obtain⟨q,hq⟩:=h.box;exact⟨(hq.at_ 1 (by omega)).trans (congrArg some (by show Value.slice c.ga _ _=_;rw[hga])),hq.at_ 4 (by omega)⟩
end
def Fm.Vf (s:Fm):Prop:=s.e=0→s.v=0∧s.f=0
theorem stepI_vf (P:Pr)(i:Fi)(s:Fm)(h0:s.Vf):(stepI P i s).Vf:=by
 refine stepI_cases P i s Fm.Vf ?_ ?_ ?_ ?_ ?_ ?_ ?_ ?_ ?_ ?_ ?_ ?_ ?_ ?_ ?_ ?_ ?_ ?_ ?_ ?_ ?_ ?_ ?_ ?_ ?_ ?_ ?_ ?_ ?_ ?_ ?_ ?_ ?_ ?_ ?_ 
 ·intro _;exact h0
 ·intro _;exact h0
 ·intro _;exact h0
 ·intro _;exact h0
 ·intro _;exact h0
 ·intro _;exact h0
 ·intro _;exact h0
 ·intro _;exact h0
 ·intro _;exact h0
 ·intro _;exact h0
 ·intro _;exact h0
 ·intro _;exact h0
 ·intro _;exact h0
 ·intro _;exact h0
 ·intro _;exact h0
 ·intro _;exact h0
 ·intro _;exact h0
 ·intro _;exact h0
 ·intro _;exact h0
 ·intro _;exact(fun q=>absurd (show(1:Int)=0 from q) (by decide))
 ·intro _;exact(fun q=>absurd (show(3:Int)=0 from q) (by decide))
 ·intro _;unfold stp29;split<;>first|exact h0|exact(fun q=>absurd (show(6:Int)=0 from q) (by decide))
 ·intro _;exact h0
 ·intro _;unfold stp31;split<;>first|exact h0|exact(fun q=>absurd (show(5:Int)=0 from q) (by decide))
 ·intro _;unfold stp32;split<;>first|exact h0|exact(fun q=>absurd (show(1:Int)=0 from q) (by decide))
 ·intro _;unfold stp60;split<;>first|exact h0|exact(fun q=>absurd (show(7:Int)=0 from q) (by decide))
 ·intro _;unfold stp61;split<;>first|exact h0|exact(fun q=>absurd (show(7:Int)=0 from q) (by decide))
 ·intro _;unfold stp62;split<;>first|exact h0|exact(fun q=>absurd (show(7:Int)=0 from q) (by decide))
 ·intro _;unfold stp63;split<;>first|exact h0|exact(fun q=>absurd (show(7:Int)=0 from q) (by decide))
 ·intro _;unfold stp64;split<;>first|exact h0|exact(fun q=>absurd (show(7:Int)=0 from q) (by decide))
 ·intro _;unfold stp65;split<;>first|exact h0|exact(fun q=>absurd (show(7:Int)=0 from q) (by decide))
 ·intro _;unfold stp70;split<;>first|exact h0|exact(fun q=>absurd (show(2:Int)=0 from q) (by decide))
 ·intro _;unfold stp71;split<;>first|exact h0|exact(fun q=>absurd (show(2:Int)=0 from q) (by decide))
 ·intro _;exact(fun q=>absurd (show(2:Int)=0 from q) (by decide))
 ·exact h0
theorem stepM_vf (P:Pr)(s:Fm)(h:s.Vf):(stepM P s).Vf:=by
 unfold stepM
 split
 ·exact stepI_vf P _ s h
 ·exact fun q=>absurd (show(7:Int)=0 from q) (by decide)
theorem stepsM_vf (P:Pr)(s:Fm)(h:s.Vf)(k:Nat):(stepsM P s k).Vf:=by
 induction k with
 |zero=>exact h
 |succ k ih=>
  unfold stepsM
  split
  ·exact stepM_vf P _ ih
  ·exact ih
theorem runM_vf (P:Pr)(s:Fm)(h:s.Vf)(k:Nat):(runM P s k).Vf:=by
 unfold runM
 split
 ·exact fun q=>absurd (show(4:Int)=0 from q) (by decide)
 ·exact stepsM_vf P s h k
theorem gi_perm (d x l:List Ob)(g:Ob):(d++g::(x++l)).Perm (x++(d++g::l)):=by
 refine List.Perm.trans ?_ (List.perm_append_comm_assoc d x (g::l));exact List.Perm.append_left _ List.perm_middle.symm
def MD (B:Nat)(W:World)(P:Pr)(a:Nat)(s:Fm)(b:Nat)(c:Dc)(t:Fm)(l:List Ob):Prop:=∃q,DIo B W b c P t t.g t.p (obs B a P s q++l)
section
variable {B:Nat} {W W':World} {a b:Nat} {c:Dc} {P:Pr} {s s' t t':Fm} {l:List Ob}
theorem MD.le (h:MD B W P a s b c t l):B≤W.heap.size:=by
 obtain⟨q,h⟩:=h;exact h.le
theorem MD.gr (h:MD B W P a s b c t l)(hb:Below W.heap.size W W'):MD B W' P a s b c t l:=by
 obtain⟨q,h⟩:=h;exact⟨q,h.gr hb⟩
theorem MD.there (h:MD B W P a s b c t l)(o:Ob)(ho:o∈l):o.In W:=by
 obtain⟨q,h⟩:=h;exact h.there o (by simp[ho])
theorem MD.callY (h:MD B W P a s b c t l){f:Nat}{args:Array Value}{r:Ending}(hc:∀l',DIo B W b c P t t.g t.p l'→Calls Tryz.prog f args W fun x w'=>x=r∧DIo B w' b c P t' t'.g t'.p l'∧Below B W w'):
 Calls Tryz.prog f args W fun x w'=>x=r∧MD B w' P a s b c t' l∧Below B W w':=by
 obtain⟨q,h⟩:=h;refine(hc _ h).mono ?_;rintro x w' ⟨e,h1,h2⟩;exact⟨e,⟨q,h1⟩,h2⟩
theorem MD.asX (h:MD B W P a s b c t l):∃q2:Dq,MIn B W a P s (dobs B b c P t q2 t.g t.p++giOb B q2.iv t.inp::l)∧∃ia ic,q2.iv=.slice ia t.inp.length ic∧LgIn B W ia ic t.inp:=by
 obtain⟨q,⟨q2,h1,ia,ic,e,h2⟩,le⟩:=h;exact⟨q2,⟨⟨q,sep_perm h1 (gi_perm _ _ _ _)⟩,le⟩,ia,ic,e,h2⟩
theorem MD.ofX {q2:Dq}(h:MIn B W a P s (dobs B b c P t q2 t.g t.p++giOb B q2.iv t.inp::l)){ia:Option Addr}{ic:Nat}(e:q2.iv=.slice ia t.inp.length ic)(hi:LgIn B W ia ic t.inp):MD B W P a s b c t l:=by
 obtain⟨⟨q,h1⟩,le⟩:=h;exact⟨q,⟨q2,sep_perm h1 (gi_perm _ _ _ _).symm,ia,ic,e,hi⟩,le⟩
theorem MD.callX (h:MD B W P a s b c t l){f:Nat}{args:Array Value}{r:Ending}(hc:∀l',MIn B W a P s l'→Calls Tryz.prog f args W fun x w'=>x=r∧MIn B w' a P s' l'∧Below B W w'):
 Calls Tryz.prog f args W fun x w'=>x=r∧MD B w' P a s' b c t l∧Below B W w':=by
 obtain⟨q2,h,ia,ic,e,hi⟩:=h.asX;refine(hc _ h).mono ?_;rintro x w' ⟨e1,h1,h2⟩;exact⟨e1,MD.ofX h1 e (hi.below h2),h2⟩
theorem MD.oneX (h:MD B W P a s b c t l):∃l',MIn B W a P s l':=by
 obtain⟨q2,h,_⟩:=h.asX;exact⟨_,h⟩
theorem MD.oneY (h:MD B W P a s b c t l):∃l',DIo B W b c P t t.g t.p l':=by
 obtain⟨q,h⟩:=h;exact⟨_,h⟩
theorem MD.new (h:MD B W P a s b c t l)(cs:Array Value)(ty:TypeId):MD B (W.alloc (.cells cs ty)) P a s b c t (boxOb W.heap.size cs::l)∧Below B W (W.alloc (.cells cs ty)):=by
 obtain⟨q2,h,ia,ic,e,hi⟩:=h.asX;obtain⟨h2,hb⟩:=h.new cs ty;refine⟨MD.ofX (q2:=q2) ?_ e (hi.below hb),hb⟩;obtain⟨⟨q,h3⟩,le⟩:=h2;exact⟨⟨q,sep_perm h3 (List.Perm.append_left _ (List.perm_middle.symm.trans (List.Perm.append_left _ (List.Perm.swap _ _ _))))⟩,le⟩
theorem MD.drop {o:Ob}(h:MD B W P a s b c t (o::l)):MD B W P a s b c t l:=by
 obtain⟨q2,⟨⟨q,h1⟩,le⟩,ia,ic,e,hi⟩:=h.asX;refine MD.ofX (q2:=q2) ?_ e hi;have h3:Sep B W (o::(obs B a P s q++(dobs B b c P t q2 t.g t.p++giOb B q2.iv t.inp::l))):=sep_perm h1 (by
  refine List.Perm.trans (List.Perm.append_left _ ((List.Perm.append_left _ (List.Perm.swap _ _ _)).trans List.perm_middle)) List.perm_middle)
 exact⟨⟨q,⟨fun p hp=>h3.ins p (by simp[hp]),(List.pairwise_cons.1 h3.dis).2,fun p hp k r=>h3.ge p (by simp[hp]) k r⟩⟩,le⟩
end
end Z
set_option maxRecDepth 100000
set_option maxHeartbeats 40000000
namespace Z
open Go.RowKit
open T (Sep Ob Kp Mf FlIn boxOb)
theorem dret0z (B:Nat)(W0:World)(b:Nat)(c:Dc)(P:Pr)(s:Fm)(og op:Nat)(l:List Ob)(h:DIo B W0 b c P s og op l)(gb go:Nat)(hgn:s.g<P.gates.length)(hga:c.ga=some ⟨gb,go,none⟩)(hgbB:gb<B)(hgr:W0.rangeAt gb (go+s.g*19) P.gates[s.g].vals)(hst:s.st=[])(hz:P.gates[s.g].s=0):
 Calls Tryz.prog 73 #[.pointer (some ⟨b,0,none⟩)] W0 fun x w'=>x=.returned (.tuple #[])∧DIo B w' b c P ({s with e:=1,v:=0,f:=0}) s.g s.p l∧Below B W0 w':=by
 have hgi:(s.g:Int)<(P.gates.length:Int):=by omega
 have hgb:=Nat.lt_of_lt_of_le hgbB h.le;obtain⟨gs,hgs⟩:∃n,P.gates[s.g].s=n:=⟨_,rfl⟩;have c2:W0.drew.cell? ⟨gb,go+s.g*19+2,none⟩=some (.int .i64 gs):=by
  have:=hgr 2 (.int .i64 P.gates[s.g].s) rfl;rw[hgs]at this;exact this
 rw[hgs]at hz;have hzi:¬(0:Int)<(gs:Int):=by omega
 obtain⟨c1,c4⟩:=h.gates gb go hga;replace h:=ζ h;replace hga:=ζ hga;clear hgr;go_enter Tryz.func73,Tryz.ntmps73;go_upto_region 0 with fail;have gd:Gr W0 W0.drew:=(Gr.refl W0).drew;refine wp_region_held_drew (S:=(fun X=>X.cell? ⟨b,1,none⟩=some (.slice (some ⟨gb,go,none⟩) P.gates.length c.gc)∧X.cell? ⟨b,4,none⟩=some (.int .i64 s.g)∧X.cell? ⟨gb,go+s.g*19+2,none⟩=some (.int .i64 gs))) (by kernel_rfl) (⟨c1,c4,c2⟩) (fun hHeld=>?_);refine xz 0 rfl (h:=xz 1 rfl (h:=xz 2 rfl (h:=xz 3 rfl (h:=xz 4 rfl (h:=xz 5 rfl (h:=xz 6 rfl (h:=xz 7 rfl (h:=xz 8 rfl (h:=xz 9 rfl (h:=xz 10 rfl (h:=xz 11 rfl (h:=xz 12 rfl (h:=?_)))))))))))));try simp only[xap]
 refine xdn ?_ _;clear hHeld c1 c4 c2;have hB:=ζ (gd.below.mono h.out.le);replace h:=ζ (h.out.gr gd.below);clear gd;generalize W0.drew=V at*;obtain⟨ta,tk,c22,_⟩:=h.out.deep;rw[hst]at c22;have c7:V.cell? ⟨b,7,none⟩=some (.int .u64 (s.r 1)):=h.out.hand.2.2 1 _ (regs_at s.r 1 (by omega));have hen:=ζ (h.out.onBox (s':={s with e:=1,v:=0,f:=0}) (og':=s.g) (op':=s.p) ⟨rfl,rfl,rfl,rfl,rfl⟩ (fun q hb=>dend_any b _ 1 (0) 0 V hb));go_wp2_with fail;refine hen.out.mono ?_;rintro r V9 ⟨rfl,h9,hB9⟩;replace hB:=ζ (hB.out.trans hB9);replace h9:=ζ h9;clear hen hB9;go_wp2_with fail
 first|go_end0|((try simp only[Exit.inBlock,Exit.then]);refine xre ?_)
 exact⟨rfl,h9.out,hB.out⟩
theorem dret0p (B:Nat)(W0:World)(b:Nat)(c:Dc)(P:Pr)(s:Fm)(og op:Nat)(l:List Ob)(h:DIo B W0 b c P s og op l)(gb go:Nat)(hgn:s.g<P.gates.length)(hga:c.ga=some ⟨gb,go,none⟩)(hgbB:gb<B)(hgr:W0.rangeAt gb (go+s.g*19) P.gates[s.g].vals)(hst:s.st=[])(hz:0<P.gates[s.g].s):
 Calls Tryz.prog 73 #[.pointer (some ⟨b,0,none⟩)] W0 fun x w'=>x=.returned (.tuple #[])∧DIo B w' b c P ({s with e:=1,v:=s.r 1,f:=0}) s.g s.p l∧Below B W0 w':=by
 have hgi:(s.g:Int)<(P.gates.length:Int):=by omega
 have hgb:=Nat.lt_of_lt_of_le hgbB h.le;obtain⟨gs,hgs⟩:∃n,P.gates[s.g].s=n:=⟨_,rfl⟩;have c2:W0.drew.cell? ⟨gb,go+s.g*19+2,none⟩=some (.int .i64 gs):=by
  have:=hgr 2 (.int .i64 P.gates[s.g].s) rfl;rw[hgs]at this;exact this
 rw[hgs]at hz;have hzi:(0:Int)<(gs:Int):=by omega
 obtain⟨c1,c4⟩:=h.gates gb go hga;replace h:=ζ h;replace hga:=ζ hga;clear hgr;go_enter Tryz.func73,Tryz.ntmps73;go_upto_region 0 with fail;have gd:Gr W0 W0.drew:=(Gr.refl W0).drew;refine wp_region_held_drew (S:=(fun X=>X.cell? ⟨b,1,none⟩=some (.slice (some ⟨gb,go,none⟩) P.gates.length c.gc)∧X.cell? ⟨b,4,none⟩=some (.int .i64 s.g)∧X.cell? ⟨gb,go+s.g*19+2,none⟩=some (.int .i64 gs))) (by kernel_rfl) (⟨c1,c4,c2⟩) (fun hHeld=>?_);refine xz 0 rfl (h:=xz 1 rfl (h:=xz 2 rfl (h:=xz 3 rfl (h:=xz 4 rfl (h:=xz 5 rfl (h:=xz 6 rfl (h:=xz 7 rfl (h:=xz 8 rfl (h:=xz 9 rfl (h:=xz 10 rfl (h:=xz 11 rfl (h:=xz 12 rfl (h:=?_)))))))))))));try simp only[xap]
 refine xdn ?_ _;clear hHeld c1 c4 c2;have hB:=ζ (gd.below.mono h.out.le);replace h:=ζ (h.out.gr gd.below);clear gd;generalize W0.drew=V at*;obtain⟨ta,tk,c22,_⟩:=h.out.deep;rw[hst]at c22;have c7:V.cell? ⟨b,7,none⟩=some (.int .u64 (s.r 1)):=h.out.hand.2.2 1 _ (regs_at s.r 1 (by omega));have hen:=ζ (h.out.onBox (s':={s with e:=1,v:=s.r 1,f:=0}) (og':=s.g) (op':=s.p) ⟨rfl,rfl,rfl,rfl,rfl⟩ (fun q hb=>dend_any b _ 1 (s.r 1) 0 V hb));go_wp2_with fail;refine hen.out.mono ?_;rintro r V9 ⟨rfl,h9,hB9⟩;replace hB:=ζ (hB.out.trans hB9);replace h9:=ζ h9;clear hen hB9;go_wp2_with fail
 first|go_end0|((try simp only[Exit.inBlock,Exit.then]);refine xre ?_)
 exact⟨rfl,h9.out,hB.out⟩
theorem dret (B:Nat)(W0:World)(b:Nat)(c:Dc)(P:Pr)(s:Fm)(og op:Nat)(l:List Ob)(h:DIo B W0 b c P s og op l)(gb go:Nat)(hgn:s.g<P.gates.length)(hga:c.ga=some ⟨gb,go,none⟩)(hgbB:gb<B)(hgr:W0.rangeAt gb (go+s.g*19) P.gates[s.g].vals)(L:List Fr)(t:Fr)(hs7:P.gates[s.g].s≤7)(hst:s.st=L++[t])(hsl:s.st.length≤1000000):
 Calls Tryz.prog 73 #[.pointer (some ⟨b,0,none⟩)] W0 fun x w'=>x=.returned (.tuple #[])∧DIo B w' b c P ({s with g:=t.g,p:=t.p,r:=entR ⟨t.p,0,0,t.r⟩ P.gates[s.g].s (fun k=>s.r (k+1)),st:=L}) og op l∧Below B W0 w':=by
 have hLl:L.length≤1000000:=by rw[hst,List.length_append]at hsl;omega
 have hgi:(s.g:Int)<(P.gates.length:Int):=by omega
 have hgb:=Nat.lt_of_lt_of_le hgbB h.le;obtain⟨gs,hgs⟩:∃n,P.gates[s.g].s=n:=⟨_,rfl⟩;have c2:W0.drew.cell? ⟨gb,go+s.g*19+2,none⟩=some (.int .i64 gs):=by
  have:=hgr 2 (.int .i64 P.gates[s.g].s) rfl;rw[hgs]at this;exact this
 rw[hgs]at hs7 ⊢;obtain⟨c1,c4⟩:=h.gates gb go hga;replace h:=ζ h;replace hga:=ζ hga;clear hgr;go_enter Tryz.func73,Tryz.ntmps73;go_upto_region 0 with fail
 have gd:Gr W0 W0.drew:=(Gr.refl W0).drew;refine wp_region_held_drew (S:=(fun X=>X.cell? ⟨b,1,none⟩=some (.slice (some ⟨gb,go,none⟩) P.gates.length c.gc)∧X.cell? ⟨b,4,none⟩=some (.int .i64 s.g)∧X.cell? ⟨gb,go+s.g*19+2,none⟩=some (.int .i64 gs))) (by kernel_rfl) (⟨c1,c4,c2⟩) (fun hHeld=>?_);refine xz 0 rfl (h:=xz 1 rfl (h:=xz 2 rfl (h:=xz 3 rfl (h:=xz 4 rfl (h:=xz 5 rfl (h:=xz 6 rfl (h:=xz 7 rfl (h:=xz 8 rfl (h:=xz 9 rfl (h:=xz 10 rfl (h:=xz 11 rfl (h:=xz 12 rfl (h:=?_)))))))))))));try simp only[xap]
 refine xdn ?_ _;clear hHeld c1 c4 c2;have hB:=ζ (gd.below.mono h.out.le);replace h:=ζ (h.out.gr gd.below);clear gd;generalize W0.drew=V at*;obtain⟨gq,kq,c22,hkq,hgq,f22,htop,_⟩:=h.out.top L t hst;have hlt:b<V.heap.size:=by obtain⟨q,hq⟩:=h.out.box;exact hq.lt
 have KS:Hz (∀X,Gr V X→X.cell? ⟨b,22,none⟩=some (.slice (some ⟨gq,0,none⟩) (L.length+1) kq)∧X.rangeAt gq (L.length*18) t.vals):=ζ (fun X g=>⟨(T.cell_of_block (g.below.block b hlt) _).trans c22,fun j v q=>(T.cell_of_block (g.below.block gq hgq) _).trans (htop j v q)⟩);have hw9:IntKind.i64.wrap (L.length:Int)=(L.length:Int):=by rw[IntKind.wrap_i64];omega
 have hli:(L.length:Int)<(L.length:Int)+1:=by omega
 have hn0:((L.length:Int)+1==0)=false:=by simpa using(by omega:¬(L.length:Int)+1=0)
 clear htop;go_upto_region 6 with fail
 have g6:Hz (Gr V V.drew):=ζ (Gr.refl V).drew;have hA7:At ((V.alloc (.cells (List.toArray [Value.int .i64 0,.int .i64 0,.int .u64 0,.int .u64 0,.int .u64 0,.int .u64 0,.int .u64 0,.int .u64 0,.int .u64 0,.int .u64 0,.int .u64 0,.int .u64 0,.int .u64 0,.int .u64 0,.int .u64 0,.int .u64 0,.int .u64 0,.int .u64 0]) 144)).drew) V.heap.size (List.toArray [Value.int .i64 0,.int .i64 0,.int .u64 0,.int .u64 0,.int .u64 0,.int .u64 0,.int .u64 0,.int .u64 0,.int .u64 0,.int .u64 0,.int .u64 0,.int .u64 0,.int .u64 0,.int .u64 0,.int .u64 0,.int .u64 0,.int .u64 0,.int .u64 0]):=At.new V.drew _ _;have hth:=ζ (At.there hA7 0 18 (by decide));have hA8:=ζ (At.setAll hA7 (Fr.vals t) (by rw[Fr.len];rfl));have g8:Hz (Gr V (((V.alloc (.cells (List.toArray [Value.int .i64 0,.int .i64 0,.int .u64 0,.int .u64 0,.int .u64 0,.int .u64 0,.int .u64 0,.int .u64 0,.int .u64 0,.int .u64 0,.int .u64 0,.int .u64 0,.int .u64 0,.int .u64 0,.int .u64 0,.int .u64 0,.int .u64 0,.int .u64 0]) 144)).drew).setCells V.heap.size 0 (Fr.vals t))):=ζ (Gr.setCells (g6.out.alloc (.cells (List.toArray [Value.int .i64 0,.int .i64 0,.int .u64 0,.int .u64 0,.int .u64 0,.int .u64 0,.int .u64 0,.int .u64 0,.int .u64 0,.int .u64 0,.int .u64 0,.int .u64 0,.int .u64 0,.int .u64 0,.int .u64 0,.int .u64 0,.int .u64 0,.int .u64 0]) 144)) V.heap.size (Nat.le_refl _) (Fr.vals t) 0)
 clear hA7;refine wp_region_held_drew (S:=(fun X=>X.cell? ⟨b,22,none⟩=some (.slice (some ⟨gq,0,none⟩) (L.length+1) kq)∧X.rangeAt gq (L.length*18) t.vals)) (by kernel_rfl) (KS.out _ g6.out) (fun hHeld=>?_);refine xz 0 rfl (h:=xz 1 rfl (h:=xz 2 rfl (h:=xz 3 rfl (h:=xz 4 rfl (h:=xz 5 rfl (h:=xz 6 rfl (h:=xz 7 rfl (h:=xz 8 rfl (h:=?_)))))))));try simp only[xap]
 refine xtk 9 (v:=.int .i64 (L.length:Int)) rfl (Or.inl ⟨by rfl,?_⟩) ?_
 ·intro w hSw;(try dsimp only at hSw);go_simp;first|done|(rw[hw9])
 try simp only[xap]
 refine xz 10 rfl (h:=?_);try simp only[xap]
 refine xtk 11 rfl (yieldsIf_load_mid (by rfl) _ _ rfl _ _ rfl _ _ (fun _ h=>h.2) Tryz.underlying144 rfl (by rw[Fr.len];kernel_rfl)) ?_;try simp only[xap]
 refine xrd 12 rfl (fun K hK=>?_);go_simp;refine hK.out _ _ (KS.out _ (g6.out.alloc _)) (fun hHeld=>?_);clear hK K;try simp only[xap]
 refine xrd 13 rfl (fun K hK=>?_);rw[if_pos (by rfl)];refine wp_store_mid _ _ _ rfl _ _ (List.toArray (Fr.vals t)) rfl rfl (show World.there _ _ _ _ by simpa [Fr.len]using hth.out) (by rw[List.size_toArray,Fr.len];kernel_rfl) (Fr.one _) ?_;refine hK.out _ _ (KS.out _ g8.out) (fun hHeld=>?_);clear hK K;try simp only[Act.put]
 refine xdn ?_ _;clear hHeld;have hM:=ζ (h.out.add (boxOb V.heap.size (List.toArray (Fr.vals t))) hA8.out (fun k q=>by have:k=V.heap.size:=q;omega) g8.out.below);replace hB:=ζ (hB.out.trans (g8.out.below.mono h.out.le));generalize hVx:World.setCells _ _ _ _=V5 at*;clear hVx h g8 hth hA8 KS c22 hgq f22 hlt hkq g6;replace h:=hM;clear hM;generalize V.heap.size=kc at*;have gd:Gr V5 V5.drew:=(Gr.refl V5).drew;replace hB:=ζ (hB.out.trans (gd.below.mono h.out.le));replace h:=ζ (h.out.gr gd.below);clear gd;obtain⟨gq,kq,c22,hkq,hgq,f22,_,hpop⟩:=h.out.top L t hst;have hlt:b<V5.drew.heap.size:=by obtain⟨q,hq⟩:=h.out.box;exact hq.lt
 have hlc:(L.length:Int)≤(kq:Int):=by omega
 replace hpop:=ζ hpop;go_upto_region 7 with fail
 refine wp_region_held_drew (S:=(fun _=>True)) (by kernel_rfl) (trivial) (fun hHeld=>?_);generalize V5.drew=V6 at*;refine xz 0 rfl (h:=xz 1 rfl (h:=xz 2 rfl (h:=xz 3 rfl (h:=xz 5 rfl (h:=xz 6 rfl (h:=xz 7 rfl (h:=?_)))))));try simp only[xap]
 refine wpAnyH_ready (rs:=[4,8]) (by kernel_rfl) (by simp) ?_;refine(xcn rfl (fun K hK=>?_) (xcn rfl (fun K hK=>?_) AllReadyH.nil))
 ·skip
  go_simp;clear hHeld;refine hK.out _ _ trivial (fun hHeld=>?_);clear hK K;try simp only[xap]
  refine xrd 8 rfl (fun K hK=>?_);go_simp;clear hHeld;refine hK.out _ _ trivial (fun hHeld=>?_);clear hK K;try simp only[xap]
  refine xz 9 rfl (h:=?_);try simp only[xap]
  refine xtk 10 (v:=.int .i64 (L.length:Int)) rfl (Or.inl ⟨by rfl,?_⟩) ?_
  ·intro w hSw;(try dsimp only at hSw);go_simp;first|done|(rw[hw9])
  try simp only[xap]
  refine xz 11 rfl (h:=xz 12 rfl (h:=xz 13 rfl (h:=?_)));try simp only[xap]
  refine xrd 14 rfl (fun K hK=>?_);go_simp;clear hHeld;refine hK.out _ _ trivial (fun hHeld=>?_);clear hK K;try simp only[Act.put]
  refine xdn ?_ _;clear hHeld c22 hlt f22 h hw9 hli hlc hkq hgq;obtain⟨hM,hBe⟩:=hpop.out;replace hB:=ζ (hB.out.trans hBe);generalize V6.setCell ⟨b,22,none⟩ (.slice (some ⟨gq,0,none⟩) L.length kq)=V7 at*;clear hpop hBe;have hM0:Hz (DIo B V7 b c P {s with st:=L} og op (boxOb kc (List.toArray (Fr.vals ⟨t.g,t.p,entR ⟨t.p,0,0,t.r⟩ (1 - 1) (fun k=>s.r (k+1))⟩))::l)):=ζ (by rw[Nat.sub_self,entR_zero];exact hM);clear hM;go_upto_region 9 with fail
  go_loopw [5] (fun x wr=>∃m:Nat,x=.int .i64 m∧1≤m∧m≤gs+1∧Hz (DIo B wr b c P {s with st:=L} og op (boxOb kc (List.toArray (Fr.vals ⟨t.g,t.p,entR ⟨t.p,0,0,t.r⟩ (m - 1) (fun k=>s.r (k+1))⟩))::l))∧Hz (Below B W0 wr)) (fun x _=>gs+2 - (intOf x).toNat)
  case atStart=>exact⟨1,rfl,Nat.le_refl _,by omega,hM0,hB⟩
  case round=>
   clear hM0 hB;obtain⟨m,rfl,hm1,hm2,hD,hB⟩:=hrel;have hAc:Hz (At wr kc (List.toArray (Fr.vals ⟨t.g,t.p,entR ⟨t.p,0,0,t.r⟩ (m - 1) (fun k=>s.r (k+1))⟩))):=ζ (hD.out.there (boxOb kc (List.toArray (Fr.vals ⟨t.g,t.p,entR ⟨t.p,0,0,t.r⟩ (m - 1) (fun k=>s.r (k+1))⟩))) (.head _));by_cases hj:m≤gs
   ·have hle:(m:Int)≤(gs:Int):=by omega
    have hm16:m<16:=by omega
    have hmi:(m:Int)<16:=by omega
    have cx:wr.cell? ⟨b,6+m,none⟩=some (.int .u64 (s.r m)):=hD.out.hand.2.2 m _ (regs_at s.r m hm16);have hz9:2+m<(List.toArray (Fr.vals ⟨t.g,t.p,entR ⟨t.p,0,0,t.r⟩ (m - 1) (fun k=>s.r (k+1))⟩)).size:=by rw[List.size_toArray,Fr.len];omega
    have ck:∃y,wr.cell? ⟨kc,2+m,none⟩=some y:=⟨_,(hAc.out.2.1 (2+m)).trans (Array.getElem?_eq_getElem hz9)⟩;clear hz9;obtain⟨y0,ck⟩:=ck;have fk:=hAc.out.2.2 (2+m);have hlk:=hAc.out.1;have n1:At (wr.setCell ⟨kc,2+m,none⟩ (.int .u64 (s.r m))) kc (List.toArray (Fr.vals ⟨t.g,t.p,entR ⟨t.p,0,0,t.r⟩ (m+1 - 1) (fun k=>s.r (k+1))⟩)):=by
     have q:=at_fr hAc.out m hm16 (s.r m);have e:=entR_next ⟨t.p,0,0,t.r⟩ (fun k=>s.r (k+1)) (m - 1);rw[Nat.sub_add_cancel hm1]at e;rw[Nat.add_sub_cancel,e];exact q
    have hn:=hD.out.side (o':=boxOb kc (List.toArray (Fr.vals ⟨t.g,t.p,entR ⟨t.p,0,0,t.r⟩ (m+1 - 1) (fun k=>s.r (k+1))⟩))) n1 (Kp.set (S:=fun k=>k=kc) wr ⟨kc,2+m,none⟩ (.int .u64 (s.r m)) rfl) (fun _ r=>.inl r);have hn1:=ζ hn.1;have hn2:=ζ (hB.out.trans hn.2);clear hn n1 hAc hD hB;go_wp2_with fail;refine And.intro (Exists.intro (m+1) ⟨rfl,by omega,by omega,hn1,hn2⟩) ?_;simp[intOf];omega
   ·have hle:¬(m:Int)≤(gs:Int):=by omega
    obtain rfl:m=gs+1:=by omega
    rw[Nat.add_sub_cancel]at hAc hD;obtain⟨r1,hr1⟩:∃r,entR ⟨t.p,0,0,t.r⟩ gs (fun k=>s.r (k+1))=r:=⟨_,rfl⟩;rw[hr1]at hAc hD;replace hr1:=ζ hr1;have hrn:Hz (wr.rangeAt kc 2 (regs r1)):=ζ (fun j v q=>by
     have:=hAc.out.range (2+j) v (by rw[show 2+j=j+1+1 by omega];exact q)
     rwa [Nat.zero_add]at this)
    obtain⟨hN,hbN,hth⟩:=hD.out.rgs r1;replace hth:=ζ hth;replace hB:=ζ (hB.out.trans hbN);replace hN:=ζ hN;clear hbN hAc;go_upto_region 12 with fail;clear hle;refine wp_region_lit ?_;iterate 2 (refine xp fun K hK=>?_;go_simp;with_reducible refine hK _ _ ?_;clear hK K;(try simp only[xap]))
    refine xp fun K hK=>?_
    refine wp_load_mid _ _ rfl _ 2 rfl (regs r1) _ hrn.out Tryz.underlying68 rfl (by rw[regs_len];kernel_rfl) (hK _ _ ?_);clear hK K;try simp only[xap]
    iterate 2 (refine xp fun K hK=>?_;go_simp;with_reducible refine hK _ _ ?_;clear hK K;(try simp only[xap]))
    refine xp fun K hK=>?_
    refine wp_store_mid _ _ _ rfl _ _ (List.toArray (regs r1)) rfl rfl (show World.there _ _ _ _ by simpa [regs_len]using hth.out) (by rw[List.size_toArray,regs_len];kernel_rfl) (regsA_one _) (hK _ _ ?_);clear hK K;try simp only[Act.put]
    generalize wr.setCells b 6 (regs r1)=Y1 at*;clear hth hrn hD;have c4:∃y,Y1.cell? ⟨b,4,none⟩=some y:=by obtain⟨q,hq⟩:=hN.out.box;exact⟨_,hq.at_ 4 (by omega)⟩
    obtain⟨y4,c4⟩:=c4;have f4:Y1.frozen? ⟨b,4,none⟩=false:=by obtain⟨q,hq⟩:=hN.out.box;exact hq.fr 4
    have hl4:b<Y1.heap.size:=by obtain⟨q,hq⟩:=hN.out.box;exact hq.lt
    have k0:Y1.cell? ⟨kc,0,none⟩=some (.int .i64 t.g):=(show At Y1 kc (List.toArray (Fr.vals ⟨t.g,t.p,r1⟩))from hN.out.there (boxOb kc (List.toArray (Fr.vals ⟨t.g,t.p,r1⟩))) (.head _)).2.1 0;obtain⟨hD2,hb2⟩:=hN.out.gate t.g;replace hB:=ζ (hB.out.trans hb2);replace hD2:=ζ hD2;clear hb2;go_upto_region 14 with fail
    generalize Y1.setCell ⟨b,4,none⟩ (.int .i64 t.g)=Y2 at*;clear c4 f4 hl4 hN k0;have c5:∃y,Y2.cell? ⟨b,5,none⟩=some y:=by obtain⟨q,hq⟩:=hD2.out.box;exact⟨_,hq.at_ 5 (by omega)⟩
    obtain⟨y5,c5⟩:=c5;have f5:Y2.frozen? ⟨b,5,none⟩=false:=by obtain⟨q,hq⟩:=hD2.out.box;exact hq.fr 5
    have hl5:b<Y2.heap.size:=by obtain⟨q,hq⟩:=hD2.out.box;exact hq.lt
    have k1:Y2.cell? ⟨kc,1,none⟩=some (.int .i64 t.p):=(show At Y2 kc (List.toArray (Fr.vals ⟨t.g,t.p,r1⟩))from hD2.out.there (boxOb kc (List.toArray (Fr.vals ⟨t.g,t.p,r1⟩))) (.head _)).2.1 1;have hf:=ζ (hD2.out.pcs t.p);go_wp2_with fail
    first|go_end0|((try simp only[Exit.inBlock,Exit.then]);refine xre ?_)
    rw[hr1.out];exact⟨rfl,hf.out.1.drop,hB.out.trans hf.out.2⟩
 ·skip
  go_simp;clear hHeld;refine hK.out _ _ trivial (fun hHeld=>?_);clear hK K;try simp only[xap]
  refine xz 9 rfl (h:=?_);try simp only[xap]
  refine xtk 10 (v:=.int .i64 (L.length:Int)) rfl (Or.inl ⟨by rfl,?_⟩) ?_
  ·intro w hSw;(try dsimp only at hSw);go_simp;first|done|(rw[hw9])
  try simp only[xap]
  refine xrd 4 rfl (fun K hK=>?_);go_simp;clear hHeld;refine hK.out _ _ trivial (fun hHeld=>?_);clear hK K;try simp only[xap]
  refine xz 11 rfl (h:=xz 12 rfl (h:=xz 13 rfl (h:=?_)));try simp only[xap]
  refine xrd 14 rfl (fun K hK=>?_);go_simp;clear hHeld;refine hK.out _ _ trivial (fun hHeld=>?_);clear hK K;try simp only[Act.put]
  refine xdn ?_ _;clear hHeld c22 hlt f22 h hw9 hli hlc hkq hgq;obtain⟨hM,hBe⟩:=hpop.out;replace hB:=ζ (hB.out.trans hBe);generalize V6.setCell ⟨b,22,none⟩ (.slice (some ⟨gq,0,none⟩) L.length kq)=V7 at*;clear hpop hBe;have hM0:Hz (DIo B V7 b c P {s with st:=L} og op (boxOb kc (List.toArray (Fr.vals ⟨t.g,t.p,entR ⟨t.p,0,0,t.r⟩ (1 - 1) (fun k=>s.r (k+1))⟩))::l)):=ζ (by rw[Nat.sub_self,entR_zero];exact hM);clear hM;go_upto_region 9 with fail
  go_loopw [5] (fun x wr=>∃m:Nat,x=.int .i64 m∧1≤m∧m≤gs+1∧Hz (DIo B wr b c P {s with st:=L} og op (boxOb kc (List.toArray (Fr.vals ⟨t.g,t.p,entR ⟨t.p,0,0,t.r⟩ (m - 1) (fun k=>s.r (k+1))⟩))::l))∧Hz (Below B W0 wr)) (fun x _=>gs+2 - (intOf x).toNat)
  case atStart=>exact⟨1,rfl,Nat.le_refl _,by omega,hM0,hB⟩
  case round=>
   clear hM0 hB;obtain⟨m,rfl,hm1,hm2,hD,hB⟩:=hrel;have hAc:Hz (At wr kc (List.toArray (Fr.vals ⟨t.g,t.p,entR ⟨t.p,0,0,t.r⟩ (m - 1) (fun k=>s.r (k+1))⟩))):=ζ (hD.out.there (boxOb kc (List.toArray (Fr.vals ⟨t.g,t.p,entR ⟨t.p,0,0,t.r⟩ (m - 1) (fun k=>s.r (k+1))⟩))) (.head _));by_cases hj:m≤gs
   ·have hle:(m:Int)≤(gs:Int):=by omega
    have hm16:m<16:=by omega
    have hmi:(m:Int)<16:=by omega
    have cx:wr.cell? ⟨b,6+m,none⟩=some (.int .u64 (s.r m)):=hD.out.hand.2.2 m _ (regs_at s.r m hm16);have hz9:2+m<(List.toArray (Fr.vals ⟨t.g,t.p,entR ⟨t.p,0,0,t.r⟩ (m - 1) (fun k=>s.r (k+1))⟩)).size:=by rw[List.size_toArray,Fr.len];omega
    have ck:∃y,wr.cell? ⟨kc,2+m,none⟩=some y:=⟨_,(hAc.out.2.1 (2+m)).trans (Array.getElem?_eq_getElem hz9)⟩;clear hz9;obtain⟨y0,ck⟩:=ck;have fk:=hAc.out.2.2 (2+m);have hlk:=hAc.out.1;have n1:At (wr.setCell ⟨kc,2+m,none⟩ (.int .u64 (s.r m))) kc (List.toArray (Fr.vals ⟨t.g,t.p,entR ⟨t.p,0,0,t.r⟩ (m+1 - 1) (fun k=>s.r (k+1))⟩)):=by
     have q:=at_fr hAc.out m hm16 (s.r m);have e:=entR_next ⟨t.p,0,0,t.r⟩ (fun k=>s.r (k+1)) (m - 1);rw[Nat.sub_add_cancel hm1]at e;rw[Nat.add_sub_cancel,e];exact q
    have hn:=hD.out.side (o':=boxOb kc (List.toArray (Fr.vals ⟨t.g,t.p,entR ⟨t.p,0,0,t.r⟩ (m+1 - 1) (fun k=>s.r (k+1))⟩))) n1 (Kp.set (S:=fun k=>k=kc) wr ⟨kc,2+m,none⟩ (.int .u64 (s.r m)) rfl) (fun _ r=>.inl r);have hn1:=ζ hn.1;have hn2:=ζ (hB.out.trans hn.2);clear hn n1 hAc hD hB;go_wp2_with fail;refine And.intro (Exists.intro (m+1) ⟨rfl,by omega,by omega,hn1,hn2⟩) ?_;simp[intOf];omega
   ·have hle:¬(m:Int)≤(gs:Int):=by omega
    obtain rfl:m=gs+1:=by omega
    rw[Nat.add_sub_cancel]at hAc hD;obtain⟨r1,hr1⟩:∃r,entR ⟨t.p,0,0,t.r⟩ gs (fun k=>s.r (k+1))=r:=⟨_,rfl⟩;rw[hr1]at hAc hD;replace hr1:=ζ hr1;have hrn:Hz (wr.rangeAt kc 2 (regs r1)):=ζ (fun j v q=>by
     have:=hAc.out.range (2+j) v (by rw[show 2+j=j+1+1 by omega];exact q)
     rwa [Nat.zero_add]at this)
    obtain⟨hN,hbN,hth⟩:=hD.out.rgs r1;replace hth:=ζ hth;replace hB:=ζ (hB.out.trans hbN);replace hN:=ζ hN;clear hbN hAc;go_upto_region 12 with fail;clear hle;refine wp_region_lit ?_;iterate 2 (refine xp fun K hK=>?_;go_simp;with_reducible refine hK _ _ ?_;clear hK K;(try simp only[xap]))
    refine xp fun K hK=>?_
    refine wp_load_mid _ _ rfl _ 2 rfl (regs r1) _ hrn.out Tryz.underlying68 rfl (by rw[regs_len];kernel_rfl) (hK _ _ ?_);clear hK K;try simp only[xap]
    iterate 2 (refine xp fun K hK=>?_;go_simp;with_reducible refine hK _ _ ?_;clear hK K;(try simp only[xap]))
    refine xp fun K hK=>?_
    refine wp_store_mid _ _ _ rfl _ _ (List.toArray (regs r1)) rfl rfl (show World.there _ _ _ _ by simpa [regs_len]using hth.out) (by rw[List.size_toArray,regs_len];kernel_rfl) (regsA_one _) (hK _ _ ?_);clear hK K;try simp only[Act.put]
    generalize wr.setCells b 6 (regs r1)=Y1 at*;clear hth hrn hD;have c4:∃y,Y1.cell? ⟨b,4,none⟩=some y:=by obtain⟨q,hq⟩:=hN.out.box;exact⟨_,hq.at_ 4 (by omega)⟩
    obtain⟨y4,c4⟩:=c4;have f4:Y1.frozen? ⟨b,4,none⟩=false:=by obtain⟨q,hq⟩:=hN.out.box;exact hq.fr 4
    have hl4:b<Y1.heap.size:=by obtain⟨q,hq⟩:=hN.out.box;exact hq.lt
    have k0:Y1.cell? ⟨kc,0,none⟩=some (.int .i64 t.g):=(show At Y1 kc (List.toArray (Fr.vals ⟨t.g,t.p,r1⟩))from hN.out.there (boxOb kc (List.toArray (Fr.vals ⟨t.g,t.p,r1⟩))) (.head _)).2.1 0;obtain⟨hD2,hb2⟩:=hN.out.gate t.g;replace hB:=ζ (hB.out.trans hb2);replace hD2:=ζ hD2;clear hb2;go_upto_region 14 with fail
    generalize Y1.setCell ⟨b,4,none⟩ (.int .i64 t.g)=Y2 at*;clear c4 f4 hl4 hN k0;have c5:∃y,Y2.cell? ⟨b,5,none⟩=some y:=by obtain⟨q,hq⟩:=hD2.out.box;exact⟨_,hq.at_ 5 (by omega)⟩
    obtain⟨y5,c5⟩:=c5;have f5:Y2.frozen? ⟨b,5,none⟩=false:=by obtain⟨q,hq⟩:=hD2.out.box;exact hq.fr 5
    have hl5:b<Y2.heap.size:=by obtain⟨q,hq⟩:=hD2.out.box;exact hq.lt
    have k1:Y2.cell? ⟨kc,1,none⟩=some (.int .i64 t.p):=(show At Y2 kc (List.toArray (Fr.vals ⟨t.g,t.p,r1⟩))from hD2.out.there (boxOb kc (List.toArray (Fr.vals ⟨t.g,t.p,r1⟩))) (.head _)).2.1 1;have hf:=ζ (hD2.out.pcs t.p);go_wp2_with fail
    first|go_end0|((try simp only[Exit.inBlock,Exit.then]);refine xre ?_)
    rw[hr1.out];exact⟨rfl,hf.out.1.drop,hB.out.trans hf.out.2⟩
def DPg (B:Nat)(W:World)(c:Dc)(P:Pr):Prop:=∃V:World,V.heap.size=B∧Below B V W∧RwIn V c.ca c.ga P
theorem DPg.below {B:Nat}{W W':World}{c:Dc}{P:Pr}(h:DPg B W c P)(hb:Below B W W'):DPg B W' c P:=by
 obtain⟨V,e,h1,h2⟩:=h;exact⟨V,e,h1.trans hb,h2⟩
theorem DPg.gate {B:Nat}{W:World}{c:Dc}{P:Pr}(h:DPg B W c P)(k:Nat)(hk:k<P.gates.length):∃gb go,c.ga=some ⟨gb,go,none⟩∧gb<B∧∀X,Below B W X→X.rangeAt gb (go+k*19) P.gates[k].vals:=by
 obtain⟨V,e,h1,h2⟩:=h;subst e;obtain⟨gb,go,e1,e2,e3⟩:=h2.gate k hk;exact⟨gb,go,e1,e2,fun X hx i v q=>(T.cell_of_block ((h1.trans hx).block gb e2) _).trans (e3 i v q)⟩
theorem dreturns_any (P:Pr)(ok:P.Ok)(s:Fm)(hs:s.Ok P)(he:s.e=0)(B:Nat)(W:World)(b:Nat)(c:Dc)(og op:Nat)(l:List Ob)(h:DIo B W b c P s og op l)(hpg:DPg B W c P):
 Calls Tryz.prog 73 #[.pointer (some ⟨b,0,none⟩)] W fun x w'=>x=.returned (.tuple #[])∧DAft B w' b c P (stp32 P s) l∧Below B W w':=by
 have hgn:s.g<P.gates.length:=by rw[←ok.nc];exact hs.g
 have hs7:=(ok.gate s.g hgn hs.g).2.2;have hsl:s.st.length≤1000000:=by have:=hs.st;have:=ok.dp;omega
 obtain⟨gb,go,hga,hgbB,hgr⟩:=hpg.gate s.g hgn;have hgr0:=hgr W (Below.refl _ W);rcases List.eq_nil_or_concat s.st with hst|⟨L,x,hst⟩
 ·by_cases hz:P.gates[s.g].s=0
  ·rw[show stp32 P s={s with e:=1,v:=0,f:=0}by unfold stp32;rw[hst,P.gate_at _ hgn,hz];rfl];refine(dret0z B W b c P s og op l h gb go hgn hga hgbB hgr0 hst hz).mono ?_;rintro x w' ⟨rfl,h1,h2⟩;exact⟨rfl,⟨_,_,h1,fun _=>⟨rfl,rfl⟩⟩,h2⟩
  ·rw[show stp32 P s={s with e:=1,v:=s.r 1,f:=0}by unfold stp32;rw[hst,P.gate_at _ hgn];simp only[List.getLast?_nil,if_neg hz]];refine(dret0p B W b c P s og op l h gb go hgn hga hgbB hgr0 hst (by omega)).mono ?_;rintro x w' ⟨rfl,h1,h2⟩;exact⟨rfl,⟨_,_,h1,fun _=>⟨rfl,rfl⟩⟩,h2⟩
 ·rw[List.concat_eq_append]at hst;rw[show stp32 P s={s with g:=x.g,p:=x.p,r:=entR ⟨x.p,0,0,x.r⟩ P.gates[s.g].s (fun k=>s.r (k+1)),st:=L}by unfold stp32;rw[hst,P.gate_at _ hgn];simp only[List.getLast?_append,List.getLast?_singleton,Option.some_or,List.dropLast_concat]];refine(dret B W b c P s og op l h gb go hgn hga hgbB hgr0 L x hs7 hst hsl).mono ?_;rintro x w' ⟨rfl,h1,h2⟩;exact⟨rfl,⟨_,_,h1,DEnd.run he⟩,h2⟩
theorem dflret (B:Nat)(W0:World)(b:Nat)(c:Dc)(P:Pr)(s:Fm)(og op:Nat)(l:List Ob)(ia ib ic:Nat)(imm:Int)(h:DIo B W0 b c P s og op l)(ok:P.Ok)(hs:s.Ok P)(he:s.e=0)(hpg:DPg B W0 c P):
 Calls Tryz.prog 56 #[.pointer (some ⟨b,0,none⟩),.agg #[.int .u8 32,.int .i64 ia,.int .i64 ib,.int .i64 ic,.int .u64 imm]] W0 fun x w'=>x=.returned (.tuple #[])∧DAft B w' b c P (stp32 P s) l∧Below B W0 w':=by
 replace ok:=ζ ok;replace hs:=ζ hs;replace he:=ζ he;replace hpg:=ζ hpg;have h2:=ζ (h.new #[.int .u8 32,.int .i64 ia,.int .i64 ib,.int .i64 ic,.int .u64 imm] 53);clear h;go_enter Tryz.func56,Tryz.ntmps56;go_upto_region 1 with fail
 refine wp_world (fun W=>DIo B W b c P s og op (boxOb W0.heap.size #[.int .u8 32,.int .i64 ia,.int .i64 ib,.int .i64 ic,.int .u64 imm]::l)∧Below B W0 W) h2.out ?_;rintro W ⟨h,hB⟩;replace h:=ζ h;replace hB:=ζ hB;clear h2;generalize W0.heap.size=kb at*;have KS:=xk2 32 ia ib ic imm kb;have k0:W.cell? ⟨kb,0,none⟩=some (.int .u8 32):=(h.out.there (boxOb kb #[.int .u8 32,.int .i64 ia,.int .i64 ib,.int .i64 ic,.int .u64 imm]) (.head _)).2.1 0;have hen:=ζ (dreturns_any P ok.out s hs.out he.out B W b c og op _ h.out (hpg.out.below hB.out));go_wp2_with fail;refine hen.out.mono ?_;rintro r V9 ⟨rfl,⟨og9,op9,h9,e9⟩,hB9⟩;replace hB:=ζ (hB.out.trans hB9);replace h9:=ζ h9;replace e9:=ζ e9;clear hen hB9;go_wp2_with fail
 first|go_end0|((try simp only[Exit.inBlock,Exit.then]);refine xre ?_)
 exact⟨rfl,⟨og9,op9,h9.out.drop,e9.out⟩,hB.out⟩
theorem dflows_any (P:Pr)(ok:P.Ok)(i:Fi)(s:Fm)(n:Nat)(hs:s.Ok P)(he:s.e=0)(ho:i.Ok n P.gates.length)(hop:27≤i.op∧i.op<60)(B:Nat)(W:World)(b:Nat)(c:Dc)(og op:Nat)(l:List Ob)(h:DIo B W b c P s og op l)(hpg:DPg B W c P):
 Calls Tryz.prog 56 #[.pointer (some ⟨b,0,none⟩),.agg #[.int .u8 i.op,.int .i64 i.a,.int .i64 i.b,.int .i64 i.c,.int .u64 i.i]] W fun x w'=>x=.returned (.tuple #[])∧DAft B w' b c P (stepI P i s) l∧Below B W w':=by
 have ia:=ho.a;have hp:s.p≤1000000:=Nat.le_trans hs.p (by omega);have hsl:s.st.length≤1000000:=by have:=hs.st;have:=ok.dp;omega
 have hk:i.op=27∨i.op=28∨i.op=29∨i.op=30∨i.op=31∨i.op=32:=by have:=ho.op;unfold Named at this;omega
 rcases hk with e|e|e|e|e|e
 all_goals rw[e]
 ·rw[show stepI P i s=stp27 i s by unfold stepI;rw[e];rfl];refine(h.onBox (s':=stp27 i s) (og':=s.g) (op':=s.p) ⟨rfl,rfl,rfl,rfl,rfl⟩ (fun q hb=>dhalt b _ i.a i.b i.c i.i W hb ia)).mono ?_;rintro x w' ⟨rfl,h1,h2⟩;exact⟨rfl,⟨_,_,h1,fun _=>⟨rfl,rfl⟩⟩,h2⟩
 ·rw[show stepI P i s=stp28 i s by unfold stepI;rw[e];rfl];refine(h.onBox (s':=stp28 i s) (og':=s.g) (op':=s.p) ⟨rfl,rfl,rfl,rfl,rfl⟩ (fun q hb=>dtrap b _ i.a i.b i.c i.i W hb)).mono ?_;rintro x w' ⟨rfl,h1,h2⟩;exact⟨rfl,⟨_,_,h1,fun _=>⟨rfl,rfl⟩⟩,h2⟩
 ·rw[show stepI P i s=stp29 i s by unfold stepI;rw[e];rfl];rcases hi:s.inp with _|⟨x,L⟩
  ·rw[show stp29 i s={s with e:=6,v:=0,f:=0}by unfold stp29;rw[hi]];obtain⟨q0,ja,jc,hb0,hj⟩:=h.in0 hi;refine(h.onBox (r:=.returned (.tuple #[])) (s':={s with e:=6,v:=0,f:=0}) (og':=s.g) (op':=s.p) ⟨rfl,rfl,rfl,rfl,rfl⟩ (fun q hb=>?_)).mono ?_
   ·have e24:(dxOf c P s q og op).iv=.slice ja 0 jc:=by
     have a1:=hb.at_ 24 (by omega);rw[hb0.at_ 24 (by omega)]at a1;injection a1 with a1
     have:(dxOf c P s q0 og op).iv=(dxOf c P s q og op).iv:=a1;rw[←this];exact hj
    exact dstarve b _ i.a i.b i.c i.i W hb ja jc e24
   rintro x w' ⟨rfl,h1,h2⟩;exact⟨rfl,⟨_,_,h1,fun _=>⟨rfl,rfl⟩⟩,h2⟩
  ·rw[show stp29 i s={s with inp:=L,r:=updR s.r i.a x,p:=s.p+1}by unfold stp29;rw[hi]];refine(dfin B W b c P s og op l i.a i.b i.c i.i h x L hi ia hp).mono ?_;rintro x w' ⟨rfl,h1,h2⟩;exact⟨rfl,⟨_,_,h1,DEnd.run he⟩,h2⟩
 ·rw[show stepI P i s=stp30 i s by unfold stepI;rw[e];rfl];refine(dout B W b c P s og op l i.a i.b i.c i.i h ia hs.ol hp).mono ?_;rintro x w' ⟨rfl,h1,h2⟩;exact⟨rfl,⟨_,_,h1,DEnd.run he⟩,h2⟩
 ·rw[show stepI P i s=stp31 P i s by unfold stepI;rw[e];rfl];have hcl:=ho.cl e;have hi0:=ho.im.1;have hgn:i.i.toNat<P.gates.length:=by omega
  obtain⟨gb,go,hga,hgbB,hgr⟩:=hpg.gate i.i.toNat hgn;by_cases hd:P.dep≤(s.st.length:Int)
  ·rw[show stp31 P i s={s with e:=5,v:=0,f:=0}by unfold stp31;rw[if_pos hd]];refine(dfull B W b c P s og op l i.a i.b i.c i.i h hd).mono ?_;rintro x w' ⟨rfl,h1,h2⟩;exact⟨rfl,⟨_,_,h1,fun _=>⟨rfl,rfl⟩⟩,h2⟩
  ·rw[show stp31 P i s={s with g:=i.i.toNat,p:=P.gates[i.i.toNat].e,r:=entR P.gates[i.i.toNat] P.gates[i.i.toNat].a (fun k=>s.r (k+1)),st:=s.st++[⟨s.g,s.p+1,s.r⟩]}by unfold stp31;rw[if_neg hd,P.gate_at _ hgn]];refine(dcall B W b c P s og op l i.a i.b i.c i.i h i.i.toNat gb go (by omega) (by omega) hgn (by have:=ok.n1;omega) hga hgbB hgr (ok.gate _ hgn (by rw[ok.nc];exact hgn)).2.1 hsl hp).mono ?_;rintro x w' ⟨rfl,h1,h2⟩;exact⟨rfl,⟨_,_,h1,DEnd.run he⟩,h2⟩
 ·rw[show stepI P i s=stp32 P s by unfold stepI;rw[e];rfl];exact dflret B W b c P s og op l i.a i.b i.c i.i h ok hs he hpg
theorem own_set1 {w:World}{lo e n c g:Nat}{xs:List Value}(h:w.ownsRow lo e 1 (.slice (some ⟨g,0,none⟩) n c) n xs)(i:Nat)(v:Value):(w.setCell ⟨g,i,none⟩ v).ownsRow lo e 1 (.slice (some ⟨g,0,none⟩) n c) n (xs.set i v):=by
 refine⟨by rw[List.length_set];exact h.1,?_⟩;rcases h.2 with⟨q,_⟩|⟨g',cap,cur,q,hb,hg,hnc,hc,hz,ht⟩
 ·cases q
 ·cases q
  refine .inr ⟨g,c,cur.setIfInBounds i v,rfl,hb,heap_setCell_same w g i cur e v hg,hnc,hc,by simpa using hz,?_⟩;rw[Array.toList_setIfInBounds,List.take_set,ht]
theorem mV_len (m:Nat→UInt8):(mV m).length=65536:=by simp only[mV,List.length_map,List.length_range]
theorem mV_at (m:Nat→UInt8)(i:Nat)(h:i<65536):(mV m)[i]?=some (.int .u8 (m i).toNat):=by
 unfold mV;rw[List.getElem?_map,List.getElem?_range h]
 rfl
theorem mV_set (m:Nat→UInt8)(i:Nat)(v:UInt8):(mV m).set i (.int .u8 v.toNat)=mV (T.upd m i v):=by
 apply List.ext_getElem?;intro j;by_cases hj:j<65536
 ·rw[mV_at _ j hj];by_cases q:i=j
  ·subst q;rw[List.getElem?_set_self (by rw[mV_len];exact hj)];unfold T.upd;rw[if_pos rfl]
  ·rw[List.getElem?_set_ne q,mV_at _ j hj];unfold T.upd;rw[if_neg (Ne.symm q)]
 ·rw[List.getElem?_eq_none (by rw[List.length_set,mV_len];omega),List.getElem?_eq_none (by rw[mV_len];omega)]
section
variable {B:Nat} {W:World} {b:Nat} {c:Dc} {P:Pr} {s:Fm} {og op:Nat} {l:List Ob}
theorem DIo.mem (h:DIo B W b c P s og op l):∃g k,W.cell? ⟨b,23,none⟩=some (.slice (some ⟨g,0,none⟩) 65536 k)∧g<W.heap.size∧(∀i,i<65536→W.cell? ⟨g,i,none⟩=some (.int .u8 (s.m i).toNat)∧W.frozen? ⟨g,i,none⟩=false)∧
 ∀i,i<65536→∀v:UInt8,DIo B (W.setCell ⟨g,i,none⟩ (.int .u8 v.toNat)) b c P {s with m:=T.upd s.m i v} og op l∧Below B W (W.setCell ⟨g,i,none⟩ (.int .u8 v.toNat)):=by
 obtain⟨⟨q,h1,ia,ic,e,h2⟩,le⟩:=h;have hb:=h1.ins (dbOb b (dxOf c P s q og op)) (by simp[dobs]);have hO:W.ownsRow B 5 1 q.mv 65536 (mV s.m):=h1.ins (rowOb B 5 1 q.mv 65536 (mV s.m)) (by simp[dobs]);rcases hO.2 with⟨_,h9⟩|⟨g,cap,cur,e1,hbb,hg,hc1,hc2,hc3,hc4⟩
 ·simp at h9
 ·have hgl:g<W.heap.size:=(Array.getElem?_eq_some_iff.1 hg).1;refine⟨g,cap,by have:=hb.at_ 23 (by omega);rw[show(dxOf c P s q og op).at 23=q.mv from rfl,e1]at this;exact this,hgl,fun i hi=>⟨?_,by simp[World.frozen?,hg]⟩,fun i hi v=>?_⟩
  ·have:=mV_at s.m i hi;rw[←hc4,List.getElem?_take_of_lt (by omega)]at this;have e2:W.cell? ⟨g,i,none⟩=cur[i]?:=by simp[World.cell?,hg]
   rw[e2,←this];simp
  ·have hO2:=hO;rw[e1]at hO2;have hk:Kp (fun k=>k=g) W (W.setCell ⟨g,i,none⟩ (.int .u8 v.toNat)):=Kp.set (S:=fun k=>k=g) W ⟨g,i,none⟩ _ rfl;have hk2:Kp (rowOb B 5 1 q.mv 65536 (mV s.m)).S W (W.setCell ⟨g,i,none⟩ (.int .u8 v.toNat)):=by
    refine Kp.mono hk (fun k r=>.inl ?_);subst r;show q.mv.ownBlock=some k;rw[e1]
    rfl
   have hn:=own_set1 hO2 i (.int .u8 v.toNat);rw[mV_set s.m i v,←e1]at hn;have h3:=sep_change (l1:=[dbOb b (dxOf c P s q og op),rowOb B 144 18 q.sv s.st.length (s.st.flatMap Fr.vals)]) (o:=rowOb B 5 1 q.mv 65536 (mV s.m)) (o':=rowOb B 5 1 q.mv 65536 (mV (T.upd s.m i v))) (l2:=ouOb B q.ov_ s.out::tcOb B q.tv s.tc::giOb B q.iv s.inp::l) h1 hn hk2 (fun k r=>.inl r) le;have b3:=sep_below (l1:=[dbOb b (dxOf c P s q og op),rowOb B 144 18 q.sv s.st.length (s.st.flatMap Fr.vals)]) (o:=rowOb B 5 1 q.mv 65536 (mV s.m)) (l2:=ouOb B q.ov_ s.out::tcOb B q.tv s.tc::giOb B q.iv s.inp::l) h1 hk2 le;exact⟨⟨⟨q,h3,ia,ic,e,h2.below b3⟩,Nat.le_trans le b3.size⟩,b3⟩
end
end Z
end Go.Proofs.YtdidjhillmgccaaGreat
