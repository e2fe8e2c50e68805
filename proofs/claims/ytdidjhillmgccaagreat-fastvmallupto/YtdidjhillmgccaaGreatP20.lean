import Derived.Test.YtdidjhillmgccaaGreatZCall
import Derived.Test.YtdidjhillmgccaaGreatP15
import Derived.Laws.AppendOwn
namespace Go.Proofs.YtdidjhillmgccaaGreat
set_option maxRecDepth 100000
set_option maxHeartbeats 40000000
namespace Z
open Go.RowKit
open T (Sep Ob Kp Mf FlIn boxOb)
theorem ret_end0 (B:Nat)(W0:World)(a:Nat)(P:Pr)(s:Fm)(l:List Ob)(i:Fi)(h:MIn B W0 a P s l)(hg:s.g<P.gates.length)(hs7:P.gates[s.g].s≤7)(hst:s.st=[])(hz:P.gates[s.g].s=0):
 Calls Tryz.prog 109 #[.agg #[.int .u8 i.op,.int .i64 i.a,.int .i64 i.b,.int .i64 i.c,.int .u64 i.i],.pointer (some ⟨a,0,none⟩)] W0 fun x w'=>x=.returned (.tuple #[])∧MIn B w' a P {s with e:=1,v:=0,f:=0} l∧Below B W0 w':=by
 have hgi:(s.g:Int)<(P.gates.length:Int):=Int.ofNat_lt.2 hg;replace hz:=ζ hz;have h2:=ζ (h.new i.w 128);clear h;go_enter Tryz.func109,Tryz.ntmps109;go_upto_region 1 with fail
 refine wp_world (fun W=>MIn B W a P s (boxOb W0.heap.size i.w::l)∧Below B W0 W) h2.out ?_;rintro W ⟨h,hB⟩;replace h:=ζ h;replace hB:=ζ hB;clear h2;generalize W0.heap.size=kb at*;have hleW:=h.out.le;replace h:=ζ (h.out.gro (Gr.refl W).drew);obtain⟨gb,c0,c1,hg0,hgr⟩:=h.out.gateAt s.g hg;have c5:W.drew.cell? ⟨gb,s.g*19+1+1,none⟩=some (.int .i64 P.gates[s.g].s):=hgr 2 _ rfl;have c4:W.drew.cell? ⟨a,4,none⟩=some (.int .i64 s.g):=by
  obtain⟨q,hb⟩:=h.out.bx;exact hb.at_ 4 (by omega)
 replace hB:Hz (Below B W0 W.drew):=ζ (hB.out.trans (Below.refl _ W).drew);clear hgr hg0;refine wp_region_held_drew (S:=(fun X=>X.cell? ⟨a,1,none⟩=some (.slice (some ⟨gb,0,none⟩) P.gates.length c0)∧X.cell? ⟨a,4,none⟩=some (.int .i64 s.g)∧X.cell? ⟨gb,s.g*19+1+1,none⟩=some (.int .i64 P.gates[s.g].s))) (by kernel_rfl) (⟨c1,c4,c5⟩) (fun hHeld=>?_);refine xz 0 rfl (h:=xz 1 rfl (h:=xz 2 rfl (h:=xz 3 rfl (h:=xz 4 rfl (h:=xz 5 rfl (h:=xz 6 rfl (h:=xz 7 rfl (h:=xz 8 rfl (h:=xz 9 rfl (h:=xz 10 rfl (h:=xz 11 rfl (h:=xz 12 rfl (h:=?_)))))))))))));try simp only[xap]
 refine xrd 13 rfl (fun K hK=>?_);go_simp;go_wp2_with(refine(handed_any a P.gates[s.g].s _ (by omega)).mono ?_;rintro r Y ⟨rfl,e1⟩;subst e1;clear hHeld);refine hK.out _ _ (⟨c1,c4,c5⟩) (fun hHeld=>?_);clear hK K;try simp only[xap]
 refine xz 14 rfl (h:=?_);try simp only[xap]
 refine xdn ?_ _;clear hHeld c1 c4 c5;generalize W.drew=V at*;obtain⟨_,ta,tk,c22⟩:=h.out.depAt;rw[hst]at c22;have hra:=h.out.regAt P.gates[s.g].s (by omega);have hf:=ζ (h.out.onBox (s':={s with e:=1,v:=0,f:=0}) ⟨rfl,rfl,rfl,rfl,rfl⟩ (fun q hb=>finish_any a _ 1 0 V hb));rw[hz.out];clear hra;replace hst:=ζ hst;go_wp2_with fail;refine(first_none _ _ _).mono ?_;rintro r V1 ⟨rfl,e1⟩;subst e1;go_wp2_with fail;refine(hf.out).mono ?_;rintro r V2 ⟨rfl,h2,hB2⟩;replace hB:Hz (Below B W0 V2):=ζ (hB.out.trans hB2);clear hB2;clear h;have h:=ζ h2;clear h2;go_wp2_with fail
 first|go_end0|((try simp only[Exit.inBlock,Exit.then]);refine xre ?_)
 exact⟨rfl,h.out.drop,hB.out⟩
theorem ret_end1 (B:Nat)(W0:World)(a:Nat)(P:Pr)(s:Fm)(l:List Ob)(i:Fi)(h:MIn B W0 a P s l)(hg:s.g<P.gates.length)(hs7:P.gates[s.g].s≤7)(hst:s.st=[])(hz:P.gates[s.g].s≠0):
 Calls Tryz.prog 109 #[.agg #[.int .u8 i.op,.int .i64 i.a,.int .i64 i.b,.int .i64 i.c,.int .u64 i.i],.pointer (some ⟨a,0,none⟩)] W0 fun x w'=>x=.returned (.tuple #[])∧MIn B w' a P {s with e:=1,v:=(s.r 1),f:=0} l∧Below B W0 w':=by
 have hgi:(s.g:Int)<(P.gates.length:Int):=Int.ofNat_lt.2 hg;replace hz:=ζ hz;have h2:=ζ (h.new i.w 128);clear h;go_enter Tryz.func109,Tryz.ntmps109;go_upto_region 1 with fail
 refine wp_world (fun W=>MIn B W a P s (boxOb W0.heap.size i.w::l)∧Below B W0 W) h2.out ?_;rintro W ⟨h,hB⟩;replace h:=ζ h;replace hB:=ζ hB;clear h2;generalize W0.heap.size=kb at*;have hleW:=h.out.le;replace h:=ζ (h.out.gro (Gr.refl W).drew);obtain⟨gb,c0,c1,hg0,hgr⟩:=h.out.gateAt s.g hg;have c5:W.drew.cell? ⟨gb,s.g*19+1+1,none⟩=some (.int .i64 P.gates[s.g].s):=hgr 2 _ rfl;have c4:W.drew.cell? ⟨a,4,none⟩=some (.int .i64 s.g):=by
  obtain⟨q,hb⟩:=h.out.bx;exact hb.at_ 4 (by omega)
 replace hB:Hz (Below B W0 W.drew):=ζ (hB.out.trans (Below.refl _ W).drew);clear hgr hg0;refine wp_region_held_drew (S:=(fun X=>X.cell? ⟨a,1,none⟩=some (.slice (some ⟨gb,0,none⟩) P.gates.length c0)∧X.cell? ⟨a,4,none⟩=some (.int .i64 s.g)∧X.cell? ⟨gb,s.g*19+1+1,none⟩=some (.int .i64 P.gates[s.g].s))) (by kernel_rfl) (⟨c1,c4,c5⟩) (fun hHeld=>?_);refine xz 0 rfl (h:=xz 1 rfl (h:=xz 2 rfl (h:=xz 3 rfl (h:=xz 4 rfl (h:=xz 5 rfl (h:=xz 6 rfl (h:=xz 7 rfl (h:=xz 8 rfl (h:=xz 9 rfl (h:=xz 10 rfl (h:=xz 11 rfl (h:=xz 12 rfl (h:=?_)))))))))))));try simp only[xap]
 refine xrd 13 rfl (fun K hK=>?_);go_simp;go_wp2_with(refine(handed_any a P.gates[s.g].s _ (by omega)).mono ?_;rintro r Y ⟨rfl,e1⟩;subst e1;clear hHeld);refine hK.out _ _ (⟨c1,c4,c5⟩) (fun hHeld=>?_);clear hK K;try simp only[xap]
 refine xz 14 rfl (h:=?_);try simp only[xap]
 refine xdn ?_ _;clear hHeld c1 c4 c5;generalize W.drew=V at*;obtain⟨_,ta,tk,c22⟩:=h.out.depAt;rw[hst]at c22;have hra:=h.out.regAt P.gates[s.g].s (by omega);obtain⟨n1,hn1⟩:∃n1,P.gates[s.g].s=n1+1:=⟨P.gates[s.g].s - 1,by have:=hz.out;omega⟩;have hn1b:n1≤1000:=by omega
 have c7:V.cell? ⟨a,7,none⟩=some (.int .u64 (s.r 1)):=hra.2 0 (by omega);have hf:=ζ (h.out.onBox (s':={s with e:=1,v:=(s.r 1),f:=0}) ⟨rfl,rfl,rfl,rfl,rfl⟩ (fun q hb=>finish_any a _ 1 (s.r 1) V hb));rw[hn1];clear hra;replace hst:=ζ hst;replace hn1:=ζ hn1;go_wp2_with fail;refine(first_some a 7 n1 15 (s.r 1) _ c7 hn1b).mono ?_;rintro r V1 ⟨rfl,e1⟩;subst e1;go_wp2_with fail;refine(hf.out).mono ?_;rintro r V2 ⟨rfl,h2,hB2⟩;replace hB:Hz (Below B W0 V2):=ζ (hB.out.trans hB2);clear hB2;clear h;have h:=ζ h2;clear h2;go_wp2_with fail
 first|go_end0|((try simp only[Exit.inBlock,Exit.then]);refine xre ?_)
 exact⟨rfl,h.out.drop,hB.out⟩
theorem ret_ok (B:Nat)(W0:World)(a:Nat)(P:Pr)(s:Fm)(l:List Ob)(i:Fi)(L:List Fr)(t:Fr)(h:MIn B W0 a P s l)(hg:s.g<P.gates.length)(hs7:P.gates[s.g].s≤7)(hst:s.st=L++[t])(hL:L.length≤1000):
 Calls Tryz.prog 109 #[.agg #[.int .u8 i.op,.int .i64 i.a,.int .i64 i.b,.int .i64 i.c,.int .u64 i.i],.pointer (some ⟨a,0,none⟩)] W0 fun x w'=>x=.returned (.tuple #[])∧MIn B w' a P {s with g:=t.g,p:=t.p,r:=(entR ⟨t.p,0,0,t.r⟩ P.gates[s.g].s (fun k=>s.r (k+1))),st:=L} l∧Below B W0 w':=by
 have hgi:(s.g:Int)<(P.gates.length:Int):=Int.ofNat_lt.2 hg;have e3:wrap64 (((L.length+1:Nat):Int) - 1)=(L.length:Int):=by unfold wrap64;omega
 have e4:wrap64 ((L.length:Int)+1 - 1)=(L.length:Int):=by unfold wrap64;omega
 replace hst:=ζ hst;have h2:=ζ (h.new i.w 128);clear h;go_enter Tryz.func109,Tryz.ntmps109;go_upto_region 1 with fail
 refine wp_world (fun W=>MIn B W a P s (boxOb W0.heap.size i.w::l)∧Below B W0 W) h2.out ?_;rintro W ⟨h,hB⟩;replace h:=ζ h;replace hB:=ζ hB;clear h2;generalize W0.heap.size=kb at*;have hleW:=h.out.le;replace h:=ζ (h.out.gro (Gr.refl W).drew);obtain⟨gb,c0,c1,hg0,hgr⟩:=h.out.gateAt s.g hg;have c5:W.drew.cell? ⟨gb,s.g*19+1+1,none⟩=some (.int .i64 P.gates[s.g].s):=hgr 2 _ rfl;have c4:W.drew.cell? ⟨a,4,none⟩=some (.int .i64 s.g):=by
  obtain⟨q,hb⟩:=h.out.bx;exact hb.at_ 4 (by omega)
 replace hB:Hz (Below B W0 W.drew):=ζ (hB.out.trans (Below.refl _ W).drew);clear hgr hg0;refine wp_region_held_drew (S:=(fun X=>X.cell? ⟨a,1,none⟩=some (.slice (some ⟨gb,0,none⟩) P.gates.length c0)∧X.cell? ⟨a,4,none⟩=some (.int .i64 s.g)∧X.cell? ⟨gb,s.g*19+1+1,none⟩=some (.int .i64 P.gates[s.g].s))) (by kernel_rfl) (⟨c1,c4,c5⟩) (fun hHeld=>?_);refine xz 0 rfl (h:=xz 1 rfl (h:=xz 2 rfl (h:=xz 3 rfl (h:=xz 4 rfl (h:=xz 5 rfl (h:=xz 6 rfl (h:=xz 7 rfl (h:=xz 8 rfl (h:=xz 9 rfl (h:=xz 10 rfl (h:=xz 11 rfl (h:=xz 12 rfl (h:=?_)))))))))))));try simp only[xap]
 refine xrd 13 rfl (fun K hK=>?_);go_simp;go_wp2_with(refine(handed_any a P.gates[s.g].s _ (by omega)).mono ?_;rintro r Y ⟨rfl,e1⟩;subst e1;clear hHeld);refine hK.out _ _ (⟨c1,c4,c5⟩) (fun hHeld=>?_);clear hK K;try simp only[xap]
 refine xz 14 rfl (h:=?_);try simp only[xap]
 refine xdn ?_ _;clear hHeld c1 c4 c5;generalize W.drew=V at*;have hleV:=h.out.le;obtain⟨gs,cs,c22,hcs,hgs,_,htop,_⟩:=h.out.top L t hst.out;replace htop:=ζ htop;have hll:(L.length:Int)<(L.length:Int)+1:=by omega
 have hl0:¬(L.length:Int)<0:=by omega
 have hl1:(0:Int)≤(L.length:Int):=by omega
 have hlc:(L.length:Int)≤(cs:Int):=by omega
 go_upto_region 5 with fail;refine wp_region_lit ?_;iterate 6 (refine xp fun K hK=>?_;go_simp;with_reducible refine hK _ _ ?_;clear hK K;(try simp only[xap]))
 refine xp fun K hK=>?_
 refine wp_load_mid _ _ rfl _ (L.length*18) rfl (Fr.vals t) _ htop.out Tryz.underlying81 rfl (by rw[Fr.len];kernel_rfl) (hK _ _ ?_);clear hK K;try simp only[xap]
 refine xp fun K hK=>?_
 go_simp;with_reducible refine hK _ _ ?_
 clear hK K;try simp only[xap]
 have hA7:At (V.alloc (.cells (List.toArray [Value.int .i64 0,.int .i64 0,.int .u64 0,.int .u64 0,.int .u64 0,.int .u64 0,.int .u64 0,.int .u64 0,.int .u64 0,.int .u64 0,.int .u64 0,.int .u64 0,.int .u64 0,.int .u64 0,.int .u64 0,.int .u64 0,.int .u64 0,.int .u64 0]) 81)) V.heap.size (List.toArray [Value.int .i64 0,.int .i64 0,.int .u64 0,.int .u64 0,.int .u64 0,.int .u64 0,.int .u64 0,.int .u64 0,.int .u64 0,.int .u64 0,.int .u64 0,.int .u64 0,.int .u64 0,.int .u64 0,.int .u64 0,.int .u64 0,.int .u64 0,.int .u64 0]):=At.new V _ _;have hth:=ζ (At.there hA7 0 18 (by decide));have hA8:=ζ (At.setAll hA7 (Fr.vals t) (by rw[Fr.len];rfl));have g8:=ζ (Gr.setCells ((Gr.refl V).alloc (.cells (List.toArray [Value.int .i64 0,.int .i64 0,.int .u64 0,.int .u64 0,.int .u64 0,.int .u64 0,.int .u64 0,.int .u64 0,.int .u64 0,.int .u64 0,.int .u64 0,.int .u64 0,.int .u64 0,.int .u64 0,.int .u64 0,.int .u64 0,.int .u64 0,.int .u64 0]) 81)) V.heap.size (Nat.le_refl _) (Fr.vals t) 0)
 clear hA7;refine xp fun K hK=>?_
 refine wp_store_mid _ _ _ rfl _ _ (List.toArray (Fr.vals t)) rfl rfl (show World.there _ _ _ _ by simpa [Fr.len]using hth.out) (by rw[List.size_toArray,Fr.len];kernel_rfl) (Fr.one _) (hK _ _ ?_);clear hK K;try simp only[Act.put]
 have hM:=ζ (h.out.add (boxOb V.heap.size (List.toArray (Fr.vals t))) hA8.out (fun k q=>by have:k=V.heap.size:=q;omega) g8.out.below);replace hB:=ζ (hB.out.trans (g8.out.below.mono hleV));generalize World.setCells _ _ _ _=V5 at*;clear h g8 hth htop c22 hA8 hgs;generalize V.heap.size=kc at*;have hAc:=hM.out.there (boxOb kc (List.toArray (Fr.vals t))) (.head _);have hthc:=ζ (At.there hAc 3 P.gates[s.g].s (by rw[Fr.len];omega));have hra:=ζ (hM.out.regAt P.gates[s.g].s (by omega));have hA9:=at_ent (g:=⟨t.p,0,0,t.r⟩) (gate:=t.g) (n:=P.gates[s.g].s) (fun k=>s.r (k+1)) hAc (by omega);have hM6:=hM.out.side (o':=boxOb kc (List.toArray (Fr.vals ⟨t.g,t.p,(entR ⟨t.p,0,0,t.r⟩ P.gates[s.g].s (fun k=>s.r (k+1)))⟩))) hA9 (kp_sets4 V5 kc _ 3) (fun _ r=>.inl r);replace hB:=ζ (hB.out.trans hM6.2);replace hM6:=ζ hM6.1;go_upto_region 6 with fail
 refine wp_region_lit ?_;iterate 3 (refine xp fun K hK=>?_;go_simp;with_reducible refine hK _ _ ?_;clear hK K;(try simp only[xap]))
 refine xp fun K hK=>?_
 refine wp_copy_z _ _ rfl kc 3 15 15 (by rfl) (some ⟨a,7,none⟩) P.gates[s.g].s 15 (by rfl) (by omega) (fun k=>s.r (k+1)) (.inr ⟨a,7,rfl,hra.out.2⟩) hthc.out ?_;with_reducible refine hK _ _ ?_
 clear hK K;try simp only[xap]
 generalize World.setCells _ _ _ _=V6 at*;clear hM hAc hthc hra hA9;obtain⟨gs2,cs2,c22,hcs2,hgs,f22,_,hpop⟩:=hM6.out.top L t hst.out;have hlc2:(L.length:Int)≤(cs2:Int):=by omega
 have hlt6:=World.block_lt_of_cell? V6 _ c22;replace hpop:=ζ hpop;go_upto_region 8 with fail
 refine wp_world (fun X=>MIn B X a P {s with st:=L} (boxOb kc (List.toArray (Fr.vals ⟨t.g,t.p,(entR ⟨t.p,0,0,t.r⟩ P.gates[s.g].s (fun k=>s.r (k+1)))⟩))::boxOb kb i.w::l)∧Below B V6 X) hpop.out ?_;rintro V7 ⟨hM7,hB7⟩;replace hB:=ζ (hB.out.trans hB7);replace hM7:=ζ hM7;clear hM6 hpop c22 f22 hB7 hlt6;have hAq:=ζ (hM7.out.there (boxOb kc (List.toArray (Fr.vals ⟨t.g,t.p,(entR ⟨t.p,0,0,t.r⟩ P.gates[s.g].s (fun k=>s.r (k+1)))⟩))) (.head _));have hth:=ζ (hM7.out.there4);have hN:=hM7.out.hand ⟨t.g,t.p,(entR ⟨t.p,0,0,t.r⟩ P.gates[s.g].s (fun k=>s.r (k+1)))⟩;replace hB:=ζ (hB.out.trans hN.2);replace hN:=ζ hN.1;refine wp_region_lit ?_;refine xp fun K hK=>?_
 go_simp;with_reducible refine hK _ _ ?_
 clear hK K;try simp only[xap]
 refine xp fun K hK=>?_
 refine wp_load_mid _ _ rfl _ 0 rfl (Fr.vals ⟨t.g,t.p,(entR ⟨t.p,0,0,t.r⟩ P.gates[s.g].s (fun k=>s.r (k+1)))⟩) _ hAq.out.range Tryz.underlying81 rfl (by rw[Fr.len];kernel_rfl) (hK _ _ ?_);clear hK K;try simp only[xap]
 iterate 2 (refine xp fun K hK=>?_;go_simp;with_reducible refine hK _ _ ?_;clear hK K;(try simp only[xap]))
 refine xp fun K hK=>?_
 refine wp_store_mid _ _ _ rfl _ _ (List.toArray (Fr.vals ⟨t.g,t.p,(entR ⟨t.p,0,0,t.r⟩ P.gates[s.g].s (fun k=>s.r (k+1)))⟩)) rfl rfl (show World.there _ _ _ _ by simpa [Fr.len]using hth.out) (by rw[List.size_toArray,Fr.len];kernel_rfl) (Fr.one _) (hK _ _ ?_);clear hK K;try simp only[Act.put]
 generalize World.setCells _ _ _ _=V9 at*;go_wp2_with fail
 first|go_end0|((try simp only[Exit.inBlock,Exit.then]);refine xre ?_)
 exact⟨rfl,hN.out.drop.drop,hB.out⟩
theorem eqs_gates (ad:Addr)(n c:Nat)(W:World):(binOp .eql 23 (.slice (some ad) n c) (.slice none 0 0)).run Tryz.prog W=.ok (.bool false) W:=rfl
theorem clone_gates (b off n c:Nat)(xs:List Value)(w:World)(hb:b<w.heap.size)(hl:xs.length=n*19)(hc:∀j u,xs[j]?=some u→w.cell? ⟨b,off+j,none⟩=some u)(h1:∀u∈xs,u.oneCell'=true)(hn:n≤2000000):
 Calls Tryz.prog 22 #[.slice (some ⟨b,off,none⟩) n c] w fun x w'=>∃v,x=.returned v∧w'.ownsRow w.heap.size 70 19 v n xs∧Below w.heap.size w w':=by
 have eq0:=eqs_gates ⟨b,off,none⟩ n c;obtain⟨i0,hi,hz0,hz1,hz2⟩:=T.info_parts' (t:=70) (z:=.agg #[.int .i64 0,.int .i64 0,.int .i64 0,.int .u64 0,.int .u64 0,.int .u64 0,.int .u64 0,.int .u64 0,.int .u64 0,.int .u64 0,.int .u64 0,.int .u64 0,.int .u64 0,.int .u64 0,.int .u64 0,.int .u64 0,.int .u64 0,.int .u64 0,.int .u64 0]) (s:=19) (b:=152) (by kernel_rfl);have hO:(w.alloc (.cells #[] 70)).ownsRow w.heap.size 70 19 (.slice (some ⟨w.heap.size,0,none⟩) 0 0) 0 []:=⟨by simp,.inr ⟨w.heap.size,0,#[],rfl,Nat.le_refl _,(MapKept.heap_alloc w _).1,Nat.le_refl _,by simp[maxLen],by simp,by simp⟩⟩;have hc2:∀j u,xs[j]?=some u→(w.alloc (.cells #[] 70)).cell? ((⟨b,off,none⟩:Addr).add j)=some u:=fun j u q=>by
  rw[addr_addZ];exact(T.cell_of_block (((Below.refl _ w).alloc (Nat.le_refl _) _).block b hb) _).trans (hc j u q)
 have hby:(0+n)*152≤140737488355328:=by omega
 replace hO:=ζ hO;replace hc2:=ζ hc2;replace hc:=ζ hc;replace h1:=ζ h1;go_enter Tryz.func22,Tryz.ntmps22;go_wp2_with(at_builtin;refine wpList_append_own_at _ rfl (.tmp 5) (.tmp 6) 23 rfl w.heap.size 70 i0 (.agg #[.int .i64 0,.int .i64 0,.int .i64 0,.int .u64 0,.int .u64 0,.int .u64 0,.int .u64 0,.int .u64 0,.int .u64 0,.int .u64 0,.int .u64 0,.int .u64 0,.int .u64 0,.int .u64 0,.int .u64 0,.int .u64 0,.int .u64 0,.int .u64 0,.int .u64 0]) 19 152 Tryz.underlying23 hi hz0 hz1 hz2 rfl (by decide) (.slice (some ⟨w.heap.size,0,none⟩) 0 0) 0 [] rfl hO.out ⟨b,off,none⟩ n c xs rfl hl hc2.out h1.out (by unfold maxLen;omega) hby (by simp) ?_);intro v' w' g1 g2 _ _;replace g1:=ζ g1;have g4:Hz (Below w.heap.size w w'):=ζ (Below.trans (((Below.refl _ w).alloc (Nat.le_refl _) _)) (T.Below.of_grown g2 (by simp) (fun k r=>by simp[Value.ownBlock]at r;omega)));clear g2;go_wp2_with fail;go_ret;exact⟨_,rfl,g1.out,g4.out⟩
theorem eqs_u64 (ad:Addr)(n c:Nat)(W:World):(binOp .eql 26 (.slice (some ad) n c) (.slice none 0 0)).run Tryz.prog W=.ok (.bool false) W:=rfl
theorem eqn_u64 (n c:Nat)(W:World):(binOp .eql 26 (.slice none n c) (.slice none 0 0)).run Tryz.prog W=.ok (.bool true) W:=rfl
theorem clone_u64 (b off n c:Nat)(xs:List Value)(w:World)(hb:b<w.heap.size)(hl:xs.length=n*1)(hc:∀j u,xs[j]?=some u→w.cell? ⟨b,off+j,none⟩=some u)(h1:∀u∈xs,u.oneCell'=true)(hn:n≤2000000):
 Calls Tryz.prog 26 #[.slice (some ⟨b,off,none⟩) n c] w fun x w'=>∃v,x=.returned v∧w'.ownsRow w.heap.size 51 1 v n xs∧Below w.heap.size w w':=by
 have eq0:=eqs_u64 ⟨b,off,none⟩ n c;obtain⟨i0,hi,hz0,hz1,hz2⟩:=T.info_parts' (t:=51) (z:=.int .u64 0) (s:=1) (b:=8) (by kernel_rfl);have hO:(w.alloc (.cells #[] 51)).ownsRow w.heap.size 51 1 (.slice (some ⟨w.heap.size,0,none⟩) 0 0) 0 []:=⟨by simp,.inr ⟨w.heap.size,0,#[],rfl,Nat.le_refl _,(MapKept.heap_alloc w _).1,Nat.le_refl _,by simp[maxLen],by simp,by simp⟩⟩;have hc2:∀j u,xs[j]?=some u→(w.alloc (.cells #[] 51)).cell? ((⟨b,off,none⟩:Addr).add j)=some u:=fun j u q=>by
  rw[addr_addZ];exact(T.cell_of_block (((Below.refl _ w).alloc (Nat.le_refl _) _).block b hb) _).trans (hc j u q)
 have hby:(0+n)*8≤140737488355328:=by omega
 replace hO:=ζ hO;replace hc2:=ζ hc2;replace hc:=ζ hc;replace h1:=ζ h1;go_enter Tryz.func26,Tryz.ntmps26;go_wp2_with(at_builtin;refine wpList_append_own_at _ rfl (.tmp 5) (.tmp 6) 26 rfl w.heap.size 51 i0 (.int .u64 0) 1 8 Tryz.underlying26 hi hz0 hz1 hz2 rfl (by decide) (.slice (some ⟨w.heap.size,0,none⟩) 0 0) 0 [] rfl hO.out ⟨b,off,none⟩ n c xs rfl hl hc2.out h1.out (by unfold maxLen;omega) hby (by simp) ?_);intro v' w' g1 g2 _ _;replace g1:=ζ g1;have g4:Hz (Below w.heap.size w w'):=ζ (Below.trans (((Below.refl _ w).alloc (Nat.le_refl _) _)) (T.Below.of_grown g2 (by simp) (fun k r=>by simp[Value.ownBlock]at r;omega)));clear g2;go_wp2_with fail;go_ret;exact⟨_,rfl,g1.out,g4.out⟩
theorem clnil_u64 (w:World):Calls Tryz.prog 26 #[.slice none 0 0] w fun x w'=>x=.returned (.slice none 0 0)∧w'=w:=by
 have eq0:=eqn_u64 0 0;go_enter Tryz.func26,Tryz.ntmps26;go_wp2_with fail;go_ret;exact⟨rfl,rfl⟩
theorem eqs_tcs (ad:Addr)(n c:Nat)(W:World):(binOp .eql 64 (.slice (some ad) n c) (.slice none 0 0)).run Tryz.prog W=.ok (.bool false) W:=rfl
theorem eqn_tcs (n c:Nat)(W:World):(binOp .eql 64 (.slice none n c) (.slice none 0 0)).run Tryz.prog W=.ok (.bool true) W:=rfl
theorem clone_tcs (b off n c:Nat)(xs:List Value)(w:World)(hb:b<w.heap.size)(hl:xs.length=n*3)(hc:∀j u,xs[j]?=some u→w.cell? ⟨b,off+j,none⟩=some u)(h1:∀u∈xs,u.oneCell'=true)(hn:n≤2000000):
 Calls Tryz.prog 27 #[.slice (some ⟨b,off,none⟩) n c] w fun x w'=>∃v,x=.returned v∧w'.ownsRow w.heap.size 67 3 v n xs∧Below w.heap.size w w':=by
 have eq0:=eqs_tcs ⟨b,off,none⟩ n c;obtain⟨i0,hi,hz0,hz1,hz2⟩:=T.info_parts' (t:=67) (z:=.agg #[.bool false,.int .u64 0,.int .u64 0]) (s:=3) (b:=24) (by kernel_rfl);have hO:(w.alloc (.cells #[] 67)).ownsRow w.heap.size 67 3 (.slice (some ⟨w.heap.size,0,none⟩) 0 0) 0 []:=⟨by simp,.inr ⟨w.heap.size,0,#[],rfl,Nat.le_refl _,(MapKept.heap_alloc w _).1,Nat.le_refl _,by simp[maxLen],by simp,by simp⟩⟩;have hc2:∀j u,xs[j]?=some u→(w.alloc (.cells #[] 67)).cell? ((⟨b,off,none⟩:Addr).add j)=some u:=fun j u q=>by
  rw[addr_addZ];exact(T.cell_of_block (((Below.refl _ w).alloc (Nat.le_refl _) _).block b hb) _).trans (hc j u q)
 have hby:(0+n)*24≤140737488355328:=by omega
 replace hO:=ζ hO;replace hc2:=ζ hc2;replace hc:=ζ hc;replace h1:=ζ h1;go_enter Tryz.func27,Tryz.ntmps27;go_wp2_with(at_builtin;refine wpList_append_own_at _ rfl (.tmp 5) (.tmp 6) 64 rfl w.heap.size 67 i0 (.agg #[.bool false,.int .u64 0,.int .u64 0]) 3 24 Tryz.underlying64 hi hz0 hz1 hz2 rfl (by decide) (.slice (some ⟨w.heap.size,0,none⟩) 0 0) 0 [] rfl hO.out ⟨b,off,none⟩ n c xs rfl hl hc2.out h1.out (by unfold maxLen;omega) hby (by simp) ?_);intro v' w' g1 g2 _ _;replace g1:=ζ g1;have g4:Hz (Below w.heap.size w w'):=ζ (Below.trans (((Below.refl _ w).alloc (Nat.le_refl _) _)) (T.Below.of_grown g2 (by simp) (fun k r=>by simp[Value.ownBlock]at r;omega)));clear g2;go_wp2_with fail;go_ret;exact⟨_,rfl,g1.out,g4.out⟩
theorem clnil_tcs (w:World):Calls Tryz.prog 27 #[.slice none 0 0] w fun x w'=>x=.returned (.slice none 0 0)∧w'=w:=by
 have eq0:=eqn_tcs 0 0;go_enter Tryz.func27,Tryz.ntmps27;go_wp2_with fail;go_ret;exact⟨rfl,rfl⟩
end Z
end Go.Proofs.YtdidjhillmgccaaGreat
