import Derived.Test.YtdidjhillmgccaaGreatP34
import Derived.Test.YtdidjhillmgccaaGreatZDNwM
import Derived.Test.YtdidjhillmgccaaGreatP23
import Derived.Test.YtdidjhillmgccaaGreatP15
import Derived.Test.YtdidjhillmgccaaGreatP22
import Derived.Test.YtdidjhillmgccaaGreatP26
import Derived.Test.YtdidjhillmgccaaGreatP24
import Derived.Test.YtdidjhillmgccaaGreatP32
namespace Go.Proofs.YtdidjhillmgccaaGreat
namespace Z
open Go.RowKit
open T (Sep Ob Kp Mf FlIn boxOb)
theorem DIo.set5 {B:Nat}{W:World}{b:Nat}{c:Dc}{P:Pr}{s:Fm}{og op:Nat}{l:List Ob}(h:DIo B W b c P s og op l)(e0:s.e=0)(v0:s.v=0)(f0:s.f=0):DIo B (W.setCells b 27 [Value.int .i64 0,.int .u64 0,.int .i64 0,.int .i64 s.g,.int .i64 s.p]) b c P s s.g s.p l∧Below B W (W.setCells b 27 [Value.int .i64 0,.int .u64 0,.int .i64 0,.int .i64 s.g,.int .i64 s.p])∧W.there b 27 5:=by
 obtain⟨⟨q,h1,ia,ic,e,h2⟩,le⟩:=h;have hb:DBx W b (dxOf c P s q og op):=h1.ins (dbOb b (dxOf c P s q og op)) (by simp[dobs]);have hk:=kp_setsZ W b [Value.int .i64 0,.int .u64 0,.int .i64 0,.int .i64 s.g,.int .i64 s.p] 27;have hb2:DBx (W.setCells b 27 [Value.int .i64 0,.int .u64 0,.int .i64 0,.int .i64 s.g,.int .i64 s.p]) b (dxOf c P s q s.g s.p):=by
  have:=hb.out5 0 0 0 s.g s.p;unfold Dx.out5 dxOf at this;unfold dxOf;rw[e0,v0,f0]at*;exact this
 have h3:=sep_change (l1:=[]) (o:=dbOb b (dxOf c P s q og op)) (o':=dbOb b (dxOf c P s q s.g s.p)) h1 hb2 hk (fun _ r=>.inl r) le;have bb:=sep_below (l1:=[]) (o:=dbOb b (dxOf c P s q og op)) h1 hk le;exact⟨⟨⟨q,h3,ia,ic,e,h2.below bb⟩,Nat.le_trans le bb.size⟩,bb,fun j hj=>⟨by rw[hb.at_ (27+j) (by omega)];rfl,hb.fr _⟩⟩
end Z
set_option maxRecDepth 100000
set_option maxHeartbeats 40000000
namespace Z
open Go.RowKit
open T (Sep Ob Kp Mf FlIn boxOb)
theorem nw16 {j n:Nat}(h:j<n)(h7:n≤7):IntKind.i64.wrap (1+(j:Int))=1+(j:Int)∧1+(j:Int)<16∧(0:Int)≤1+(j:Int)∧(1+(j:Int)).toNat=1+j:=⟨by simp[IntKind.wrap,IntKind.bits,IntKind.signed];omega,by omega,by omega,by omega⟩
theorem nw17 {j n:Nat}(h:j<n)(h7:n≤7):1+j<16:=by omega
theorem dnew_ok (R:Rp)(ca ga:Option Addr)(cc gc:Nat)(mem:List UInt8)(gate:Nat)(sa:Option Addr)(n sc:Nat)(A:Nat→Int)(ia:Option Addr)(ic:Nat)(L:List Int)(w:World)(hP:RpIn w ca ga R)(is:R.Is)(ok:R.Ok mem.length)(hrl:∀r∈R.code,r.length≤2000000)(hgl:gate<R.gates.length)(hna:(n:Int)=R.gates[gate].a)(B:Nat)(hB:B≤w.heap.size)(hpg:DPg B w ⟨ca,ga,cc,gc,.string (T.str mem)⟩ R.pr)(hLf:LgIn B w ia ic L)(l:List Ob)(hl:Sep B w (giOb B (.slice ia L.length ic) L::l))(hsrc:n=0∨∃sb so,sa=some ⟨sb,so,none⟩∧∀X,Below B w X→(∀o∈l,o.In X)→∀j,j<n→X.cell? ⟨sb,so+j,none⟩=some (.int .u64 (A j)))(st:Fm)(hst:start R.gates[gate].fg gate n A L mem=st):
 Calls Tryz.prog 18 #[.agg #[.slice ca R.code.length cc,.slice ga R.gates.length gc,.string (T.str mem),.int .i64 R.dep],.int .i64 gate,.slice sa n sc,.slice ia L.length ic] w fun x w'=>∃b,x=.returned (.tuple #[.pointer (some ⟨b,0,none⟩),.int .i64 0])∧DIo B w' b ⟨ca,ga,cc,gc,.string (T.str mem)⟩ R.pr st st.g st.p l∧Below B w w':=by
 obtain⟨dRow,hDR⟩:=dRw;have el1:R.pr.code.length=R.code.length:=by simp[Rp.pr]
 have el2:R.pr.gates.length=R.gates.length:=by simp[Rp.pr]
 have hgp:gate<R.pr.gates.length:=by rw[el2];exact hgl
 have eg:R.pr.gates[gate]=R.gates[gate].fg:=by simp[Rp.pr]
 have okp:=ok.pr is;obtain⟨gb,goff,hga,hgbB,hgr⟩:=hpg.gate gate hgp;dsimp only at hga;subst hga;have hai:=(okp.gate gate hgp (by rw[el1,ok.nc];exact hgl)).2.1;have han:R.pr.gates[gate].a=n:=by rw[eg];show R.gates[gate].a.toNat=n;omega
 have hn7:n≤7:=by omega
 have hms:(T.str mem).size≤65536:=by rw[T.str_size];exact ok.mm
 have hmay:=ζ (fun U (q:Gr w U)=>dmay_any R ca (some ⟨gb,goff,none⟩) cc gc (T.str mem) U (hP.gr q) is hrl);have hok:Hz (R.Ok (T.str mem).size):=ζ (by rw[T.str_size];exact ok);have hi:(gate:Int)<(R.gates.length:Int):=Int.ofNat_lt.2 hgl;have hi2:¬(R.gates.length:Int)≤(gate:Int):=by omega
 have hnn:((n:Int) != (n:Int))=false:=by simp
 obtain⟨d19,hd19⟩:∃z,R.gates[gate].fg=z:=⟨_,rfl⟩;rw[eg,hd19]at hai han hgr;rw[hd19]at hst;have hR5:w.cell? ⟨gb,goff+gate*19+1,none⟩=some (.int .i64 n):=by
  have:=hgr w (Below.refl _ w) 1 (.int .i64 d19.a) rfl;rw[han]at this;exact this
 replace hna:=ζ hna;replace hms:=ζ hms;replace hst:=ζ hst;replace hd19:=ζ hd19;replace eg:=ζ eg;replace hgr:=ζ hgr;replace hrl:=ζ hrl;replace is:=ζ is;replace ok:=ζ ok;replace okp:=ζ okp;replace el1:=ζ el1;replace el2:=ζ el2;replace hpg:=ζ hpg;replace hsrc:=ζ hsrc;replace hP:=ζ hP;replace hl:=ζ hl;replace hLf:=ζ hLf;go_enter Tryz.func18,Tryz.ntmps18;go_upto_region 1 with fail
 refine wp_world (fun W=>At W w.heap.size (List.toArray [Value.slice ca R.code.length cc,.slice (some ⟨gb,goff,none⟩) R.gates.length gc,.string (T.str mem),.int .i64 R.dep])∧Gr w W) ⟨At.new w _ _,(Gr.refl _).alloc _⟩ ?_;rintro W ⟨hA,G⟩;have hkw:Hz (w.heap.size≤w.heap.size):=ζ (Nat.le_refl _);generalize hkp:w.heap.size=kp at hA hkw ⊢;have d0:W.cell? ⟨kp,0,none⟩=some (.slice ca R.code.length cc):=hA.2.1 0;have d1:W.cell? ⟨kp,1,none⟩=some (.slice (some ⟨gb,goff,none⟩) R.gates.length gc):=hA.2.1 1;have d2:W.cell? ⟨kp,2,none⟩=some (.string (T.str mem)):=hA.2.1 2;have d3:W.cell? ⟨kp,3,none⟩=some (.int .i64 R.dep):=hA.2.1 3;have hmy:=ζ (hmay.out W G);go_wp2_with fail;refine hmy.out.mono ?_;rintro r V ⟨⟨vv,rfl,hb⟩,gV⟩;obtain rfl:vv=true:=hb.2 hok.out;replace hA:=hA.gr gV;replace G:=G.trans gV;clear d0 d1 d2 d3 hmy hmay gV hb;have d1:V.cell? ⟨kp,1,none⟩=some (.slice (some ⟨gb,goff,none⟩) R.gates.length gc):=hA.2.1 1
 have d5:V.cell? ⟨gb,goff+gate*19+1,none⟩=some (.int .i64 n):=(T.cell_of_block (G.below.block gb (Nat.lt_of_lt_of_le hgbB hB)) _).trans hR5;replace hA:=ζ hA;go_upto_region 6 with fail
 clear d1 d5 hR5;have hlV:Sep B V (boxOb kp (List.toArray [Value.slice ca R.code.length cc,.slice (some ⟨gb,goff,none⟩) R.gates.length gc,.string (T.str mem),.int .i64 R.dep])::giOb B (.slice ia L.length ic) L::l):=hl.out.add _ hA.out (fun q r=>by have:q=kp:=r;omega) G.below hB;have hBV:B≤V.heap.size:=Nat.le_trans hB G.below.size;have Gd:Gr V V.drew:=(Gr.refl V).drew;have hlD:=hlV.gr Gd.below;obtain⟨hDI,hbD⟩:=dbegin dRow hDR (show B≤V.drew.heap.size from hBV) ca (some ⟨gb,goff,none⟩) ia cc gc ic (T.str mem) R.pr L (sep_perm hlD (List.Perm.swap _ _ _)) (hLf.out.below ((G.below.mono hB).trans (Gd.below.mono hBV))) 96;rw[el1.out,el2.out]at hDI hbD;have hDd:R.pr.dep=R.dep:=rfl;rw[hDd]at hDI hbD;clear hDd;replace hDI:DIo B ((V.drew.alloc (.cells dRow 5)).alloc (.cells (dmV ca (some ⟨gb,goff,none⟩) ia R.code.length cc R.gates.length gc L.length ic V.heap.size (T.str mem) R.dep).toArray 96)) (V.heap.size+1) ⟨ca,some ⟨gb,goff,none⟩,cc,gc,.string (T.str mem)⟩ R.pr (zFm L (fun _=>0)) 0 0 (boxOb kp (List.toArray [Value.slice ca R.code.length cc,.slice (some ⟨gb,goff,none⟩) R.gates.length gc,.string (T.str mem),.int .i64 R.dep])::l):=hDI
 have bq0:Below V.heap.size V V.drew:=Gd.below;have bq1:Below V.heap.size V (V.drew.alloc (.cells dRow 5)):=bq0.alloc bq0.size _;have bq2:Below V.heap.size V ((V.drew.alloc (.cells dRow 5)).alloc (.cells (dmV ca (some ⟨gb,goff,none⟩) ia R.code.length cc R.gates.length gc L.length ic V.heap.size (T.str mem) R.dep).toArray 96)):=bq1.alloc bq1.size _;have KS:Hz (∀U,Below V.heap.size V U→U.rangeAt kp 0 [Value.slice ca R.code.length cc,.slice (some ⟨gb,goff,none⟩) R.gates.length gc,.string (T.str mem),.int .i64 R.dep]):=ζ (fun U q j v e=>by rw[Nat.zero_add];exact(T.cell_of_block (q.block kp hA.out.1) _).trans ((hA.out.2.1 j).trans (by simpa using e)));have mk1:=hDR.2 V.drew;replace hDR:=ζ hDR;replace hDI:=ζ hDI;replace hlV:=ζ hlV;replace hlD:=ζ hlD;have hB2:=ζ ((G.below.mono hB).trans (bq2.mono hBV));clear hbD;refine wp_region_held_drew (S:=(fun W=>W.rangeAt kp 0 [Value.slice ca R.code.length cc,.slice (some ⟨gb,goff,none⟩) R.gates.length gc,.string (T.str mem),.int .i64 R.dep])) (by kernel_rfl) (KS.out _ bq0) (fun hHeld=>?_)
 refine xtk 0 rfl (yieldsIf_load_mid (by rfl) _ _ rfl _ _ rfl _ _ (fun _ h=>h) Tryz.underlying25 rfl (by kernel_rfl)) ?_;try simp only[xap]
 refine xz 2 rfl (h:=?_);try simp only[xap]
 refine xrd 1 rfl (fun K hK=>?_);go_simp;clear hHeld;refine hK.out _ _ (KS.out _ bq1) (fun hHeld=>?_);clear hK K;try simp only[xap]
 refine xtk 3 rfl (yields_dm (by rfl) _ _ _ rfl ca (some ⟨gb,goff,none⟩) ia R.code.length cc R.gates.length gc L.length ic V.heap.size (T.str mem) R.dep (by rfl) (by rfl) (by rfl)) ?_;try simp only[xap]
 refine xrd 4 rfl (fun K hK=>?_);go_simp;clear hHeld;refine hK.out _ _ (KS.out _ bq2) (fun hHeld=>?_);clear hK K;try simp only[xap]
 refine xz 5 rfl (h:=?_);try simp only[xap]
 refine xdn ?_ _;clear hHeld mk1;go_upto_region 7 with fail
 refine wp_world (fun X=>DIo B X (V.heap.size+1) ⟨ca,some ⟨gb,goff,none⟩,cc,gc,.string (T.str mem)⟩ R.pr (zFm L (fun _=>0)) 0 0 (boxOb kp (List.toArray [Value.slice ca R.code.length cc,.slice (some ⟨gb,goff,none⟩) R.gates.length gc,.string (T.str mem),.int .i64 R.dep])::l)∧Below B w X) ?_ ?_
 ·exact⟨hDI.out,hB2.out⟩
 clear hDI hB2;rintro V2 ⟨hDI,hB2⟩;replace hDI:=ζ hDI;replace hB2:=ζ hB2;clear KS bq0 bq1 bq2 hlV hlD Gd;generalize V.heap.size+1=b at*;have gd:Gr V2 V2.drew:=(Gr.refl V2).drew;have hB3:=ζ (hB2.out.trans (gd.below.mono hDI.out.le));have hD:=hDI.out.gr gd.below;clear gd hDI hB2;obtain⟨g,k9,x23,hcs,⟨v0,hv0⟩,hly⟩:=hD.lay;have xkp:V2.drew.cell? ⟨kp,2,none⟩=some (.string (T.str mem)):=(hD.there (boxOb kp (List.toArray [Value.slice ca R.code.length cc,.slice (some ⟨gb,goff,none⟩) R.gates.length gc,.string (T.str mem),.int .i64 R.dep])) (.head _)).2.1 2;have em:((T.str mem).data.toList.map fun x=>Value.int .u8 (x.toNat:Int))=mem.map fun x=>Value.int .u8 (x.toNat:Int):=by simp[T.str]
 have hng:g≠b:=fun q=>by
  rw[q]at hv0;obtain⟨q2,hq⟩:=hD.box;have:=(hq.at_ 0 (by omega)).symm.trans hv0;injection this with this
  cases this
 have hkg:g≠kp:=fun q=>by
  rw[q]at hv0;have:=((hD.there (boxOb kp (List.toArray [Value.slice ca R.code.length cc,.slice (some ⟨gb,goff,none⟩) R.gates.length gc,.string (T.str mem),.int .i64 R.dep])) (.head _)).2.1 0).symm.trans hv0
  cases this
 have k7:(V2.drew.setCells g 0 ((T.str mem).data.toList.map fun x=>Value.int .u8 (x.toNat:Int))).cell? ⟨b,23,none⟩=some (.slice (some ⟨g,0,none⟩) 65536 k9)∧(V2.drew.setCells g 0 ((T.str mem).data.toList.map fun x=>Value.int .u8 (x.toNat:Int))).cell? ⟨kp,2,none⟩=some (.string (T.str mem)):=⟨(T.cell_of_block ((kp_setsZ _ g _ 0).block b (by obtain⟨q2,hq⟩:=hD.box;exact hq.lt) (fun e=>hng e.symm)) _).trans x23,(T.cell_of_block ((kp_setsZ _ g _ 0).block kp (hD.there (boxOb kp (List.toArray [Value.slice ca R.code.length cc,.slice (some ⟨gb,goff,none⟩) R.gates.length gc,.string (T.str mem),.int .i64 R.dep])) (.head _)).1 (fun e=>hkg e.symm)) _).trans xkp⟩;have h7:=hly mem;rw[←em]at h7;replace h7:=ζ h7;replace hcs:=ζ hcs;clear hly hD em hng hkg hv0;refine wp_region_held_drew (S:=(fun X=>X.cell? ⟨b,23,none⟩=some (.slice (some ⟨g,0,none⟩) 65536 k9)∧X.cell? ⟨kp,2,none⟩=some (.string (T.str mem)))) (by kernel_rfl) (⟨x23,xkp⟩) (fun hHeld=>?_)
 refine xz 0 rfl (h:=xz 1 rfl (h:=xz 2 rfl (h:=xz 3 rfl (h:=xz 4 rfl (h:=xz 5 rfl (h:=?_))))));try simp only[xap]
 refine xrd 6 rfl (fun K hK=>?_);clear hHeld;refine step_copy_string (by rfl) _ _ _ _ rfl 5 Tryz.underlying94 (fun _=>by kernel_rfl) g 0 65536 k9 (by rfl) (T.str mem) (by rfl) hms.out (fun j hj=>by rw[Nat.zero_add];exact(hcs.out j (Nat.lt_of_lt_of_le hj hms.out)).1) (fun j hj=>by rw[Nat.zero_add];exact(hcs.out j (Nat.lt_of_lt_of_le hj hms.out)).2) ?_;refine hK.out _ _ k7 (fun hHeld=>?_);clear hK K;try simp only[xap]
 refine xdn ?_ _;generalize hV3:V2.drew.setCells g 0 ((T.str mem).data.toList.map fun x=>Value.int .u8 (x.toNat:Int))=V3 at*;clear hHeld x23 xkp k7 hcs hV3;replace hB3:=ζ (hB3.out.trans h7.out.2);have hD:=h7.out.1;clear h7;have h8:=hD.new (List.toArray (regs (fun _=>0))) 68;replace hD:=ζ hD;replace h8:=ζ h8;go_upto_region 10 with fail
 refine wp_world (fun X=>DIo B X b ⟨ca,some ⟨gb,goff,none⟩,cc,gc,.string (T.str mem)⟩ R.pr {zFm L (fun _=>0)with m:=T.layB (fun _=>0) 0 mem mem.length} 0 0 (boxOb V3.heap.size (List.toArray (regs (fun _=>0)))::boxOb kp (List.toArray [Value.slice ca R.code.length cc,.slice (some ⟨gb,goff,none⟩) R.gates.length gc,.string (T.str mem),.int .i64 R.dep])::l)∧Below B V3 X) h8.out ?_;rintro V4 ⟨hD4,hb4⟩;replace hB3:=ζ (hB3.out.trans hb4);replace hD4:=ζ hD4;clear h8 hD hb4;generalize V3.heap.size=kr at*;replace han:=ζ han;clear hai hnn hms hok hBV hi;go_loopw [13] (fun x wr=>∃j:Nat,x=.int .i64 j∧j≤n∧Hz (DIo B wr b ⟨ca,some ⟨gb,goff,none⟩,cc,gc,.string (T.str mem)⟩ R.pr {zFm L (fun _=>0)with m:=T.layB (fun _=>0) 0 mem mem.length} 0 0 (boxOb kr (List.toArray (regs (entR zFg j A)))::boxOb kp (List.toArray [Value.slice ca R.code.length cc,.slice (some ⟨gb,goff,none⟩) R.gates.length gc,.string (T.str mem),.int .i64 R.dep])::l))∧Hz (Below B w wr)) (fun x _=>n - (intOf x).toNat)
 case atStart=>exact⟨0,rfl,Nat.zero_le _,ζ (by rw[entR_zero];exact hD4.out),hB3⟩
 case round=>
  clear hD4 hB3;obtain⟨j,rfl,hj,hD,hB3⟩:=hrel;by_cases hjn:j<n
  ·have hj1:(j:Int)<(n:Int):=Int.ofNat_lt.2 hjn;obtain⟨sb,so,rfl,hsc⟩:∃sb so,sa=some ⟨sb,so,none⟩∧∀X,Below B w X→(∀o∈l,o.In X)→∀j,j<n→X.cell? ⟨sb,so+j,none⟩=some (.int .u64 (A j)):=by
    rcases hsrc.out with q|q
    ·omega
    ·exact q
   have cs:wr.cell? ⟨sb,so+j,none⟩=some (.int .u64 (A j)):=hsc wr hB3.out (fun o ho=>hD.out.there o (by simp[ho])) j hjn;have hAk:=hD.out.there (boxOb kr (List.toArray (regs (entR zFg j A)))) (.head _);have ck:wr.cell? ⟨kr,1+j,none⟩=some (.int .u64 (entR zFg j A (1+j))):=(hAk.2.1 (1+j)).trans (by simpa using regs_at _ (1+j) (nw17 hjn hn7));have fk:wr.frozen? ⟨kr,1+j,none⟩=false:=hAk.2.2 _;have hlk:kr<wr.heap.size:=hAk.1;have hA2:=at_regs hAk (1+j) (nw17 hjn hn7) (A j);have hs2:=hD.out.side (o':=boxOb kr (List.toArray (regs (entR zFg (j+1) A)))) (by rw[entR_next,Nat.add_comm j 1];exact hA2) (Kp.set (S:=fun k=>k=kr) wr ⟨kr,1+j,none⟩ (.int .u64 (A j)) rfl) (fun _ r=>.inl r);obtain⟨hwj,hj16,hj0,hjt⟩:=nw16 hjn hn7;replace hs2:=ζ hs2;replace hA2:=ζ hA2;replace hAk:=ζ hAk;replace hsc:=ζ hsc;go_upto_region 12 with fail
   refine wp_region_lit ?_;iterate 7 (refine xp fun K hK=>?_;go_simp;with_reducible refine hK _ _ ?_;clear hK K;(try simp only[xap]))
   refine xp fun K hK=>?_
   go_simp;with_reducible refine hK _ _ ?_
   clear hK K;try simp only[Act.put]
   go_wp2_with fail;refine⟨⟨j+1,?_,hjn,ζ hs2.out.1,ζ (hB3.out.trans hs2.out.2)⟩,?_⟩
   ·first|rfl|rw[next_wZ hjn (by omega)]|go_num
   ·first|exact next_mZ hjn|(rw[next_wZ hjn (by omega)];exact next_mZ hjn)
  ·have hj1:¬(j:Int)<(n:Int):=fun q=>hjn (Int.ofNat_lt.1 q)
   obtain rfl:j=n:=by omega
   have hgr2:wr.rangeAt gb (goff+gate*19) R.pr.gates[gate].vals:=by
    rw[eg.out,hd19.out];exact hgr.out wr hB3.out
   have hen:=ζ (denter B wr b ⟨ca,some ⟨gb,goff,none⟩,cc,gc,.string (T.str mem)⟩ R.pr {zFm L (fun _=>0)with m:=T.layB (fun _=>0) 0 mem mem.length} 0 0 (boxOb kr (List.toArray (regs (entR zFg j A)))::boxOb kp (List.toArray [Value.slice ca R.code.length cc,.slice (some ⟨gb,goff,none⟩) R.gates.length gc,.string (T.str mem),.int .i64 R.dep])::l) hD.out gate gb goff hgp rfl hgbB hgr2 (by rw[eg.out,hd19.out,han.out];exact hn7) (entR zFg j A));have hrw:=ζ (fun(i:Nat) (v:Value) (q:(regs (entR zFg j A))[i]?=some v)=>((hD.out.there (boxOb kr (List.toArray (regs (entR zFg j A)))) (.head _)).2.1 i).trans (by simpa using q));obtain⟨s1,hs1⟩:∃s1:Fm,s1={zFm L (fun _=>0)with m:=T.layB (fun _=>0) 0 mem mem.length,r:=entR R.pr.gates[gate] R.pr.gates[gate].a (fun i=>entR zFg j A (i+1)),g:=gate,p:=R.pr.gates[gate].e}:=⟨_,rfl⟩;have hsst:Hz (s1=st):=ζ (by rw[hs1,eg.out,hd19.out,han.out,ent_args,←hst.out];unfold start zFm;rw[List.take_of_length_le ok.out.mm])
   go_upto_region 13 with fail;refine wp_region_lit ?_;iterate 2 (refine xp fun K hK=>?_;go_simp;with_reducible refine hK _ _ ?_;clear hK K;(try simp only[xap]))
   refine xp fun K hK=>?_
   refine wp_load_mid _ _ rfl _ 0 rfl (regs (entR zFg j A)) _ (fun i v q=>by rw[Nat.zero_add];exact hrw.out i v q) Tryz.underlying68 rfl (by rw[regs_len];kernel_rfl) (hK _ _ ?_);clear hK K;try simp only[xap]
   refine xp fun K hK=>?_
   go_simp
   (refine hen.out.mono ?_;rintro r V5 ⟨rfl,h5,hb5⟩)
   with_reducible refine hK _ _ ?_
   clear hK K;try simp only[xap]
   replace hB3:=ζ (hB3.out.trans hb5);replace h5:DIo B V5 b ⟨ca,some ⟨gb,goff,none⟩,cc,gc,.string (T.str mem)⟩ R.pr s1 0 0 (boxOb kr (List.toArray (regs (entR zFg j A)))::boxOb kp (List.toArray [Value.slice ca R.code.length cc,.slice (some ⟨gb,goff,none⟩) R.gates.length gc,.string (T.str mem),.int .i64 R.dep])::l):=by rw[hs1];exact h5
   replace h5:=h5.drop.drop;have e0:s1.e=0:=by rw[hs1];rfl
   have v0:s1.v=0:=by rw[hs1];rfl
   have f0:s1.f=0:=by rw[hs1];rfl
   replace hs1:=ζ hs1;clear hen hrw hD hb5;have gd:Gr V5 V5.drew:=(Gr.refl V5).drew;replace hB3:=ζ (hB3.out.trans (gd.below.mono h5.le));replace h5:=h5.gr gd.below;clear gd;obtain⟨h6,b6,t5⟩:=h5.set5 e0 v0 f0;obtain⟨d4,d5,_⟩:=h5.hand;obtain⟨f4,f5,_⟩:=h6.hand;have hE5:=ζ e0;replace h5:=ζ h5;replace h6:=ζ h6;replace t5:=ζ t5;clear e0 v0 f0;go_upto_region 14 with fail
   refine wp_region_held_drew (S:=(fun X=>X.cell? ⟨b,4,none⟩=some (.int .i64 s1.g)∧X.cell? ⟨b,5,none⟩=some (.int .i64 s1.p))) (by kernel_rfl) (⟨d4,d5⟩) (fun hHeld=>?_);generalize V5.drew=V6 at*;refine xz 0 rfl (h:=xz 1 rfl (h:=xz 2 rfl (h:=xz 3 rfl (h:=xz 4 rfl (h:=xz 5 rfl (h:=xz 6 rfl (h:=xz 7 rfl (h:=xz 8 rfl (h:=xz 9 rfl (h:=xz 10 rfl (h:=xz 11 rfl (h:=?_))))))))))));try simp only[xap]
   refine xrd 12 rfl (fun K hK=>?_);rw[if_pos (by rfl)];refine wp_store_mid _ _ _ rfl _ _ (List.toArray _) rfl rfl (t5.out) (by kernel_rfl) (by simp[Value.oneCell']) ?_;refine hK.out _ _ (⟨f4,f5⟩) (fun hHeld=>?_);clear hK K;try simp only[Act.put]
   refine xdn ?_ _;clear hHeld d4 d5 f4 f5 h5 t5;replace hB3:=ζ (hB3.out.trans b6);generalize World.setCells _ _ _ _=V12 at*;go_wp2_with fail;go_ret2;refine⟨b,rfl,?_,hB3.out⟩;rw[←hsst.out];exact h6.out
theorem make_rowY {t e:TypeId}{z:Value}{b:Nat}(ht:Tryz.prog.underlying t=some (.slice e))(hi:(Tryz.prog.info? e).map (fun i=>(i.zero,i.size,i.bytes))=some (some z,1,b))(hz:z.cells=#[z])(hb:b≤64)(n:Nat)(hn:n≤3000000)(w:World):
 (Instr.makeSlice t (.int .i64 n) (.int .i64 n)).run Tryz.prog w=.ok (.slice (some ⟨w.heap.size,0,none⟩) n n) (w.alloc (.cells (Array.replicate n z) e)):=by
 obtain⟨i0,hi0,hz0,hz1,hz2⟩:=T.info_parts' hi;have hbb:(i0.bytes:Int)*(n:Int)≤281474976710656:=by
  rw[hz2];have:b*n≤64*3000000:=Nat.mul_le_mul hb hn;have h:((b*n:Nat):Int)≤281474976710656:=by omega
  rwa [Int.natCast_mul]at h
 have h:=run_make (P:=Tryz.prog) w t e i0 z ht hi0 hz0 .i64 .i64 n n (by omega) (by omega) hbb (by omega);rw[hz1,hz,Nat.mul_one,Int.toNat_natCast,made_oneZ]at h;exact h
theorem FRow.block {w w1:World}{g n:Nat}{V:Nat→Value}(h:FRow w g n V)(hs:w.heap.size≤w1.heap.size)(hb:w1.heap[g]?=w.heap[g]?):FRow w1 g n V:=
 ⟨Nat.lt_of_lt_of_le h.lt hs,fun j hj=>(T.cell_of_block hb j).trans (h.at_ j hj),fun j=>(T.frozen_of_block hb j).trans (h.fr j)⟩
theorem FRow.congr {w:World}{g n:Nat}{V U:Nat→Value}(h:FRow w g n V)(e:∀j,j<n→V j=U j):FRow w g n U:=⟨h.lt,fun j hj=>by rw[←e j hj];exact h.at_ j hj,h.fr⟩
def wdF (L:List Int)(i:Nat)(j:Nat):Value:=if j<i then .int .u64 (L.getD j 77)else .int .u64 0
def wdA (L:List Int)(j:Nat):Value:=.int .u64 (L.getD j 77)
theorem wdF_next (L:List Int)(i:Nat)(v:Int)(hv:v=L.getD i 77)(j:Nat):updF (wdF L i) i (.int .u64 v) j=wdF L (i+1) j:=by
 unfold updF wdF;by_cases e:j=i
 ·rw[if_pos e,if_pos (by omega),hv,e]
 ·rw[if_neg e];by_cases h:j<i
  ·rw[if_pos h,if_pos (by omega)]
  ·rw[if_neg h,if_neg (by omega)]
theorem updF_two (V:Nat→Value)(i:Nat)(a b:Value)(j:Nat):updF (updF V i a) i b j=updF V i b j:=by
 unfold updF;by_cases e:j=i
 ·rw[if_pos e,if_pos e]
 ·rw[if_neg e,if_neg e,if_neg e]
theorem below_set1 {B g j:Nat}{w W:World}(h:Below B w W)(hg:B≤g)(v:Value):Below B w (W.setCell ⟨g,j,none⟩ v):=h.setCell hg v
theorem words_any (L:List Int)(sa:Option Addr)(sc:Nat)(w:World)(hL:WIn w sa L)(hl:L.length≤2000000):
 Calls Tryz.prog 16 #[.slice sa L.length sc] w fun x w'=>∃k,x=.returned (.slice (some ⟨k,0,none⟩) L.length (L.length+8))∧w.heap.size≤k∧FRow w' k (L.length+8) (wdA L)∧Below w.heap.size w w':=by
 have w1:wrap64 ((L.length:Int)+8)=(L.length:Int)+8:=by unfold wrap64;omega
 have w2:IntKind.i64.wrap ((L.length:Int)+8)=(L.length:Int)+8:=by rw[IntKind.wrap_i64];omega
 have u2:(L.length:Int)≤(L.length:Int)+8:=by omega
 have mk1:=make_rowY (t:=26) (e:=51) (z:=.int .u64 0) (b:=8) Tryz.underlying26 (by kernel_rfl) rfl (by decide) (L.length+8) (by omega) w;rw[show((L.length+8:Nat):Int)=(L.length:Int)+8 by omega]at mk1;have hF0:=ζ (FRow.new w (L.length+8) (.int .u64 0) 51);have hB0:=ζ ((Below.refl _ w).alloc (Nat.le_refl w.heap.size) (.cells (Array.replicate (L.length+8) (.int .u64 0)) 51));have hn8:L.length+8≤3000000:=by omega
 replace hL:=ζ hL;go_enter Tryz.func16,Tryz.ntmps16;go_upto_region 3 with fail
 generalize hWW:w.alloc (.cells (Array.replicate (L.length+8) (.int .u64 0)) 51)=W3 at*;have hgw:w.heap.size≤w.heap.size:=Nat.le_refl _;generalize hg:w.heap.size=g at mk1 hF0 hgw ⊢;replace hg:=ζ hg;replace hWW:=ζ hWW;clear mk1;go_loopw [4] (fun x wr=>∃i:Nat,x=.int .i64 i∧i≤L.length+8∧Hz (FRow wr g (L.length+8) (wdF L i))∧Hz (Below w.heap.size w wr)) (fun x _=>L.length+8 - (intOf x).toNat)
 case atStart=>exact⟨0,rfl,Nat.zero_le _,ζ (hF0.out.congr (fun j _=>by unfold wdF;rw[if_neg (by omega)])),hB0⟩
 case round=>
  clear hF0 hB0;obtain⟨i,rfl,hi,hF,hB⟩:=hrel;by_cases hin:i<L.length+8
  ·have hi1:(i:Int)<(L.length:Int)+8:=by omega
   have c1:=hF.out.at_ i hin;have f1:=hF.out.fr i;have hgl:=hF.out.lt;have hF1:=hF.out.set i (.int .u64 77) hin;have hB1:=below_set1 (g:=g) (j:=i) hB.out (by have:=hg.out;omega) (.int .u64 77);by_cases hil:i<L.length
   ·have hi2:(i:Int)<(L.length:Int):=by omega
    obtain⟨b,off,rfl,hbl,hcl⟩:=hL.out i hil;have hbg:b≠g:=by have:=hg.out;omega
    have c2:wr.cell? ⟨b,off+i,none⟩=some (.int .u64 L[i]):=(T.cell_of_block (hB.out.block b hbl) _).trans hcl;have c3:(wr.setCell ⟨g,i,none⟩ (.int .u64 77)).cell? ⟨b,off+i,none⟩=some (.int .u64 L[i]):=by rw[T.cso (fun e=>absurd e.symm hbg)];exact c2
    have c4:=hF1.at_ i hin;have f4:=hF1.fr i;have hF2:=hF1.set i (.int .u64 L[i]) hin;have hB2:=below_set1 (g:=g) (j:=i) hB1 (by have:=hg.out;omega) (.int .u64 L[i]);have hfr:=hF2.congr (fun j _=>(updF_two _ _ _ _ j).trans (wdF_next L i L[i] (by simp[hil]) j));have hbn:=hB2;have hgl2:=hF1.lt;replace hF1:=ζ hF1;replace hF2:=ζ hF2;replace hB1:=ζ hB1;replace hB2:=ζ hB2;replace hfr:=ζ hfr;replace hbn:=ζ hbn;clear hcl;go_wp2_with fail;replace hfr:=hfr.out;replace hbn:=hbn.out;refine⟨⟨i+1,?_,hin,ζ hfr,ζ hbn⟩,?_⟩
    ·first|rfl|rw[next_wZ hin (by omega)]|go_num
    ·first|exact next_mZ hin|(rw[next_wZ hin (by omega)];exact next_mZ hin)
   ·have hi2:¬(i:Int)<(L.length:Int):=by omega
    have hfr:=hF1.congr (fun j _=>wdF_next L i 77 (by simp[List.getD_eq_getElem?_getD,List.getElem?_eq_none (by omega:L.length≤i)]) j);have hbn:=hB1;replace hF1:=ζ hF1;replace hB1:=ζ hB1;replace hfr:=ζ hfr;replace hbn:=ζ hbn;go_wp2_with fail;replace hfr:=hfr.out;replace hbn:=hbn.out;refine⟨⟨i+1,?_,hin,ζ hfr,ζ hbn⟩,?_⟩
    ·first|rfl|rw[next_wZ hin (by omega)]|go_num
    ·first|exact next_mZ hin|(rw[next_wZ hin (by omega)];exact next_mZ hin)
  ·have hi1:¬(i:Int)<(L.length:Int)+8:=by omega
   obtain rfl:i=L.length+8:=by omega
   go_wp2_with fail;go_ret;exact⟨g,rfl,Nat.le_of_eq hg.out,hF.out.congr (fun j hj=>by unfold wdF wdA;rw[if_pos hj]),hB.out⟩
def FrF (w:World)(g n i:Nat)(V:Nat→Value):Prop:=∃U,FRow w g n U∧∀j,i≤j→U j=V j
theorem FrF.set {w:World}{g n i:Nat}{V:Nat→Value}(h:FrF w g n i V)(v:Value)(hi:i<n):FrF (w.setCell ⟨g,i,none⟩ v) g n (i+1) V:=by
 obtain⟨U,h1,h2⟩:=h;refine⟨_,h1.set i v hi,fun j hj=>?_⟩;unfold updF;rw[if_neg (by omega)];exact h2 j (by omega)
theorem FrF.at {w:World}{g n i:Nat}{V:Nat→Value}(h:FrF w g n i V)(hi:i<n):w.cell? ⟨g,i,none⟩=some (V i)∧w.frozen? ⟨g,i,none⟩=false∧g<w.heap.size:=by
 obtain⟨U,h1,h2⟩:=h;exact⟨by rw[←h2 i (Nat.le_refl i)];exact h1.at_ i hi,h1.fr i,h1.lt⟩
def padA (L:List Ri):Array Value:=(rowV [] Ri.vals (L++List.replicate 8 riZ)).toArray
def padG (L:List Rg):Array Value:=(rowV [] Rg.vals (L++List.replicate 8 rgZ)).toArray
def rowF (C:List (List Ri))(K:Nat→Nat)(k:Nat)(j:Nat):Value:=if j<k then .slice (some ⟨K j,0,none⟩) (C.getD j []).length ((C.getD j []).length+8)else .slice none 0 0
def rwE (C:List (List Ri))(K:Nat→Nat)(j:Nat):Value:=.slice (some ⟨K j,0,none⟩) ((C.getD j []).length+8) ((C.getD j []).length+8)
def rwsL (C:List (List Ri))(K:Nat→Nat)(k:Nat):List Value:=(List.range k).map (rwE C K)
def updN (K:Nat→Nat)(k g:Nat):Nat→Nat:=fun j=>if j=k then g else K j
theorem updN_at (K:Nat→Nat)(k g:Nat):updN K k g k=g:=by unfold updN;rw[if_pos rfl]
theorem updN_ne (K:Nat→Nat){k g j:Nat}(h:j≠k):updN K k g j=K j:=by unfold updN;rw[if_neg h]
theorem rwsL_upd (C:List (List Ri))(K:Nat→Nat)(k g:Nat):rwsL C (updN K k g) k=rwsL C K k:=by
 unfold rwsL;refine List.map_congr_left (fun j hj=>?_);unfold rwE;rw[updN_ne K (by have:=List.mem_range.1 hj;omega)]
theorem rwsL_succ (C:List (List Ri))(K:Nat→Nat)(k:Nat):rwsL C K (k+1)=rwsL C K k++[rwE C K k]:=by
 unfold rwsL;rw[List.range_succ,List.map_append]
 rfl
theorem made_copyY {α:Type}{vals:α→List Value}{k b:Nat}{Z:α}(hk:0<k)(hv:∀x,(vals x).length=k)(h1:∀x,∀v∈vals x,v.oneCell'=true){t e:TypeId}(ty:TypeId)(ht:Tryz.prog.underlying t=some (.slice e))(hi:(Tryz.prog.info? e).map (fun i=>(i.zero,i.size,i.bytes))=some (some (.agg (vals Z).toArray),k,b))(hs:(Tryz.prog.info? e).map (·.size)=some k)
 (L:List α)(a:Option Addr)(c:Nat)(w:World)(hL:T.EIn k vals w a L)(hb:b≤256)(hn:L.length≤2000000):
 ∃V9 V2,(Instr.makeSlice t (.int .i64 ((L.length:Int)+8)) (.int .i64 ((L.length:Int)+8))).run Tryz.prog w=.ok (.slice (some ⟨w.heap.size,0,none⟩) (L.length+8) (L.length+8)) V9∧
 (Builtin.copy_ #[t,t] ty #[.slice (some ⟨w.heap.size,0,none⟩) (L.length+8) (L.length+8),.slice a L.length c]).run Tryz.prog V9=.ok (goInt L.length) V2∧
 At V2 w.heap.size (rowV [] vals (L++List.replicate 8 Z)).toArray∧Gr w V9∧Gr w V2∧w.heap.size<V2.heap.size∧w.heap.size<V9.heap.size:=by
 have hb2:b*(L.length+8)≤281474976710656:=Nat.le_trans (Nat.mul_le_mul_right _ hb) (by omega);have hm:=make_k (vals:=vals) (Z:=Z) (t:=t) (e:=e) (k:=k) (b:=b) hk hv ht hi (L.length+8) (by omega) hb2 w;rw[show((L.length+8:Nat):Int)=(L.length:Int)+8 by omega]at hm;have g1:Gr w (w.alloc (.cells (rowV [] vals (List.replicate (L.length+8) Z)).toArray e)):=(Gr.refl w).alloc _;have q:=copy_rows (c:=c) (k:=k) hk hv h1 ty ht hs (At.new w (rowV [] vals (List.replicate (L.length+8) Z)).toArray e) (L:=L) (a:=a) (ein_fin hv hL g1.below) (by simp);rw[List.length_replicate]at q;refine⟨_,_,hm,q.1,?_,g1,g1.setCells _ (Nat.le_refl _) _ _,q.2.1,(At.new w (rowV [] vals (List.replicate (L.length+8) Z)).toArray e).1⟩;have:=q.2;rw[List.drop_replicate,show L.length+8 - L.length=8 by omega]at this;exact this
structure Ln2 (W1 wr:World)(g:Nat)(C:List (List Ri))(k:Nat)(K:Nat→Nat):Prop where
 row:FRow wr g (C.length+8) (rowF C K k)
 done:∀j,j<k→W1.heap.size≤K j∧K j≠g∧At wr (K j) (padA (C.getD j []))
 inj:∀i j,i<k→j<k→K i=K j→i=j
 bel:Below W1.heap.size W1 wr
 new:W1.heap.size≤g
theorem at_keep {S:Nat→Prop}{w w1:World}{b:Nat}{cs:Array Value}(h:At w b cs)(q:Kp S w w1)(hn:¬S b):At w1 b cs:=
 ⟨Nat.lt_of_lt_of_le h.1 q.size,fun j=>(T.cell_of_block (q.block b h.1 hn) j).trans (h.2.1 j),fun j=>(T.frozen_of_block (q.block b h.1 hn) j).trans (h.2.2 j)⟩
theorem FRow.keep {S:Nat→Prop}{w w1:World}{g n:Nat}{V:Nat→Value}(h:FRow w g n V)(q:Kp S w w1)(hn:¬S g):FRow w1 g n V:=h.block q.size (q.block g h.lt hn)
theorem Ln2.keep {W1 wr W:World}{g k:Nat}{C:List (List Ri)}{K:Nat→Nat}{S:Nat→Prop}(h:Ln2 W1 wr g C k K)(q:Kp S wr W)(hg:¬S g)(hS:∀b,S b→W1.heap.size≤b)(hr:∀j,j<k→¬S (K j)):Ln2 W1 W g C k K:=
 ⟨h.row.keep q hg,fun j hj=>⟨(h.done j hj).1,(h.done j hj).2.1,at_keep (h.done j hj).2.2 q (hr j hj)⟩,h.inj,h.bel.trans ⟨q.os,q.tape,q.output,q.size,fun b hb=>q.block b (Nat.lt_of_lt_of_le hb h.bel.size) (fun r=>by have:=hS b r;omega)⟩,h.new⟩
theorem Ln2.gr {W1 wr W:World}{g k:Nat}{C:List (List Ri)}{K:Nat→Nat}(h:Ln2 W1 wr g C k K)(q:Gr wr W):Ln2 W1 W g C k K:=
 h.keep (S:=fun _=>False) (Kp.of_below q.below) (fun r=>r) (fun _ r=>r.elim) (fun _ _ r=>r)
theorem Ln2.lay {W1 wr:World}{g k gk:Nat}{C:List (List Ri)}{K:Nat→Nat}(h:Ln2 W1 wr g C k K)(hk:k<C.length)(h1:W1.heap.size≤gk)(h2:gk≠g)(h3:∀j,j<k→K j≠gk)(h4:At wr gk (padA C[k])):Ln2 W1 (wr.setCell ⟨g,k,none⟩ (.slice (some ⟨gk,0,none⟩) C[k].length (C[k].length+8))) g C (k+1) (updN K k gk):=by
 have hkp:Kp (fun b=>b=g) wr (wr.setCell ⟨g,k,none⟩ (.slice (some ⟨gk,0,none⟩) C[k].length (C[k].length+8))):=Kp.set (S:=fun b=>b=g) wr ⟨g,k,none⟩ _ rfl;have eC:C.getD k []=C[k]:=by simp[hk]
 refine⟨(h.row.set k _ (by omega)).congr (fun j hj=>?_),fun j hj=>?_,fun i j hi hj e=>?_,h.bel.trans ⟨hkp.os,hkp.tape,hkp.output,hkp.size,fun b hb=>hkp.block b (Nat.lt_of_lt_of_le hb h.bel.size) (fun e=>by have:=h.new;omega)⟩,h.new⟩
 ·unfold updF rowF;by_cases e:j=k
  ·subst e;rw[if_pos rfl,if_pos (by omega),updN_at,eC]
  ·rw[if_neg e];by_cases q:j<k
   ·rw[if_pos q,if_pos (by omega),updN_ne K e]
   ·rw[if_neg q,if_neg (by omega)]
 ·by_cases e:j=k
  ·subst e;rw[updN_at,eC];exact⟨h1,h2,at_keep h4 hkp h2⟩
  ·rw[updN_ne K e];obtain⟨e1,e2,e3⟩:=h.done j (by omega);exact⟨e1,e2,at_keep e3 hkp e2⟩
 ·by_cases ei:i=k
  ·by_cases ej:j=k
   ·omega
   ·rw[ei,updN_at,updN_ne K ej]at e;exact absurd e.symm (h3 j (by omega))
  ·by_cases ej:j=k
   ·rw[ej,updN_at,updN_ne K ei]at e;exact absurd e (h3 i (by omega))
   ·rw[updN_ne K ei,updN_ne K ej]at e;exact h.inj i j (by omega) (by omega) e
def Apt2 (v:Value)(g k:Nat)(K:Nat→Nat):Prop:=∀b,v.ownBlock=some b→b≠g∧∀j,j<k→K j≠b
theorem Apt2.lay {v:Value}{g k gk:Nat}{K:Nat→Nat}(h:Apt2 v g k K)(hb:∀b,v.ownBlock=some b→b≠gk):Apt2 v g (k+1) (updN K k gk):=fun b hv=>by
 obtain⟨h1,h2⟩:=h b hv;refine⟨h1,fun j hj=>?_⟩;by_cases ej:j=k
 ·subst ej;rw[updN_at];exact fun q=>hb b hv q.symm
 ·rw[updN_ne K ej];exact h2 j (by omega)
theorem Ln2.app {W1 wr W:World}{g k g9 c9 n9:Nat}{C:List (List Ri)}{K:Nat→Nat}{v:Value}(h:Ln2 W1 wr g C k K)(ap:Apt2 v g k K)(q:wr.grownBy W v.ownBlock)(hv:∀b,v.ownBlock=some b→W1.heap.size≤b)(h9:v.ownBlock=some g9∨g9=wr.heap.size):Ln2 W1 W g C k K∧Apt2 (.slice (some ⟨g9,0,none⟩) n9 c9) g k K:=by
 refine⟨h.keep (kp_grown q) (fun r=>(ap g r).1 rfl) hv (fun j hj r=>(ap (K j) r).2 j hj rfl),fun b hb=>?_⟩;have e9:g9=b:=by simpa [Value.ownBlock]using hb
 subst e9;rcases h9 with r|r
 ·exact ap _ r
 ·subst r;refine⟨fun e=>?_,fun j hj e=>?_⟩
  ·have:=h.row.lt;omega
  ·have:=(h.done j hj).2.2.1;omega
structure LnA (lo hi:Nat)(W:World)(kc kg:Nat)(K:Nat→Nat)(rv:Value)(R:Rp):Prop where
 row:FRow W kc (R.code.length+8) (rowF R.code K R.code.length)
 done:∀j,j<R.code.length→(lo≤K j∧K j<hi)∧K j≠kc∧K j≠kg∧At W (K j) (padA (R.code.getD j []))
 inj:∀i j,i<R.code.length→j<R.code.length→K i=K j→i=j
 own:W.ownsRow lo 54 1 rv R.code.length (rwsL R.code K R.code.length)
 ap:∀b,rv.ownBlock=some b→b<hi∧b≠kc∧b≠kg∧∀j,j<R.code.length→K j≠b
 gates:At W kg (padG R.gates)
 kc_:lo≤kc∧kc<hi
 kg_:lo≤kg∧kg<hi
 ne:kc≠kg
theorem LnA.keep {lo hi:Nat}{W W':World}{kc kg:Nat}{K:Nat→Nat}{rv:Value}{R:Rp}{S:Nat→Prop}(h:LnA lo hi W kc kg K rv R)(q:Kp S W W')(hS:∀k,lo≤k→k<hi→¬S k):LnA lo hi W' kc kg K rv R:=
 ⟨h.row.keep q (hS _ h.kc_.1 h.kc_.2),fun j hj=>⟨(h.done j hj).1,(h.done j hj).2.1,(h.done j hj).2.2.1,at_keep (h.done j hj).2.2.2 q (hS _ (h.done j hj).1.1 (h.done j hj).1.2)⟩,h.inj,own_keep h.own q (fun k r=>hS k ((h.own.lt k r).1) ((h.ap k r).1)),h.ap,at_keep h.gates q (hS _ h.kg_.1 h.kg_.2),h.kc_,h.kg_,h.ne⟩
theorem ln_fin {w W V2 V5 V6:World}{g kg:Nat}{R:Rp}{K:Nat→Nat}{v:Value}(h:Ln2 W V2 g R.code R.code.length K)(ho:V2.ownsRow W.heap.size 54 1 v R.code.length (rwsL R.code K R.code.length))(ap:Apt2 v g R.code.length K)(hE:At V2 kg (padG R.gates))(k1:Kp (fun b=>b=w.heap.size) V2 V5)(k2:Kp (fun b=>b=w.heap.size+1) V5 V6)(hs:W.heap.size=w.heap.size+1+1)(hg1:W.heap.size≤kg)(hg2:kg≠g)(hg3:∀j,j<R.code.length→K j≠kg)(hg4:∀b,v.ownBlock=some b→b≠kg):LnA w.heap.size V6.heap.size V6 g kg K v R:=by
 have hk:Kp (fun b=>b=w.heap.size∨b=w.heap.size+1) V2 V6:=(Kp.mono k1 (fun _ r=>.inl (.inl r))).trans (Kp.mono k2 (fun _ r=>.inl (.inr r))) (fun _ r=>.inl r);have hnew:=h.new;have hz:=hk.size;refine⟨h.row.keep hk (by omega),fun j hj=>?_,h.inj,own_monoZ (own_keep ho hk (fun k r=>by have:=(ho.lt k r).1;omega)) (by omega),fun b r=>?_,at_keep hE hk (by omega),⟨by omega,by have:=h.row.lt;omega⟩,⟨by omega,by have:=hE.1;omega⟩,fun e=>hg2 e.symm⟩
 ·obtain⟨e1,e2,e3⟩:=h.done j hj;exact⟨⟨by omega,by have:=e3.1;omega⟩,e2,hg3 j hj,at_keep e3 hk (by omega)⟩
 ·exact⟨by have:=(ho.lt b r).2;omega,(ap b r).1,hg4 b r,(ap b r).2⟩
theorem ri_eql (i:Ri)(W:World):(binOp .eql 53 (.agg i.vals.toArray) (.agg i.vals.toArray)).run Tryz.prog W=.ok (.bool true) W:=by
 show(binOp .eql 53 (.agg i.w) (.agg i.w)).run Tryz.prog W=_;simp[go_sem]
theorem fe_in (dd:Nat)(g p d:Int)(r:Nat→Int)(W:World):(Op.equalIn (dd+6) 70 (.agg (snV g p d r).toArray) (.agg (snV g p d r).toArray)).run Tryz.prog W=.ok true W:=by
 have ha:=arr_in dd r W;unfold snV;rw[regs_lit]at ha ⊢;simp[go_sem,ha]
theorem fe_eql (g:Rg)(W:World):(binOp .eql 70 (.agg g.vals.toArray) (.agg g.vals.toArray)).run Tryz.prog W=.ok (.bool true) W:=by
 rw[show g.vals=snV g.e g.a g.s g.r from rfl,run_eql_struct,fe_in 9994 g.e g.a g.s g.r W]
 rfl
theorem FrF.mono {w:World}{g n i j:Nat}{V:Nat→Value}(h:FrF w g n i V)(hj:i≤j):FrF w g n j V:=by
 obtain⟨U,h1,h2⟩:=h;exact⟨U,h1,fun k hk=>h2 k (by omega)⟩
theorem FrF.keep {S:Nat→Prop}{w w1:World}{g n i:Nat}{V:Nat→Value}(h:FrF w g n i V)(q:Kp S w w1)(hn:¬S g):FrF w1 g n i V:=by
 obtain⟨U,h1,h2⟩:=h;exact⟨U,h1.keep q hn,h2⟩
theorem FrF.sets {g n:Nat}{V:Nat→Value}(vs:List Value):∀{w:World} {i:Nat} (_:FrF w g n i V) (_:i+vs.length≤n),FrF (w.setCells g i vs) g n (i+vs.length) V:=by
 induction vs with
 |nil=>intro w i h _;exact h
 |cons v r ih=>
  intro w i h hl;rw[List.length_cons]at hl;have:=ih (h.set v (by omega)) (by omega);rw[List.length_cons,show i+(r.length+1)=i+1+r.length by omega];exact this
theorem FrF.there {w:World}{g n i:Nat}{V:Nat→Value}(h:FrF w g n i V)(o k:Nat)(hk:o+k≤n):w.there g o k:=by
 obtain⟨U,h1,_⟩:=h;exact fun j hj=>⟨by rw[h1.at_ (o+j) (by omega)];rfl,h1.fr _⟩
def cellF (A:Array Value)(m:Nat):Value:=A.getD m undef
theorem frf_at {w:World}{b:Nat}{A:Array Value}(h:At w b A):FrF w b A.size 0 (cellF A):=⟨_,⟨h.1,fun j hj=>by rw[h.2.1 j];unfold cellF;simp[hj],h.2.2⟩,fun _ _=>rfl⟩
theorem frf_range {α:Type}{f:α→List Value}{k:Nat}(hf:∀x,(f x).length=k){w:World}{b i:Nat}{L:List α}(h:FrF w b (rowV [] f L).toArray.size (i*k) (cellF (rowV [] f L).toArray))(hi:i<L.length):w.rangeAt b (i*k) (f L[i]):=fun j v q=>by
 obtain⟨U,h1,h2⟩:=h;have hj:j<k:=by have:=(List.getElem?_eq_some_iff.1 q).1;rwa [hf]at this
 have hs:(rowV [] f L).toArray.size=L.length*k:=by simp[row_len hf]
 have hr:=row_at (pre:=[]) hf L i hi j hj;have hlt:i*k+j<L.length*k:=by
  have:(i+1)*k≤L.length*k:=Nat.mul_le_mul_right _ hi;rw[Nat.add_mul]at this;omega
 rw[h1.at_ (i*k+j) (by rw[hs];exact hlt),h2 _ (by omega),cellF];rw[List.length_nil,Nat.zero_add]at hr;rw[q]at hr;simp[Array.getD_eq_getD_getElem?,hr]
theorem pad_size (L:List Ri):(padA L).size=(L.length+8)*5:=by unfold padA;rw[List.size_toArray,row_len ri_len];simp
theorem padG_size (L:List Rg):(padG L).size=(L.length+8)*19:=by unfold padG;rw[List.size_toArray,row_len Rg.len];simp
def elI (L:List Ri)(e:Nat):Ri:=(L++List.replicate 8 riZ).getD e riZ
def elG (L:List Rg)(e:Nat):Rg:=(L++List.replicate 8 rgZ).getD e rgZ
theorem elI_in (L:List Ri)(e:Nat)(h:e<L.length):elI L e=L[e]:=by unfold elI;simp[List.getD_eq_getElem?_getD,List.getElem?_append_left h,h]
theorem elI_out (L:List Ri)(e:Nat)(h:L.length≤e):elI L e=riZ:=by
 unfold elI;rw[List.getD_eq_getElem?_getD,List.getElem?_append_right h,List.getElem?_replicate]
 split<;>rfl
theorem elG_in (L:List Rg)(e:Nat)(h:e<L.length):elG L e=L[e]:=by unfold elG;simp[List.getD_eq_getElem?_getD,List.getElem?_append_left h,h]
theorem elG_out (L:List Rg)(e:Nat)(h:L.length≤e):elG L e=rgZ:=by
 unfold elG;rw[List.getD_eq_getElem?_getD,List.getElem?_append_right h,List.getElem?_replicate]
 split<;>rfl
theorem padA_range {w:World}{b e:Nat}{L:List Ri}(h:FrF w b ((L.length+8)*5) (e*5) (cellF (padA L)))(he:e<L.length+8):w.rangeAt b (e*5) (elI L e).vals:=by
 have h2:FrF w b (rowV [] Ri.vals (L++List.replicate 8 riZ)).toArray.size (e*5) (cellF (rowV [] Ri.vals (L++List.replicate 8 riZ)).toArray):=by
  have:=pad_size L;unfold padA at this;rw[this];exact h
 have hl:e<(L++List.replicate 8 riZ).length:=by simp;omega
 have:=frf_range ri_len h2 hl;rw[show elI L e=(L++List.replicate 8 riZ)[e]by unfold elI;rw[List.getD_eq_getElem?_getD,List.getElem?_eq_getElem hl];rfl];exact this
theorem padG_range {w:World}{b e:Nat}{L:List Rg}(h:FrF w b ((L.length+8)*19) (e*19) (cellF (padG L)))(he:e<L.length+8):w.rangeAt b (e*19) (elG L e).vals:=by
 have h2:FrF w b (rowV [] Rg.vals (L++List.replicate 8 rgZ)).toArray.size (e*19) (cellF (rowV [] Rg.vals (L++List.replicate 8 rgZ)).toArray):=by
  have:=padG_size L;unfold padG at this;rw[this];exact h
 have hl:e<(L++List.replicate 8 rgZ).length:=by simp;omega
 have:=frf_range Rg.len h2 hl;rw[show elG L e=(L++List.replicate 8 rgZ)[e]by unfold elG;rw[List.getD_eq_getElem?_getD,List.getElem?_eq_getElem hl];rfl];exact this
def LnS (kc kg:Nat)(K:Nat→Nat)(n:Nat)(k:Nat):Prop:=k=kc∨k=kg∨∃j,j<n∧k=K j
structure Bk (W1 wr:World)(kc kg:Nat)(K:Nat→Nat)(R:Rp)(i:Nat):Prop where
 kp:Kp (LnS kc kg K R.code.length) W1 wr
 code:FrF wr kc (R.code.length+8) i (rowF R.code K R.code.length)
 rows:∀j,i≤j→j<R.code.length→At wr (K j) (padA (R.code.getD j []))
 gates:At wr kg (padG R.gates)
theorem LnA.rp {lo hi:Nat}{W:World}{kc kg:Nat}{K:Nat→Nat}{rv:Value}{R:Rp}(h:LnA lo hi W kc kg K rv R):RpIn W (some ⟨kc,0,none⟩) (some ⟨kg,0,none⟩) R:=by
 refine⟨fun k hk=>⟨kc,0,some ⟨K k,0,none⟩,R.code[k].length+8,rfl,h.row.lt,?_,fun i hi2=>?_⟩,fun k hk=>⟨kg,0,rfl,h.gates.1,?_⟩⟩
 ·rw[Nat.zero_add,h.row.at_ k (by omega)];unfold rowF;rw[if_pos hk];simp[hk]
 ·have hA:=(h.done k hk).2.2.2;refine⟨K k,0,rfl,hA.1,?_⟩;rw[show R.code.getD k []=R.code[k]by simp[hk]]at hA;have:=frf_at hA;rw[pad_size]at this;have:=padA_range (this.mono (Nat.zero_le (i*5))) (by omega);rw[elI_in _ _ hi2]at this;rw[Nat.zero_add];exact this
 ·have:=frf_at h.gates;rw[padG_size]at this;have:=padG_range (this.mono (Nat.zero_le (k*19))) (by omega);rw[elG_in _ _ hk]at this;rw[Nat.zero_add];exact this
def snapOb (B:Nat)(V:World):Ob:=⟨fun k=>B≤k∧k<V.heap.size,fun X=>V.heap.size≤X.heap.size∧∀k,B≤k→k<V.heap.size→X.heap[k]?=V.heap[k]?,fun _ h _ q=>Nat.lt_of_lt_of_le q.2 h.1,fun _ _ _ h hk hd=>⟨Nat.le_trans h.1 hk.size,fun k h1 h2=>(hk.block k (Nat.lt_of_lt_of_le h2 h.1) (hd k ⟨h1,h2⟩)).trans (h.2 k h1 h2)⟩⟩
theorem snap_sep (B:Nat)(V:World):Sep B V [snapOb B V]:=by
 refine⟨fun o ho=>?_,List.pairwise_cons.2 ⟨fun p hp=>(by cases hp),List.Pairwise.nil⟩,fun o ho k q=>?_⟩
 ·rw[List.mem_singleton.1 ho];exact⟨Nat.le_refl _,fun _ _ _=>rfl⟩
 ·rw[List.mem_singleton.1 ho]at q;exact q.1
theorem snap_below {B:Nat}{V X:World}(h:(snapOb B V).In X)(hb:Below B V X):Below V.heap.size V X:=
 ⟨hb.os,hb.tape,hb.output,h.1,fun k hk=>by
  by_cases q:B≤k
  ·exact h.2 k q hk
  ·exact hb.block k (by omega)⟩
theorem sep_both {B:Nat}{V W':World}{l:List Ob}{b:Nat}{P':Pr}{s':Fm}(h1:Sep B V l)(le:B≤V.heap.size)(h2:MIn V.heap.size W' b P' s' [])(hb:Below V.heap.size V W'):∃q',Sep B W' (obs B b P' s' q'++l):=by
 obtain⟨⟨q',h3⟩,_⟩:=h2;have h4:=obs_low h3 le;have hge:∀o∈obs B b P' s' q',∀k,o.S k→V.heap.size≤k:=fun o ho k r=>by
  have e:(obs B b P' s' q').map Ob.S=(obs V.heap.size b P' s' q').map Ob.S:=rfl;have h5:o.S∈(obs B b P' s' q').map Ob.S:=List.mem_map_of_mem ho;rw[e]at h5;obtain⟨p,hp,e2⟩:=List.mem_map.1 h5;exact h3.ge p (by simp[hp]) k (by rw[e2];exact r)
 rw[List.append_nil]at h4;exact⟨q',sep_append h4 (h1.gr hb) (fun o ho p hp k r t=>by
  have:=hge o ho k r;have:=p.lt V (h1.ins p hp) k t;omega)⟩
theorem src_row {W:World}{k:Nat}{A:List Int}(h:FRow W k (A.length+8) (wdA A)):A.length=0∨∃sb so,(some ⟨k,0,none⟩:Option Addr)=some ⟨sb,so,none⟩∧sb<W.heap.size∧∀j,j<A.length→W.cell? ⟨sb,so+j,none⟩=some (.int .u64 (srcA A j)):=by
 refine .inr ⟨k,0,rfl,h.lt,fun j hj=>?_⟩;rw[Nat.zero_add,h.at_ j (by omega)];unfold wdA srcA;simp[hj]
theorem inl_row {W:World}{k:Nat}{A:List Int}(h:FRow W k (A.length+8) (wdA A)):(((some ⟨k,0,none⟩:Option Addr)=none∧A=[]∧A.length+8=0)∨∃b off,(some ⟨k,0,none⟩:Option Addr)=some ⟨b,off,none⟩∧b<W.heap.size∧∀i (h:i<A.length),W.cell? ⟨b,off+i,none⟩=some (.int .u64 A[i])):=by
 refine .inr ⟨k,0,rfl,h.lt,fun j hj=>?_⟩;rw[Nat.zero_add,h.at_ j (by omega)];unfold wdA;simp[hj]
theorem FRow.bel {B:Nat}{w w1:World}{g n:Nat}{V:Nat→Value}(h:FRow w g n V)(q:Below B w w1)(hg:g<B):FRow w1 g n V:=h.block q.size (q.block g hg)
theorem LnA.bel {lo hi B:Nat}{W W':World}{kc kg:Nat}{K:Nat→Nat}{rv:Value}{R:Rp}(h:LnA lo hi W kc kg K rv R)(q:Below B W W')(hB:hi≤B):LnA lo hi W' kc kg K rv R:=
 h.keep (S:=fun k=>B≤k) ⟨q.os,q.tape,q.output,q.size,fun k _ hn=>q.block k (by omega)⟩ (fun k _ h2 r=>by have:B≤k:=r;omega)
end Z
end Go.Proofs.YtdidjhillmgccaaGreat
