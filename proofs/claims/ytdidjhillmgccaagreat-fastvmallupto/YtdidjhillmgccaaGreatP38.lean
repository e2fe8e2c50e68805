import Derived.Test.YtdidjhillmgccaaGreatP34
import Derived.Test.YtdidjhillmgccaaGreatP22
import Derived.Test.YtdidjhillmgccaaGreatP37
import Derived.Test.YtdidjhillmgccaaGreatP32
import Derived.Test.YtdidjhillmgccaaGreatP23
import Derived.Test.YtdidjhillmgccaaGreatP35
import Derived.Test.YtdidjhillmgccaaGreatZBck
import Derived.OwnWalk
import Derived.Laws.AppendOwn
import Derived.Test.YtdidjhillmgccaaGreatP26
import Derived.Test.YtdidjhillmgccaaGreatTNew
namespace Go.Proofs.YtdidjhillmgccaaGreat
set_option maxRecDepth 100000
set_option maxHeartbeats 40000000
namespace Z
open Go.RowKit
open T (Sep Ob Kp Mf FlIn boxOb)
def DGo (B b:Nat)(c:Dc)(P:Pr)(s s':Fm):Prop:=∀V l',DIo B V b c P s s.g s.p l'→DPg B V c P→Calls Tryz.prog 29 #[.pointer (some ⟨b,0,none⟩)] V fun x w'=>x=.returned s'.outc∧DIo B w' b c P s' s'.g s'.p l'∧Below B V w'
theorem drunA (B:Nat)(W0:World)(b:Nat)(c:Dc)(P:Pr)(l:List Ob)(n m:Nat)(N:Int)(f:Nat→Fm)(h:DIo B W0 b c P (f 0) (f 0).g (f 0).p l)(hpg:DPg B W0 c P)(hm:m≤n)(_hn:n≤100000)(h0:∀k,k<m→(f k).e=0)(hG:∀k,k<m→DGo B b c P (f k) (f (k+1)))(hE:m=n∨(f m).e≠0)(hN:N≤100000)(hlt:∀k:Nat,(k:Int)<N↔k<n)(t:Fm)(ht:(if(f m).e=0 then sp (f m)else f m)=t):
 Calls Tryz.prog 30 #[.pointer (some ⟨b,0,none⟩),.int .i64 N] W0 fun x w'=>x=.returned t.outc∧DIo B w' b c P t t.g t.p l∧Below B W0 w':=by
 have h2:=ζ (h.new (List.toArray [Value.int .i64 0,.int .u64 0,.int .i64 0,.int .i64 0,.int .i64 0]) 62);clear h;replace h0:=ζ h0;replace hG:=ζ hG;replace hE:=ζ hE;replace hpg:=ζ hpg;replace ht:=ζ ht;have hNn:¬100000<N:=by omega
 replace hlt:=ζ hlt;go_enter Tryz.func30,Tryz.ntmps30;go_upto_region 1 with fail
 refine wp_world (fun W=>DIo B W b c P (f 0) (f 0).g (f 0).p (boxOb W0.heap.size (List.toArray [Value.int .i64 0,.int .u64 0,.int .i64 0,.int .i64 0,.int .i64 0])::l)∧Below B W0 W) h2.out ?_;rintro W ⟨h,hB⟩;replace h:=ζ h;replace hB:=ζ hB;clear h2;generalize W0.heap.size=kr at*;go_upto_region 4 with fail
 go_loopw [5] (fun x wr=>∃k:Nat,x=.int .i64 k∧k≤m∧Hz (DIo B wr b c P (f k) (f k).g (f k).p (boxOb kr (List.toArray [Value.int .i64 0,.int .u64 0,.int .i64 0,.int .i64 0,.int .i64 0])::l))∧Hz (Below B W0 wr)) (fun x _=>n - (intOf x).toNat)
 case atStart=>exact⟨0,rfl,Nat.zero_le _,h,hB⟩
 case round=>
  clear h hB;obtain⟨k,rfl,hk,h,hB⟩:=hrel;have c27:wr.cell? ⟨b,27,none⟩=some (.int .i64 (f k).e):=h.out.row5 0 _ rfl;by_cases hkn:k<n
  ·have hk1:(k:Int)<N:=(hlt.out k).2 hkn;by_cases hkm:k<m
   ·rw[h0.out k hkm]at c27;have hg:=ζ (hG.out k hkm wr _ h.out (hpg.out.below hB.out));go_wp2_with fail;refine hg.out.mono ?_;rintro r V ⟨rfl,h2,hB2⟩;replace h2:=ζ h2;replace hB:=ζ (hB.out.trans hB2);clear h hg hB2 c27;go_wp2_with fail;refine⟨⟨k+1,?_,hkm,h2,hB⟩,?_⟩
    ·first|rfl|rw[next_wZ hkn (by omega)]|go_num
    ·first|exact next_mZ hkn|(rw[next_wZ hkn (by omega)];exact next_mZ hkn)
   ·obtain rfl:k=m:=by omega
    have e1:(f k).e≠0:=by
     rcases hE.out with q|q
     ·omega
     ·exact q
    replace ht:=ht.out;have e2:¬(f k).e=0:=e1;have e3:((f k).e==0)=false:=by simpa using e2
    replace e1:=ζ e1;rw[if_neg e2]at ht;obtain rfl:=ht;replace e2:=ζ e2;have hro:=ζ h.out.row5;have hA9:At wr kr (List.toArray [Value.int .i64 0,.int .u64 0,.int .i64 0,.int .i64 0,.int .i64 0]):=h.out.there (boxOb kr (List.toArray [Value.int .i64 0,.int .u64 0,.int .i64 0,.int .i64 0,.int .i64 0])) (.head _);have hth:=ζ (At.there hA9 0 5 (by decide));have hA10:=ζ (At.setAll (cs:=[Value.int .i64 0,.int .u64 0,.int .i64 0,.int .i64 0,.int .i64 0]) hA9 [Value.int .i64 (f k).e,.int .u64 (f k).v,.int .i64 (f k).f,.int .i64 (f k).g,.int .i64 (f k).p] rfl);have h10:=h.out.side (o':=boxOb kr (List.toArray [Value.int .i64 (f k).e,.int .u64 (f k).v,.int .i64 (f k).f,.int .i64 (f k).g,.int .i64 (f k).p])) hA10.out (kp_setsZ wr kr [Value.int .i64 (f k).e,.int .u64 (f k).v,.int .i64 (f k).f,.int .i64 (f k).g,.int .i64 (f k).p] 0) (fun _ r=>.inl r);replace hB:=ζ (hB.out.trans h10.2);replace h10:=ζ h10.1
    clear hA9 h;go_upto_region 9 with fail
    refine wp_region_lit ?_;iterate 3 (refine xp fun K hK=>?_;go_simp;with_reducible refine hK _ _ ?_;clear hK K;(try simp only[xap]))
    refine xp fun K hK=>?_
    refine wp_load_mid _ _ rfl _ 27 rfl [Value.int .i64 (f k).e,.int .u64 (f k).v,.int .i64 (f k).f,.int .i64 (f k).g,.int .i64 (f k).p] _ hro.out Tryz.underlying62 rfl (by kernel_rfl) (hK _ _ ?_);clear hK K;try simp only[xap]
    refine xp fun K hK=>?_
    refine wp_store_mid _ _ _ rfl _ _ (List.toArray [Value.int .i64 (f k).e,.int .u64 (f k).v,.int .i64 (f k).f,.int .i64 (f k).g,.int .i64 (f k).p]) rfl rfl hth.out (by kernel_rfl) (by simp[Value.oneCell']) (hK _ _ ?_);clear hK K;try simp only[Act.put]
    generalize World.setCells _ _ _ _=V11 at*;have hrun:=ζ (run_loadVar_mid (P:=Tryz.prog) V11 kr 0 62 [Value.int .i64 (f k).e,.int .u64 (f k).v,.int .i64 (f k).f,.int .i64 (f k).g,.int .i64 (f k).p] _ (fun j v q=>by rw[Nat.zero_add];exact(hA10.out.2.1 j).trans (by simpa using q)) Tryz.underlying62 rfl (by kernel_rfl));go_wp2_with fail;refine bodyPost_ret (v:=(f k).outc) ?_ rfl ⟨rfl,h10.out.drop,hB.out⟩;exact results_rowZ Tryz.results30 _ _ rfl hrun.out
  ·have hk1:¬(k:Int)<N:=fun q=>hkn ((hlt.out k).1 q)
   obtain rfl:k=m:=by omega
   by_cases e1:(f k).e=0
   ·skip
    have e2:(f k).e=0:=e1;rw[e2]at c27;replace ht:=ht.out;rw[if_pos e2]at ht;have hen:=ζ (h.out.onBox (s':=sp (f k)) (og':=(f k).g) (op':=(f k).p) ⟨rfl,rfl,rfl,rfl,rfl⟩ (fun q hb=>dend_any b _ 4 0 0 wr hb));replace e1:=ζ e1;replace e2:=ζ e2;go_upto_region 9 with(refine hen.out.mono ?_;rintro r V9 ⟨rfl,h9,hB9⟩)
    replace hB:=ζ (hB.out.trans hB9);replace h:=ζ h9;clear hen hB9 h9 c27;obtain⟨t9,et⟩:∃t9,t9=sp (f k):=⟨_,rfl⟩;rw[←et]at ht;obtain rfl:=ht;replace h:Hz (DIo B V9 b c P t9 t9.g t9.p (boxOb kr (List.toArray [Value.int .i64 0,.int .u64 0,.int .i64 0,.int .i64 0,.int .i64 0])::l)):=ζ (by rw[et];exact h.out);replace et:=ζ et;have hro:=ζ h.out.row5;have hA9:At V9 kr (List.toArray [Value.int .i64 0,.int .u64 0,.int .i64 0,.int .i64 0,.int .i64 0]):=h.out.there (boxOb kr (List.toArray [Value.int .i64 0,.int .u64 0,.int .i64 0,.int .i64 0,.int .i64 0])) (.head _);have hth:=ζ (At.there hA9 0 5 (by decide));have hA10:=ζ (At.setAll (cs:=[Value.int .i64 0,.int .u64 0,.int .i64 0,.int .i64 0,.int .i64 0]) hA9 [Value.int .i64 t9.e,.int .u64 t9.v,.int .i64 t9.f,.int .i64 t9.g,.int .i64 t9.p] rfl);have h10:=h.out.side (o':=boxOb kr (List.toArray [Value.int .i64 t9.e,.int .u64 t9.v,.int .i64 t9.f,.int .i64 t9.g,.int .i64 t9.p])) hA10.out (kp_setsZ V9 kr [Value.int .i64 t9.e,.int .u64 t9.v,.int .i64 t9.f,.int .i64 t9.g,.int .i64 t9.p] 0) (fun _ r=>.inl r)
    replace hB:=ζ (hB.out.trans h10.2);replace h10:=ζ h10.1;clear hA9 h;go_upto_region 9 with fail
    refine wp_region_lit ?_;iterate 3 (refine xp fun K hK=>?_;go_simp;with_reducible refine hK _ _ ?_;clear hK K;(try simp only[xap]))
    refine xp fun K hK=>?_
    refine wp_load_mid _ _ rfl _ 27 rfl [Value.int .i64 t9.e,.int .u64 t9.v,.int .i64 t9.f,.int .i64 t9.g,.int .i64 t9.p] _ hro.out Tryz.underlying62 rfl (by kernel_rfl) (hK _ _ ?_);clear hK K;try simp only[xap]
    refine xp fun K hK=>?_
    refine wp_store_mid _ _ _ rfl _ _ (List.toArray [Value.int .i64 t9.e,.int .u64 t9.v,.int .i64 t9.f,.int .i64 t9.g,.int .i64 t9.p]) rfl rfl hth.out (by kernel_rfl) (by simp[Value.oneCell']) (hK _ _ ?_);clear hK K;try simp only[Act.put]
    generalize World.setCells _ _ _ _=V11 at*;have hrun:=ζ (run_loadVar_mid (P:=Tryz.prog) V11 kr 0 62 [Value.int .i64 t9.e,.int .u64 t9.v,.int .i64 t9.f,.int .i64 t9.g,.int .i64 t9.p] _ (fun j v q=>by rw[Nat.zero_add];exact(hA10.out.2.1 j).trans (by simpa using q)) Tryz.underlying62 rfl (by kernel_rfl));go_wp2_with fail;refine bodyPost_ret (v:=t9.outc) ?_ rfl ⟨rfl,h10.out.drop,hB.out⟩;exact results_rowZ Tryz.results30 _ _ rfl hrun.out
   ·skip
    replace ht:=ht.out;have e2:¬(f k).e=0:=e1;have e3:((f k).e==0)=false:=by simpa using e2
    replace e1:=ζ e1;rw[if_neg e2]at ht;obtain rfl:=ht;replace e2:=ζ e2;have hro:=ζ h.out.row5;have hA9:At wr kr (List.toArray [Value.int .i64 0,.int .u64 0,.int .i64 0,.int .i64 0,.int .i64 0]):=h.out.there (boxOb kr (List.toArray [Value.int .i64 0,.int .u64 0,.int .i64 0,.int .i64 0,.int .i64 0])) (.head _);have hth:=ζ (At.there hA9 0 5 (by decide));have hA10:=ζ (At.setAll (cs:=[Value.int .i64 0,.int .u64 0,.int .i64 0,.int .i64 0,.int .i64 0]) hA9 [Value.int .i64 (f k).e,.int .u64 (f k).v,.int .i64 (f k).f,.int .i64 (f k).g,.int .i64 (f k).p] rfl);have h10:=h.out.side (o':=boxOb kr (List.toArray [Value.int .i64 (f k).e,.int .u64 (f k).v,.int .i64 (f k).f,.int .i64 (f k).g,.int .i64 (f k).p])) hA10.out (kp_setsZ wr kr [Value.int .i64 (f k).e,.int .u64 (f k).v,.int .i64 (f k).f,.int .i64 (f k).g,.int .i64 (f k).p] 0) (fun _ r=>.inl r);replace hB:=ζ (hB.out.trans h10.2);replace h10:=ζ h10.1
    clear hA9 h;go_upto_region 9 with fail
    refine wp_region_lit ?_;iterate 3 (refine xp fun K hK=>?_;go_simp;with_reducible refine hK _ _ ?_;clear hK K;(try simp only[xap]))
    refine xp fun K hK=>?_
    refine wp_load_mid _ _ rfl _ 27 rfl [Value.int .i64 (f k).e,.int .u64 (f k).v,.int .i64 (f k).f,.int .i64 (f k).g,.int .i64 (f k).p] _ hro.out Tryz.underlying62 rfl (by kernel_rfl) (hK _ _ ?_);clear hK K;try simp only[xap]
    refine xp fun K hK=>?_
    refine wp_store_mid _ _ _ rfl _ _ (List.toArray [Value.int .i64 (f k).e,.int .u64 (f k).v,.int .i64 (f k).f,.int .i64 (f k).g,.int .i64 (f k).p]) rfl rfl hth.out (by kernel_rfl) (by simp[Value.oneCell']) (hK _ _ ?_);clear hK K;try simp only[Act.put]
    generalize World.setCells _ _ _ _=V11 at*;have hrun:=ζ (run_loadVar_mid (P:=Tryz.prog) V11 kr 0 62 [Value.int .i64 (f k).e,.int .u64 (f k).v,.int .i64 (f k).f,.int .i64 (f k).g,.int .i64 (f k).p] _ (fun j v q=>by rw[Nat.zero_add];exact(hA10.out.2.1 j).trans (by simpa using q)) Tryz.underlying62 rfl (by kernel_rfl));go_wp2_with fail;refine bodyPost_ret (v:=(f k).outc) ?_ rfl ⟨rfl,h10.out.drop,hB.out⟩;exact results_rowZ Tryz.results30 _ _ rfl hrun.out
theorem drunB (B:Nat)(W0:World)(b:Nat)(c:Dc)(P:Pr)(l:List Ob)(n m:Nat)(N:Int)(f:Nat→Fm)(h:DIo B W0 b c P (f 0) (f 0).g (f 0).p l)(hpg:DPg B W0 c P)(hm:m≤n)(_hn:n≤100000)(h0:∀k,k<m→(f k).e=0)(hG:∀k,k<m→DGo B b c P (f k) (f (k+1)))(hE:m=n∨(f m).e≠0)(hN:100000<N)(hn1:n=100000)(t:Fm)(ht:(if(f m).e=0 then sp (f m)else f m)=t):
 Calls Tryz.prog 30 #[.pointer (some ⟨b,0,none⟩),.int .i64 N] W0 fun x w'=>x=.returned t.outc∧DIo B w' b c P t t.g t.p l∧Below B W0 w':=by
 have h2:=ζ (h.new (List.toArray [Value.int .i64 0,.int .u64 0,.int .i64 0,.int .i64 0,.int .i64 0]) 62);clear h;replace h0:=ζ h0;replace hG:=ζ hG;replace hE:=ζ hE;replace hpg:=ζ hpg;replace ht:=ζ ht
 skip
 go_enter Tryz.func30,Tryz.ntmps30;go_upto_region 1 with fail
 refine wp_world (fun W=>DIo B W b c P (f 0) (f 0).g (f 0).p (boxOb W0.heap.size (List.toArray [Value.int .i64 0,.int .u64 0,.int .i64 0,.int .i64 0,.int .i64 0])::l)∧Below B W0 W) h2.out ?_;rintro W ⟨h,hB⟩;replace h:=ζ h;replace hB:=ζ hB;clear h2;generalize W0.heap.size=kr at*;go_upto_region 4 with fail
 go_loopw [5] (fun x wr=>∃k:Nat,x=.int .i64 k∧k≤m∧Hz (DIo B wr b c P (f k) (f k).g (f k).p (boxOb kr (List.toArray [Value.int .i64 0,.int .u64 0,.int .i64 0,.int .i64 0,.int .i64 0])::l))∧Hz (Below B W0 wr)) (fun x _=>n - (intOf x).toNat)
 case atStart=>exact⟨0,rfl,Nat.zero_le _,h,hB⟩
 case round=>
  clear h hB;obtain⟨k,rfl,hk,h,hB⟩:=hrel;have c27:wr.cell? ⟨b,27,none⟩=some (.int .i64 (f k).e):=h.out.row5 0 _ rfl;by_cases hkn:k<n
  ·have hk1:(k:Int)<100000:=by omega
   by_cases hkm:k<m
   ·rw[h0.out k hkm]at c27;have hg:=ζ (hG.out k hkm wr _ h.out (hpg.out.below hB.out));go_wp2_with fail;refine hg.out.mono ?_;rintro r V ⟨rfl,h2,hB2⟩;replace h2:=ζ h2;replace hB:=ζ (hB.out.trans hB2);clear h hg hB2 c27;go_wp2_with fail;refine⟨⟨k+1,?_,hkm,h2,hB⟩,?_⟩
    ·first|rfl|rw[next_wZ hkn (by omega)]|go_num
    ·first|exact next_mZ hkn|(rw[next_wZ hkn (by omega)];exact next_mZ hkn)
   ·obtain rfl:k=m:=by omega
    have e1:(f k).e≠0:=by
     rcases hE.out with q|q
     ·omega
     ·exact q
    replace ht:=ht.out;have e2:¬(f k).e=0:=e1;have e3:((f k).e==0)=false:=by simpa using e2
    replace e1:=ζ e1;rw[if_neg e2]at ht;obtain rfl:=ht;replace e2:=ζ e2;have hro:=ζ h.out.row5;have hA9:At wr kr (List.toArray [Value.int .i64 0,.int .u64 0,.int .i64 0,.int .i64 0,.int .i64 0]):=h.out.there (boxOb kr (List.toArray [Value.int .i64 0,.int .u64 0,.int .i64 0,.int .i64 0,.int .i64 0])) (.head _);have hth:=ζ (At.there hA9 0 5 (by decide));have hA10:=ζ (At.setAll (cs:=[Value.int .i64 0,.int .u64 0,.int .i64 0,.int .i64 0,.int .i64 0]) hA9 [Value.int .i64 (f k).e,.int .u64 (f k).v,.int .i64 (f k).f,.int .i64 (f k).g,.int .i64 (f k).p] rfl);have h10:=h.out.side (o':=boxOb kr (List.toArray [Value.int .i64 (f k).e,.int .u64 (f k).v,.int .i64 (f k).f,.int .i64 (f k).g,.int .i64 (f k).p])) hA10.out (kp_setsZ wr kr [Value.int .i64 (f k).e,.int .u64 (f k).v,.int .i64 (f k).f,.int .i64 (f k).g,.int .i64 (f k).p] 0) (fun _ r=>.inl r);replace hB:=ζ (hB.out.trans h10.2);replace h10:=ζ h10.1
    clear hA9 h;go_upto_region 9 with fail
    refine wp_region_lit ?_;iterate 3 (refine xp fun K hK=>?_;go_simp;with_reducible refine hK _ _ ?_;clear hK K;(try simp only[xap]))
    refine xp fun K hK=>?_
    refine wp_load_mid _ _ rfl _ 27 rfl [Value.int .i64 (f k).e,.int .u64 (f k).v,.int .i64 (f k).f,.int .i64 (f k).g,.int .i64 (f k).p] _ hro.out Tryz.underlying62 rfl (by kernel_rfl) (hK _ _ ?_);clear hK K;try simp only[xap]
    refine xp fun K hK=>?_
    refine wp_store_mid _ _ _ rfl _ _ (List.toArray [Value.int .i64 (f k).e,.int .u64 (f k).v,.int .i64 (f k).f,.int .i64 (f k).g,.int .i64 (f k).p]) rfl rfl hth.out (by kernel_rfl) (by simp[Value.oneCell']) (hK _ _ ?_);clear hK K;try simp only[Act.put]
    generalize World.setCells _ _ _ _=V11 at*;have hrun:=ζ (run_loadVar_mid (P:=Tryz.prog) V11 kr 0 62 [Value.int .i64 (f k).e,.int .u64 (f k).v,.int .i64 (f k).f,.int .i64 (f k).g,.int .i64 (f k).p] _ (fun j v q=>by rw[Nat.zero_add];exact(hA10.out.2.1 j).trans (by simpa using q)) Tryz.underlying62 rfl (by kernel_rfl));go_wp2_with fail;refine bodyPost_ret (v:=(f k).outc) ?_ rfl ⟨rfl,h10.out.drop,hB.out⟩;exact results_rowZ Tryz.results30 _ _ rfl hrun.out
  ·have hk1:¬(k:Int)<100000:=by omega
   obtain rfl:k=m:=by omega
   by_cases e1:(f k).e=0
   ·skip
    have e2:(f k).e=0:=e1;rw[e2]at c27;replace ht:=ht.out;rw[if_pos e2]at ht;have hen:=ζ (h.out.onBox (s':=sp (f k)) (og':=(f k).g) (op':=(f k).p) ⟨rfl,rfl,rfl,rfl,rfl⟩ (fun q hb=>dend_any b _ 4 0 0 wr hb));replace e1:=ζ e1;replace e2:=ζ e2;go_upto_region 9 with(refine hen.out.mono ?_;rintro r V9 ⟨rfl,h9,hB9⟩)
    replace hB:=ζ (hB.out.trans hB9);replace h:=ζ h9;clear hen hB9 h9 c27;obtain⟨t9,et⟩:∃t9,t9=sp (f k):=⟨_,rfl⟩;rw[←et]at ht;obtain rfl:=ht;replace h:Hz (DIo B V9 b c P t9 t9.g t9.p (boxOb kr (List.toArray [Value.int .i64 0,.int .u64 0,.int .i64 0,.int .i64 0,.int .i64 0])::l)):=ζ (by rw[et];exact h.out);replace et:=ζ et;have hro:=ζ h.out.row5;have hA9:At V9 kr (List.toArray [Value.int .i64 0,.int .u64 0,.int .i64 0,.int .i64 0,.int .i64 0]):=h.out.there (boxOb kr (List.toArray [Value.int .i64 0,.int .u64 0,.int .i64 0,.int .i64 0,.int .i64 0])) (.head _);have hth:=ζ (At.there hA9 0 5 (by decide));have hA10:=ζ (At.setAll (cs:=[Value.int .i64 0,.int .u64 0,.int .i64 0,.int .i64 0,.int .i64 0]) hA9 [Value.int .i64 t9.e,.int .u64 t9.v,.int .i64 t9.f,.int .i64 t9.g,.int .i64 t9.p] rfl);have h10:=h.out.side (o':=boxOb kr (List.toArray [Value.int .i64 t9.e,.int .u64 t9.v,.int .i64 t9.f,.int .i64 t9.g,.int .i64 t9.p])) hA10.out (kp_setsZ V9 kr [Value.int .i64 t9.e,.int .u64 t9.v,.int .i64 t9.f,.int .i64 t9.g,.int .i64 t9.p] 0) (fun _ r=>.inl r)
    replace hB:=ζ (hB.out.trans h10.2);replace h10:=ζ h10.1;clear hA9 h;go_upto_region 9 with fail
    refine wp_region_lit ?_;iterate 3 (refine xp fun K hK=>?_;go_simp;with_reducible refine hK _ _ ?_;clear hK K;(try simp only[xap]))
    refine xp fun K hK=>?_
    refine wp_load_mid _ _ rfl _ 27 rfl [Value.int .i64 t9.e,.int .u64 t9.v,.int .i64 t9.f,.int .i64 t9.g,.int .i64 t9.p] _ hro.out Tryz.underlying62 rfl (by kernel_rfl) (hK _ _ ?_);clear hK K;try simp only[xap]
    refine xp fun K hK=>?_
    refine wp_store_mid _ _ _ rfl _ _ (List.toArray [Value.int .i64 t9.e,.int .u64 t9.v,.int .i64 t9.f,.int .i64 t9.g,.int .i64 t9.p]) rfl rfl hth.out (by kernel_rfl) (by simp[Value.oneCell']) (hK _ _ ?_);clear hK K;try simp only[Act.put]
    generalize World.setCells _ _ _ _=V11 at*;have hrun:=ζ (run_loadVar_mid (P:=Tryz.prog) V11 kr 0 62 [Value.int .i64 t9.e,.int .u64 t9.v,.int .i64 t9.f,.int .i64 t9.g,.int .i64 t9.p] _ (fun j v q=>by rw[Nat.zero_add];exact(hA10.out.2.1 j).trans (by simpa using q)) Tryz.underlying62 rfl (by kernel_rfl));go_wp2_with fail;refine bodyPost_ret (v:=t9.outc) ?_ rfl ⟨rfl,h10.out.drop,hB.out⟩;exact results_rowZ Tryz.results30 _ _ rfl hrun.out
   ·skip
    replace ht:=ht.out;have e2:¬(f k).e=0:=e1;have e3:((f k).e==0)=false:=by simpa using e2
    replace e1:=ζ e1;rw[if_neg e2]at ht;obtain rfl:=ht;replace e2:=ζ e2;have hro:=ζ h.out.row5;have hA9:At wr kr (List.toArray [Value.int .i64 0,.int .u64 0,.int .i64 0,.int .i64 0,.int .i64 0]):=h.out.there (boxOb kr (List.toArray [Value.int .i64 0,.int .u64 0,.int .i64 0,.int .i64 0,.int .i64 0])) (.head _);have hth:=ζ (At.there hA9 0 5 (by decide));have hA10:=ζ (At.setAll (cs:=[Value.int .i64 0,.int .u64 0,.int .i64 0,.int .i64 0,.int .i64 0]) hA9 [Value.int .i64 (f k).e,.int .u64 (f k).v,.int .i64 (f k).f,.int .i64 (f k).g,.int .i64 (f k).p] rfl);have h10:=h.out.side (o':=boxOb kr (List.toArray [Value.int .i64 (f k).e,.int .u64 (f k).v,.int .i64 (f k).f,.int .i64 (f k).g,.int .i64 (f k).p])) hA10.out (kp_setsZ wr kr [Value.int .i64 (f k).e,.int .u64 (f k).v,.int .i64 (f k).f,.int .i64 (f k).g,.int .i64 (f k).p] 0) (fun _ r=>.inl r);replace hB:=ζ (hB.out.trans h10.2);replace h10:=ζ h10.1
    clear hA9 h;go_upto_region 9 with fail
    refine wp_region_lit ?_;iterate 3 (refine xp fun K hK=>?_;go_simp;with_reducible refine hK _ _ ?_;clear hK K;(try simp only[xap]))
    refine xp fun K hK=>?_
    refine wp_load_mid _ _ rfl _ 27 rfl [Value.int .i64 (f k).e,.int .u64 (f k).v,.int .i64 (f k).f,.int .i64 (f k).g,.int .i64 (f k).p] _ hro.out Tryz.underlying62 rfl (by kernel_rfl) (hK _ _ ?_);clear hK K;try simp only[xap]
    refine xp fun K hK=>?_
    refine wp_store_mid _ _ _ rfl _ _ (List.toArray [Value.int .i64 (f k).e,.int .u64 (f k).v,.int .i64 (f k).f,.int .i64 (f k).g,.int .i64 (f k).p]) rfl rfl hth.out (by kernel_rfl) (by simp[Value.oneCell']) (hK _ _ ?_);clear hK K;try simp only[Act.put]
    generalize World.setCells _ _ _ _=V11 at*;have hrun:=ζ (run_loadVar_mid (P:=Tryz.prog) V11 kr 0 62 [Value.int .i64 (f k).e,.int .u64 (f k).v,.int .i64 (f k).f,.int .i64 (f k).g,.int .i64 (f k).p] _ (fun j v q=>by rw[Nat.zero_add];exact(hA10.out.2.1 j).trans (by simpa using q)) Tryz.underlying62 rfl (by kernel_rfl));go_wp2_with fail;refine bodyPost_ret (v:=(f k).outc) ?_ rfl ⟨rfl,h10.out.drop,hB.out⟩;exact results_rowZ Tryz.results30 _ _ rfl hrun.out
theorem stepI_e0 (P:Pr)(i:Fi)(s:Fm)(hn:Named i.op)(hop:i.op<20)(he:s.e=0):(stepI P i s).e=0:=by
 have hc:i.op=0∨i.op=1∨i.op=2∨i.op=3∨i.op=4∨i.op=5∨i.op=6∨i.op=7∨i.op=8∨i.op=9∨i.op=10∨i.op=11∨i.op=12∨i.op=13:=by unfold Named at hn;omega
 rcases hc with e|e|e|e|e|e|e|e|e|e|e|e|e|e<;>(unfold stepI;rw[e];exact he)
theorem dstep_any (P:Pr)(ok:P.Ok)(s:Fm)(n:Nat)(hs:s.Okn P n)(hn:n≤1000000)(hv:s.Vf)(B b:Nat)(c:Dc):DGo B b c P s (stepsM P s 1):=by
 intro V l h hpg;by_cases he:s.e=0
 ·have e1:stepsM P s 1=stepM P s:=by
   show(if s.e=0 then stepM P s else s)=_;rw[if_pos he]
  rw[e1];have hg:=hs.g;have hso:=hs.ok hn;have e2:P.code.getD s.g []=P.code[s.g]:=by simp[hg]
  by_cases hp:s.p<P.code[s.g].length
  ·have hi:stepM P s=stepI P P.code[s.g][s.p] s:=by
    unfold stepM;rw[e2,List.getElem?_eq_getElem hp]
   rw[hi];have hr:=ok.row _ (List.getElem_mem hg);have ho:=hr.2 _ (List.getElem_mem hp);have hvf:=stepI_vf P P.code[s.g][s.p] s hv;obtain⟨i,hii⟩:∃i,P.code[s.g][s.p]=i:=⟨_,rfl⟩;rw[hii]at ho hvf ⊢;by_cases h20:i.op<20
   ·refine dstep_numbers B V b c P s l h he hg hpg i _ hp hii hvf h20 (fun U l' h' _=>?_);refine(dnumbers_any P i s _ hso ho h20 B U b c _ _ l' h').mono ?_;rintro x w' ⟨q1,q2,q3⟩;exact⟨q1,⟨_,_,q2,DEnd.run (stepI_e0 P i s ho.op h20 he)⟩,q3⟩
   ·by_cases h27:i.op<27
    ·exact dstep_jumps B V b c P s l h he hg hpg i _ hp hii hvf ⟨by omega,h27⟩ (fun U l' h' _=>djumps_any P i s _ hso he ho hr.1.2 ⟨by omega,h27⟩ B U b c _ _ l' h')
    ·by_cases h60:i.op<60
     ·exact dstep_flows B V b c P s l h he hg hpg i _ hp hii hvf ⟨by omega,h60⟩ (fun U l' h' hq=>dflows_any P ok i s _ hso he ho ⟨by omega,h60⟩ B U b c _ _ l' h' hq)
     ·by_cases h70:i.op<70
      ·exact dstep_memory B V b c P s l h he hg hpg i _ hp hii hvf ⟨by omega,h70⟩ (fun U l' h' _=>dmemory_any P i s _ hso he ho ⟨by omega,h70⟩ B U b c _ _ l' h')
      ·exact dstep_guards B V b c P s l h he hg hpg i _ hp hii hvf (by omega) (fun U l' h' _=>dguards_any P i s _ hso he ho (by omega) B U b c _ _ l' h')
  ·have hi:stepM P s={s with e:=7,v:=0,f:=8}:=by
    unfold stepM;rw[e2,List.getElem?_eq_none (by omega)]
   rw[hi];exact dstepO B V b c P s l h he hg hpg (by omega)
 ·rw[stepsM_end P s 1 he];exact dstepE B V b c P s l h he
def runF (P:Pr)(s:Fm)(N:Int):Fm:=runM P s (min N 100000).toNat
theorem drun_any (P:Pr)(ok:P.Ok)(rr:P.Rr)(s:Fm)(n:Nat)(hs:s.Okn P n)(hn:n+100000≤1000000)(hv:s.Vf)(N:Int)(t:Fm)(ht:runF P s N=t)(B:Nat)(W:World)(b:Nat)(c:Dc)(l:List Ob)(h:DIo B W b c P s s.g s.p l)(hpg:DPg B W c P):
 Calls Tryz.prog 30 #[.pointer (some ⟨b,0,none⟩),.int .i64 N] W fun x w'=>x=.returned t.outc∧DIo B w' b c P t t.g t.p l∧Below B W w':=by
 have hk:(min N 100000).toNat≤100000:=by omega
 obtain⟨m,h1,h2,h3,h4⟩:=stops P s (min N 100000).toNat;have hG:∀k,k<m→DGo B b c P (stepsM P s k) (stepsM P s (k+1)):=fun k hk2=>
  dstep_any P ok (stepsM P s k) (n+k) (okn_stepsM P ok rr s n hs k) (by omega) (stepsM_vf P s hv k) B b c
 have ht2:(if(stepsM P s m).e=0 then sp (stepsM P s m)else stepsM P s m)=t:=by
  rw[←ht,h4]
  rfl
 by_cases hN:N≤100000
 ·exact drunA B W b c P l (min N 100000).toNat m N (stepsM P s) h hpg h1 hk h2 hG h3 hN (fun k=>by omega) t ht2
 ·exact drunB B W b c P l (min N 100000).toNat m N (stepsM P s) h hpg h1 hk h2 hG h3 (by omega) (by omega) t ht2
def FrB (w:World)(g n i:Nat)(V:Nat→Value):Prop:=∃U,FRow w g n U∧(∀j,i≤j→U j=V j)∧∀j,j<i→U j=.int .u64 78
theorem FrB.set {w:World}{g n i:Nat}{V:Nat→Value}(h:FrB w g n i V)(hi:i<n):FrB (w.setCell ⟨g,i,none⟩ (.int .u64 78)) g n (i+1) V:=by
 obtain⟨U,h1,h2,h3⟩:=h;refine⟨_,h1.set i (.int .u64 78) hi,fun j hj=>?_,fun j hj=>?_⟩
 ·unfold updF;rw[if_neg (by omega)];exact h2 j (by omega)
 ·unfold updF;by_cases e:j=i
  ·rw[if_pos e]
  ·rw[if_neg e];exact h3 j (by omega)
theorem FrB.at {w:World}{g n i:Nat}{V:Nat→Value}(h:FrB w g n i V)(hi:i<n):w.cell? ⟨g,i,none⟩=some (V i)∧w.frozen? ⟨g,i,none⟩=false∧g<w.heap.size:=by
 obtain⟨U,h1,h2,_⟩:=h;exact⟨by rw[←h2 i (Nat.le_refl i)];exact h1.at_ i hi,h1.fr i,h1.lt⟩
theorem FrB.block {w w1:World}{g n i:Nat}{V:Nat→Value}(h:FrB w g n i V)(hs:w.heap.size≤w1.heap.size)(hb:w1.heap[g]?=w.heap[g]?):FrB w1 g n i V:=by
 obtain⟨U,h1,h2⟩:=h;exact⟨U,h1.block hs hb,h2⟩
theorem FrB.all {w:World}{g n i:Nat}{V:Nat→Value}(h:FrB w g n i V)(hi:n≤i):FRow w g n (fun _=>.int .u64 78):=by
 obtain⟨U,h1,_,h3⟩:=h;exact h1.congr (fun j hj=>h3 j (by omega))
theorem spoilt3 (L:List Int)(g:Nat)(sa:Option Addr)(sc:Nat)(w:World)(hF:FRow w g (L.length+8) (wdA L))(hL:WIn w sa L)(hg:∀b off,sa=some ⟨b,off,none⟩→0<L.length→b≠g)(hl:L.length≤2000000):
 Calls Tryz.prog 19 #[.slice (some ⟨g,0,none⟩) L.length (L.length+8),.slice sa L.length sc] w fun x w'=>x=.returned (.bool true)∧Kp (fun k=>k=g) w w'∧FRow w' g (L.length+8) (fun _=>.int .u64 78):=by
 have w1:wrap64 ((L.length:Int)+8)=(L.length:Int)+8:=by unfold wrap64;omega
 have w2:IntKind.i64.wrap ((L.length:Int)+8)=(L.length:Int)+8:=by rw[IntKind.wrap_i64];omega
 have u2:(L.length:Int)≤(L.length:Int)+8:=by omega
 have u3:(0:Int)≤(L.length:Int)+8:=by omega
 have u4:((L.length:Int)+8).toNat=L.length+8:=by omega
 have hn8:L.length+8≤3000000:=by omega
 have hF0:=ζ (show FrB w g (L.length+8) 0 (wdA L)from⟨_,hF,fun _ _=>rfl,fun _ q=>absurd q (Nat.not_lt_zero _)⟩);replace hL:=ζ hL;replace hg:=ζ hg;clear hF;go_enter Tryz.func19,Tryz.ntmps19;go_upto_region 4 with fail
 go_loopw [6,7] (fun v x wr=>∃i:Nat,v=.bool true∧x=.int .i64 i∧i≤L.length+8∧Hz (FrB wr g (L.length+8) i (wdA L))∧Hz (Kp (fun k=>k=g) w wr)) (fun _ x _=>L.length+8 - (intOf x).toNat)
 case atStart=>exact⟨0,by first|rfl|simp,rfl,Nat.zero_le _,hF0,ζ (Kp.refl _ w)⟩
 case round=>
  clear hF0;obtain⟨i,rfl,rfl,hi,hF,hB⟩:=hrel;by_cases hin:i<L.length+8
  ·have hi1:(i:Int)<(L.length:Int)+8:=by omega
   obtain⟨c1,f1,hgl⟩:=hF.out.at hin;have hfr:Hz (FrB (wr.setCell ⟨g,i,none⟩ (.int .u64 78)).drew g (L.length+8) (i+1) (wdA L)):=ζ ((hF.out.set hin).block (Nat.le_refl _) rfl);have hbn:Hz (Kp (fun k=>k=g) w (wr.setCell ⟨g,i,none⟩ (.int .u64 78)).drew):=ζ (Kp.gr1 (hB.out.trans (Kp.set (S:=fun k=>k=g) wr ⟨g,i,none⟩ (.int .u64 78) rfl) (fun _ q=>.inl q)) ((Gr.refl _).drew));by_cases hil:i<L.length
   ·have hi2:(i:Int)<(L.length:Int):=by omega
    have hi3:¬(L.length:Int)≤(i:Int):=by omega
    obtain⟨sb,so,rfl,hbl,hcl⟩:=hL.out i hil;rw[show wdA L i=.int .u64 L[i]by unfold wdA;simp[hil]]at c1;have c2:wr.cell? ⟨sb,so+i,none⟩=some (.int .u64 L[i]):=(T.cell_of_block (hB.out.block sb hbl (hg.out sb so rfl (by omega))) _).trans hcl;clear hcl;go_upto_region 6 with fail;refine wp_region_held_drew (S:=(fun X=>X.cell? ⟨g,i,none⟩=some (.int .u64 L[i])∧X.cell? ⟨sb,so+i,none⟩=some (.int .u64 L[i]))) (by kernel_rfl) (⟨c1,c2⟩) (fun hHeld=>?_);refine xz 0 rfl (h:=xz 1 rfl (h:=?_));try simp only[xap]
    refine xz 2 rfl (h:=?_);try simp only[xap]
    refine xz 3 rfl (h:=?_);try simp only[xap]
    refine xz 4 rfl (h:=?_);try simp only[xap]
    refine xz 5 rfl (h:=?_);try simp only[xap]
    refine xz 6 rfl (h:=?_);try simp only[xap]
    refine xz 7 rfl (h:=?_);try simp only[xap]
    refine xz 8 rfl (h:=?_);try simp only[xap]
    refine xz 9 rfl (h:=?_);try simp only[xap]
    refine xz 10 rfl (h:=?_);try simp only[xap]
    refine xz 11 rfl (h:=?_);try simp only[xap]
    refine xz 12 rfl (h:=?_);try simp only[xap]
    refine xz 13 rfl (h:=?_);try simp only[xap]
    refine xz 14 rfl (h:=?_);try simp only[xap]
    refine xz 15 rfl (h:=?_);try simp only[xap]
    refine xz 16 rfl (h:=?_);try simp only[xap]
    refine xz 17 rfl (h:=?_);try simp only[xap]
    refine xtk 18 (v:=undef) rfl (Or.inr ⟨by rfl,rfl⟩) ?_;try simp only[xap]
    refine xtk 19 (v:=undef) rfl (Or.inr ⟨by rfl,rfl⟩) ?_;try simp only[xap]
    refine xtk 20 (v:=undef) rfl (Or.inr ⟨by rfl,rfl⟩) ?_;try simp only[xap]
    refine xtk 21 (v:=undef) rfl (Or.inr ⟨by rfl,rfl⟩) ?_;try simp only[xap]
    refine xtk 22 (v:=undef) rfl (Or.inr ⟨by rfl,rfl⟩) ?_;try simp only[xap]
    refine xtk 23 (v:=undef) rfl (Or.inr ⟨by rfl,rfl⟩) ?_;try simp only[xap]
    refine xtk 24 (v:=undef) rfl (Or.inr ⟨by rfl,rfl⟩) ?_;try simp only[xap]
    refine xtk 25 (v:=undef) rfl (Or.inr ⟨by rfl,rfl⟩) ?_;try simp only[xap]
    refine xtk 26 (v:=undef) rfl (Or.inr ⟨by rfl,rfl⟩) ?_;try simp only[xap]
    refine xtk 27 (v:=undef) rfl (Or.inr ⟨by rfl,rfl⟩) ?_;try simp only[xap]
    refine xtk 28 (v:=undef) rfl (Or.inr ⟨by rfl,rfl⟩) ?_;try simp only[xap]
    refine xz 29 rfl (h:=xz 30 rfl (h:=xz 31 rfl (h:=?_)));try simp only[xap]
    refine xdn ?_ _;clear hHeld;go_wp2_with fail;replace hfr:=hfr.out;replace hbn:=hbn.out;refine⟨⟨i+1,?_,?_,hin,ζ hfr,ζ hbn⟩,?_⟩
    ·first|rfl|simp
    ·first|rfl|rw[next_wZ hin (by omega)]|go_num
    ·first|exact next_mZ hin|(rw[next_wZ hin (by omega)];exact next_mZ hin)
   ·have hi2:¬(i:Int)<(L.length:Int):=by omega
    have hi3:(L.length:Int)≤(i:Int):=by omega
    rw[show wdA L i=.int .u64 77 by unfold wdA;simp[List.getD_eq_getElem?_getD,List.getElem?_eq_none (by omega:L.length≤i)]]at c1;go_upto_region 6 with fail
    refine wp_region_held_drew (S:=(fun X=>X.cell? ⟨g,i,none⟩=some (.int .u64 77))) (by kernel_rfl) (c1) (fun hHeld=>?_);refine xz 0 rfl (h:=xz 1 rfl (h:=?_));try simp only[xap]
    refine xz 2 rfl (h:=?_);try simp only[xap]
    refine xz 3 rfl (h:=?_);try simp only[xap]
    refine xz 4 rfl (h:=?_);try simp only[xap]
    refine xz 5 rfl (h:=?_);try simp only[xap]
    refine xz 6 rfl (h:=?_);try simp only[xap]
    refine xtk 7 (v:=undef) rfl (Or.inr ⟨by rfl,rfl⟩) ?_;try simp only[xap]
    refine xtk 8 (v:=undef) rfl (Or.inr ⟨by rfl,rfl⟩) ?_;try simp only[xap]
    refine xtk 9 (v:=undef) rfl (Or.inr ⟨by rfl,rfl⟩) ?_;try simp only[xap]
    refine xtk 10 (v:=undef) rfl (Or.inr ⟨by rfl,rfl⟩) ?_;try simp only[xap]
    refine xtk 11 (v:=undef) rfl (Or.inr ⟨by rfl,rfl⟩) ?_;try simp only[xap]
    refine xtk 12 (v:=undef) rfl (Or.inr ⟨by rfl,rfl⟩) ?_;try simp only[xap]
    refine xtk 13 (v:=undef) rfl (Or.inr ⟨by rfl,rfl⟩) ?_;try simp only[xap]
    refine xtk 14 (v:=undef) rfl (Or.inr ⟨by rfl,rfl⟩) ?_;try simp only[xap]
    refine xtk 15 (v:=undef) rfl (Or.inr ⟨by rfl,rfl⟩) ?_;try simp only[xap]
    refine xz 16 rfl (h:=?_);try simp only[xap]
    refine xz 17 rfl (h:=?_);try simp only[xap]
    refine xz 18 rfl (h:=?_);try simp only[xap]
    refine xz 19 rfl (h:=?_);try simp only[xap]
    refine xz 20 rfl (h:=?_);try simp only[xap]
    refine xz 21 rfl (h:=?_);try simp only[xap]
    refine xz 22 rfl (h:=?_);try simp only[xap]
    refine xz 23 rfl (h:=?_);try simp only[xap]
    refine xz 24 rfl (h:=?_);try simp only[xap]
    refine xz 25 rfl (h:=?_);try simp only[xap]
    refine xz 26 rfl (h:=?_);try simp only[xap]
    refine xz 27 rfl (h:=?_);try simp only[xap]
    refine xz 28 rfl (h:=?_);try simp only[xap]
    refine xz 29 rfl (h:=xz 30 rfl (h:=xz 31 rfl (h:=?_)));try simp only[xap]
    refine xdn ?_ _;clear hHeld;go_wp2_with fail;replace hfr:=hfr.out;replace hbn:=hbn.out;refine⟨⟨i+1,?_,?_,hin,ζ hfr,ζ hbn⟩,?_⟩
    ·first|rfl|simp
    ·first|rfl|rw[next_wZ hin (by omega)]|go_num
    ·first|exact next_mZ hin|(rw[next_wZ hin (by omega)];exact next_mZ hin)
  ·have hi1:¬(i:Int)<(L.length:Int)+8:=by omega
   go_wp2_with fail;go_ret;exact⟨rfl,hB.out,hF.out.all (by omega)⟩
theorem MD.overS {B:Nat}{w V W W':World}{P:Pr}{a:Nat}{s:Fm}{b:Nat}{c:Dc}{t:Fm}{S:Nat→Prop}(h:MD B W P a s b c t [snapOb B V])(hk:Kp S W W')(hB:B≤w.heap.size)(hV:w.heap.size≤V.heap.size)(hb:Below w.heap.size w W')(hS:∀k,S k→w.heap.size≤k∧k<V.heap.size):MD B W' P a s b c t [snapOb B w]:=by
 obtain⟨q2,⟨⟨q,h1⟩,le⟩,ia,ic,e,hi⟩:=h.asX;have bb:Below B W W':=hk.below le (fun k r=>Nat.le_trans hB (hS k r).1);have h2:Sep B W ((obs B a P s q++(dobs B b c P t q2 t.g t.p++[giOb B q2.iv t.inp]))++[snapOb B V]):=by simpa using h1
 have hd:=List.pairwise_append.1 h2.dis;have hdd:∀p∈obs B a P s q++(dobs B b c P t q2 t.g t.p++[giOb B q2.iv t.inp]),∀k,p.S k→¬(B≤k∧k<V.heap.size):=fun p hp k r=>hd.2.2 p hp (snapOb B V) (by simp) k r
 have h3:Sep B W' ((obs B a P s q++(dobs B b c P t q2 t.g t.p++[giOb B q2.iv t.inp]))++[snapOb B w]):=by
  refine⟨fun p hp=>?_,List.pairwise_append.2 ⟨hd.1,List.pairwise_cons.2 ⟨fun p hp=>(by cases hp),List.Pairwise.nil⟩,fun p hp o ho k r t=>?_⟩,fun p hp k r=>?_⟩
  ·rcases List.mem_append.1 hp with hp|hp
   ·exact p.keep W W' S (h2.ins p (List.mem_append_left _ hp)) hk (fun k r t=>hdd p hp k r ⟨Nat.le_trans hB (hS k t).1,(hS k t).2⟩)
   ·rw[List.mem_singleton.1 hp];exact⟨hb.size,fun k _ h2=>hb.block k h2⟩
  ·rw[List.mem_singleton.1 ho]at t;exact hdd p hp k r ⟨t.1,Nat.lt_of_lt_of_le t.2 hV⟩
  ·rcases List.mem_append.1 hp with hp|hp
   ·exact h2.ge p (List.mem_append_left _ hp) k r
   ·rw[List.mem_singleton.1 hp]at r;exact r.1
 exact MD.ofX (q2:=q2) ⟨⟨q,by simpa using h3⟩,Nat.le_trans le bb.size⟩ e (hi.below bb)
theorem LnA.low {lo lo' hi:Nat}{W:World}{kc kg:Nat}{K:Nat→Nat}{rv:Value}{R:Rp}(h:LnA lo hi W kc kg K rv R)(hl:lo'≤lo):LnA lo' hi W kc kg K rv R:=
 ⟨h.row,fun j hj=>⟨⟨by have:=(h.done j hj).1.1;omega,(h.done j hj).1.2⟩,(h.done j hj).2⟩,h.inj,own_monoZ h.own hl,h.ap,h.gates,⟨by have:=h.kc_.1;omega,h.kc_.2⟩,⟨by have:=h.kg_.1;omega,h.kg_.2⟩,h.ne⟩
theorem LnA.inS {lo hi:Nat}{W:World}{kc kg:Nat}{K:Nat→Nat}{rv:Value}{R:Rp}(h:LnA lo hi W kc kg K rv R){k:Nat}(q:LnS kc kg K R.code.length k):lo≤k∧k<hi:=by
 rcases q with rfl|rfl|⟨j,hj,rfl⟩
 ·exact h.kc_
 ·exact h.kg_
 ·exact(h.done j hj).1
theorem made_no70 (R:Rp)(ca ga:Option Addr)(cc gc:Nat)(mem:List UInt8)(gate:Int)(A:List Int)(sa:Option Addr)(sc:Nat)(ia:Option Addr)(ic:Nat)(L:List Int)(w:World)(hP:RpIn w ca ga R)(is:R.Is)(hA:WIn w sa A)(hAl:A.length≤2000000)(hI:InL w ia ic L)(hc:R.code.length≤1500000)(hr:∀r∈R.code,r.length≤2000000)(hg:R.gates.length≤2000000)(hl:L.length≤2000000)(h:¬(R.Ok (T.str mem).size∧0≤gate∧gate<(R.gates.length:Int))):
 Calls Tryz.prog 6 #[.agg #[.slice ca R.code.length cc,.slice ga R.gates.length gc,.string (T.str mem),.int .i64 R.dep],.int .i64 gate,.slice sa A.length sc,.slice ia L.length ic] w fun x w'=>x=.returned (.tuple #[.bool true,.pointer none,.pointer none])∧Below w.heap.size w w':=by
 replace hA:=ζ hA;replace hI:=ζ hI;replace hr:=ζ hr;replace hP:=ζ hP;replace is:=ζ is;go_enter Tryz.func6,Tryz.ntmps6;go_upto_region 1 with fail
 refine wp_world (fun W=>At W w.heap.size #[.slice ca R.code.length cc,.slice ga R.gates.length gc,.string (T.str mem),.int .i64 R.dep]∧Gr w W) ⟨At.new w _ _,(Gr.refl _).alloc _⟩ ?_;rintro W ⟨hQ,G⟩;have hB:=ζ G.below;obtain⟨km,hkm⟩:∃km,w.heap.size=km:=⟨_,rfl⟩;rw[hkm]at hQ ⊢;have hkl:=ζ hQ.1;have hw1:=ζ (words_any A sa sc W (hA.out.below hB.out) hAl);replace hQ:=ζ hQ;replace hkm:=ζ hkm;clear G;go_wp2_with fail;refine hw1.out.mono ?_;rintro r W1 ⟨ka,rfl,hka,hFa,hB1⟩;replace hQ:=ζ (at_below hQ.out hB1 hkl.out);replace hB:=ζ (hB.out.trans (hB1.mono hB.out.size));replace hka:Hz (km<ka):=ζ (Nat.lt_of_lt_of_le hkl.out hka);replace hkl:=ζ (Nat.lt_of_lt_of_le hkl.out hB1.size);replace hFa:=ζ hFa;clear hw1 hB1;have hw2:=ζ (words_any L ia ic W1 (hI.out.win.below hB.out) hl);go_wp2_with fail;refine hw2.out.mono ?_;rintro r W2 ⟨kb,rfl,hkb,hFb,hB1⟩;replace hQ:=ζ (at_below hQ.out hB1 hkl.out);have hab:Hz (ka<kb):=ζ (Nat.lt_of_lt_of_le hFa.out.lt hkb)
 replace hFa:=ζ (hFa.out.bel hB1 hFa.out.lt);replace hB:=ζ (hB.out.trans (hB1.mono hB.out.size));replace hkl:=ζ (Nat.lt_of_lt_of_le hkl.out hB1.size);replace hFb:=ζ hFb;clear hw2 hB1 hkb;have e0:W2.cell? ⟨km,0,none⟩=some (.slice ca R.code.length cc):=hQ.out.2.1 0;have e1:W2.cell? ⟨km,1,none⟩=some (.slice ga R.gates.length gc):=hQ.out.2.1 1;have e2:W2.cell? ⟨km,2,none⟩=some (.string (T.str mem)):=hQ.out.2.1 2;have e3:W2.cell? ⟨km,3,none⟩=some (.int .i64 R.dep):=hQ.out.2.1 3;have hln:=ζ (lent2_any R ca ga cc gc (T.str mem) W2 (hP.out.below_ hB.out) hc hr.out hg);go_wp2_with fail;refine hln.out.mono ?_;rintro r W3 ⟨kc,kg,la,lc,K,rfl,hLn,hB1⟩;have hlo1:Hz (kb<W2.heap.size):=ζ hFb.out.lt;have hlo2:Hz (W2.heap.size≤W3.heap.size):=ζ hB1.size;replace hQ:=ζ (at_below hQ.out hB1 hkl.out);replace hFb:=ζ (hFb.out.bel hB1 hFb.out.lt);replace hFa:=ζ (hFa.out.bel hB1 (by have:=hab.out;have:=hlo1.out;omega))
 replace hB:=ζ (hB.out.trans (hB1.mono hB.out.size));replace hkl:=ζ (Nat.lt_of_lt_of_le hkl.out hB1.size);replace hLn:=ζ hLn;clear e0 e1 e2 e3 hln hB1;generalize W2.heap.size=lo at*;go_upto_region 4 with fail
 refine wp_world (fun V=>At V W3.heap.size #[.slice (some ⟨kc,0,none⟩) R.code.length (R.code.length+8),.slice (some ⟨kg,0,none⟩) R.gates.length (R.gates.length+8),.string (T.str mem),.int .i64 R.dep]∧Gr W3 V) ?_ ?_
 ·first|exact⟨At.new W3 _ _,(Gr.refl _).alloc _⟩|exact⟨At.setAll (At.new W3 _ _) _ rfl,Gr.setCells ((Gr.refl W3).alloc _) _ (Nat.le_refl _) _ 0⟩
 rintro V ⟨hp,G2⟩;have hhi:Hz (W3.heap.size≤V.heap.size):=ζ G2.below.size;have hkpl:=ζ hp.1;replace hQ:=ζ (hQ.out.gr G2);replace hFa:=ζ (hFa.out.gr G2);replace hFb:=ζ (hFb.out.gr G2);replace hLn:=ζ (hLn.out.bel (B:=W3.heap.size) (G2.below) (Nat.le_refl _));replace hB:=ζ (hB.out.trans (G2.below.mono hB.out.size));replace hkl:=ζ (Nat.lt_of_lt_of_le hkl.out G2.below.size);replace hp:=ζ hp;have hkpn:Hz (km<W3.heap.size∧ka<W3.heap.size∧kb<W3.heap.size∧lo≤W3.heap.size):=ζ (by have:=hka.out;have:=hab.out;have:=hlo1.out;have:=hlo2.out;omega);clear G2 hlo2;generalize W3.heap.size=kp at*;have d0:V.cell? ⟨kp,0,none⟩=some (.slice (some ⟨kc,0,none⟩) R.code.length (R.code.length+8)):=hp.out.2.1 0;have d1:V.cell? ⟨kp,1,none⟩=some (.slice (some ⟨kg,0,none⟩) R.gates.length (R.gates.length+8)):=hp.out.2.1 1;have d2:V.cell? ⟨kp,2,none⟩=some (.string (T.str mem)):=hp.out.2.1 2;have d3:V.cell? ⟨kp,3,none⟩=some (.int .i64 R.dep):=hp.out.2.1 3
 have hnx:=ζ (new_no70 R (some ⟨kc,0,none⟩) (some ⟨kg,0,none⟩) (R.code.length+8) (R.gates.length+8) mem gate (some ⟨ka,0,none⟩) A.length (A.length+8) (.slice (some ⟨kb,0,none⟩) L.length (L.length+8)) V hLn.out.rp is.out h);go_wp2_with fail;refine hnx.out.mono ?_;rintro r V4 ⟨rfl,g4⟩;clear d0 d1 d2 d3 hnx;have hQV:=hQ;replace hQ:=ζ (hQ.out.gr g4);have e0:V4.cell? ⟨km,0,none⟩=some (.slice ca R.code.length cc):=hQ.out.2.1 0;have e1:V4.cell? ⟨km,1,none⟩=some (.slice ga R.gates.length gc):=hQ.out.2.1 1;have e2:V4.cell? ⟨km,2,none⟩=some (.string (T.str mem)):=hQ.out.2.1 2;have e3:V4.cell? ⟨km,3,none⟩=some (.int .i64 R.dep):=hQ.out.2.1 3;have hny:=ζ (dnew_no70 R ca ga cc gc mem gate sa A.length sc (.slice ia L.length ic) V4 (hP.out.below_ (hB.out.trans (g4.below.mono hB.out.size))) is.out hr.out h);go_wp2_with fail;refine hny.out.mono ?_;rintro r V5 ⟨rfl,g5⟩;have hS:=ζ ((g4.trans g5).below);replace hQ:Hz (At V km #[.slice ca R.code.length cc,.slice ga R.gates.length gc,.string (T.str mem),.int .i64 R.dep]):=ζ hQV.out
 clear e0 e1 e2 e3 hny g4 g5;replace hFa:=ζ (hFa.out.bel hS.out hFa.out.lt);replace hFb:=ζ (hFb.out.bel hS.out hFb.out.lt);replace hLn:=ζ (hLn.out.bel hS.out hhi.out);replace hQ:=ζ (at_below hQ.out hS.out hkl.out);replace hp:=ζ (at_below hp.out hS.out hkpl.out);have hBw:=ζ (hB.out.trans (hS.out.mono hB.out.size));have hsz:Hz (V.heap.size≤V5.heap.size):=ζ hS.out.size;have hWA:=ζ (hA.out.below hBw.out);have hsp:=ζ (spoilt3 A ka sa sc V5 hFa.out hWA.out (fun b off e h0=>by
  obtain⟨b2,off2,e2,e3,_⟩:=hA.out 0 h0;rw[e]at e2;injection e2 with e2;injection e2 with e2;have:=hka.out;have:=hkm.out;omega) hAl)
 go_wp2_with fail;refine hsp.out.mono ?_;rintro r V6 ⟨rfl,hk6,_⟩;replace hFb:=ζ (hFb.out.keep hk6 (by have:=hab.out;omega));replace hLn:=ζ (hLn.out.keep hk6 (fun k h1 h2 (q:k=ka)=>by have:=hab.out;have:=hlo1.out;omega));replace hQ:=ζ (at_keep hQ.out hk6 (by have:=hka.out;omega));replace hp:=ζ (at_keep hp.out hk6 (by have:=hkpn.out;omega));replace hBw:=ζ (hBw.out.trans (hk6.below (B:=w.heap.size) (by have:=hBw.out.size;omega) (fun k (q:k=ka)=>by have:=hkm.out;have:=hka.out;omega)));have hkA:Hz (Kp (fun k=>w.heap.size≤k∧k<V.heap.size) V5 V6):=ζ (Kp.mono hk6 (fun k (q:k=ka)=>.inl (by have:=hkm.out;have:=hka.out;have:=hkpn.out;have:=hhi.out;omega)));replace hsz:=ζ (Nat.le_trans hsz.out hk6.size);clear hsp hWA hk6 hFa;have hWI:=ζ (hI.out.win.below hBw.out);have hsp:=ζ (spoilt3 L kb ia ic V6 hFb.out hWI.out (fun b off e h0=>by
  obtain⟨b2,off2,e2,e3,_⟩:=hI.out.win 0 h0;rw[e]at e2;injection e2 with e2;injection e2 with e2;have:=hka.out;have:=hab.out;have:=hkm.out;omega) hl)
 go_wp2_with fail;refine hsp.out.mono ?_;rintro r V7 ⟨rfl,hk7,_⟩;replace hLn:=ζ (hLn.out.keep hk7 (fun k h1 h2 (q:k=kb)=>by have:=hlo1.out;omega));replace hQ:=ζ (at_keep hQ.out hk7 (by have:=hka.out;have:=hab.out;omega));replace hp:=ζ (at_keep hp.out hk7 (by have:=hkpn.out;omega));replace hBw:=ζ (hBw.out.trans (hk7.below (B:=w.heap.size) (by have:=hBw.out.size;omega) (fun k (q:k=kb)=>by have:=hkm.out;have:=hka.out;have:=hab.out;omega)));replace hkA:Hz (Kp (fun k=>w.heap.size≤k∧k<V.heap.size) V5 V7):=ζ (hkA.out.trans (Kp.mono hk7 (fun k (q:k=kb)=>.inl (by have:=hkm.out;have:=hka.out;have:=hab.out;have:=hkpn.out;have:=hhi.out;omega:w.heap.size≤k∧k<V.heap.size))) (fun _ q=>.inl q));replace hsz:=ζ (Nat.le_trans hsz.out hk7.size);clear hsp hWI hk7 hFb;have d0:V7.cell? ⟨kp,0,none⟩=some (.slice (some ⟨kc,0,none⟩) R.code.length (R.code.length+8)):=hp.out.2.1 0;have d1:V7.cell? ⟨kp,1,none⟩=some (.slice (some ⟨kg,0,none⟩) R.gates.length (R.gates.length+8)):=hp.out.2.1 1
 have d2:V7.cell? ⟨kp,2,none⟩=some (.string (T.str mem)):=hp.out.2.1 2;have d3:V7.cell? ⟨kp,3,none⟩=some (.int .i64 R.dep):=hp.out.2.1 3;have e0:V7.cell? ⟨km,0,none⟩=some (.slice ca R.code.length cc):=hQ.out.2.1 0;have e1:V7.cell? ⟨km,1,none⟩=some (.slice ga R.gates.length gc):=hQ.out.2.1 1;have e2:V7.cell? ⟨km,2,none⟩=some (.string (T.str mem)):=hQ.out.2.1 2;have e3:V7.cell? ⟨km,3,none⟩=some (.int .i64 R.dep):=hQ.out.2.1 3;have hLw:=ζ (hLn.out.low (lo':=w.heap.size) (by have:=hkm.out;have:=hka.out;have:=hab.out;have:=hlo1.out;omega));have hbk:=ζ (back_any R ca ga cc gc (T.str mem) w.heap.size kp V7 kc kg K la lc hLw.out (Nat.le_trans hhi.out hsz.out) ⟨w,rfl,hBw.out,hP.out⟩ hc hr.out hg);go_wp2_with fail;refine hbk.out.mono ?_;rintro r V8 ⟨rfl,hk8⟩;have hk8b:=ζ (Kp.mono (S1:=fun k=>w.heap.size≤k∧k<V.heap.size) hk8 (fun k q=>.inl (by have:=hLw.out.inS q;have:=hhi.out;omega)));replace hkA:Hz (Kp (fun k=>w.heap.size≤k∧k<V.heap.size) V5 V8):=ζ (hkA.out.trans hk8b.out (fun _ q=>.inl q))
 replace hBw:=ζ (hBw.out.trans (hk8b.out.below (B:=w.heap.size) (by have:=hBw.out.size;omega) (fun k q=>q.1)));clear d0 d1 d2 d3 e0 e1 e2 e3 hbk hk8 hk8b;go_wp2_with fail;go_ret3;exact⟨rfl,hBw.out⟩
theorem made_okB (R:Rp)(ca ga:Option Addr)(cc gc:Nat)(mem:List UInt8)(gate:Nat)(A:List Int)(sa:Option Addr)(sc:Nat)(ia:Option Addr)(ic:Nat)(L:List Int)(w:World)(hP:RpIn w ca ga R)(is:R.Is)(hA:WIn w sa A)(hAl:A.length≤2000000)(hI:InL w ia ic L)(hc:R.code.length≤1500000)(hr:∀r∈R.code,r.length≤2000000)(hg:R.gates.length≤2000000)(hl:L.length≤2000000)(B:Nat)(hB0:B≤w.heap.size)(hLfB:LfIn B w ia ic L)(hpgB:DPg B w ⟨ca,ga,cc,gc,.string (T.str mem)⟩ R.pr)(ok:R.Ok mem.length)(hgl:gate<R.gates.length)(hna:(A.length:Int)=R.gates[gate].a):
 Calls Tryz.prog 6 #[.agg #[.slice ca R.code.length cc,.slice ga R.gates.length gc,.string (T.str mem),.int .i64 R.dep],.int .i64 gate,.slice sa A.length sc,.slice ia L.length ic] w fun x w'=>∃a b,x=.returned (.tuple #[.bool true,.pointer (some ⟨a,0,none⟩),.pointer (some ⟨b,0,none⟩)])∧MD B w' R.pr a (start R.gates[gate].fg gate A.length (srcA A) L mem) b ⟨ca,ga,cc,gc,.string (T.str mem)⟩ (start R.gates[gate].fg gate A.length (srcA A) L mem) [snapOb B w]∧Below w.heap.size w w':=by
 replace hLfB:=ζ hLfB;replace hpgB:=ζ hpgB;obtain⟨s0,hs0⟩:∃s,start R.gates[gate].fg gate A.length (srcA A) L mem=s:=⟨_,rfl⟩;have hok:=ζ ok;have hna':=ζ hna;replace hA:=ζ hA;replace hI:=ζ hI;replace hr:=ζ hr;replace hP:=ζ hP;replace is:=ζ is;go_enter Tryz.func6,Tryz.ntmps6;go_upto_region 1 with fail
 refine wp_world (fun W=>At W w.heap.size #[.slice ca R.code.length cc,.slice ga R.gates.length gc,.string (T.str mem),.int .i64 R.dep]∧Gr w W) ⟨At.new w _ _,(Gr.refl _).alloc _⟩ ?_;rintro W ⟨hQ,G⟩;have hB:=ζ G.below;obtain⟨km,hkm⟩:∃km,w.heap.size=km:=⟨_,rfl⟩;rw[hkm]at hQ ⊢;have hkl:=ζ hQ.1;have hw1:=ζ (words_any A sa sc W (hA.out.below hB.out) hAl);replace hQ:=ζ hQ;replace hkm:=ζ hkm;clear G;go_wp2_with fail;refine hw1.out.mono ?_;rintro r W1 ⟨ka,rfl,hka,hFa,hB1⟩;replace hQ:=ζ (at_below hQ.out hB1 hkl.out);replace hB:=ζ (hB.out.trans (hB1.mono hB.out.size));replace hka:Hz (km<ka):=ζ (Nat.lt_of_lt_of_le hkl.out hka);replace hkl:=ζ (Nat.lt_of_lt_of_le hkl.out hB1.size);replace hFa:=ζ hFa;clear hw1 hB1;have hw2:=ζ (words_any L ia ic W1 (hI.out.win.below hB.out) hl);go_wp2_with fail;refine hw2.out.mono ?_;rintro r W2 ⟨kb,rfl,hkb,hFb,hB1⟩;replace hQ:=ζ (at_below hQ.out hB1 hkl.out);have hab:Hz (ka<kb):=ζ (Nat.lt_of_lt_of_le hFa.out.lt hkb)
 replace hFa:=ζ (hFa.out.bel hB1 hFa.out.lt);replace hB:=ζ (hB.out.trans (hB1.mono hB.out.size));replace hkl:=ζ (Nat.lt_of_lt_of_le hkl.out hB1.size);replace hFb:=ζ hFb;clear hw2 hB1 hkb;have e0:W2.cell? ⟨km,0,none⟩=some (.slice ca R.code.length cc):=hQ.out.2.1 0;have e1:W2.cell? ⟨km,1,none⟩=some (.slice ga R.gates.length gc):=hQ.out.2.1 1;have e2:W2.cell? ⟨km,2,none⟩=some (.string (T.str mem)):=hQ.out.2.1 2;have e3:W2.cell? ⟨km,3,none⟩=some (.int .i64 R.dep):=hQ.out.2.1 3;have hln:=ζ (lent2_any R ca ga cc gc (T.str mem) W2 (hP.out.below_ hB.out) hc hr.out hg);go_wp2_with fail;refine hln.out.mono ?_;rintro r W3 ⟨kc,kg,la,lc,K,rfl,hLn,hB1⟩;have hlo1:Hz (kb<W2.heap.size):=ζ hFb.out.lt;have hlo2:Hz (W2.heap.size≤W3.heap.size):=ζ hB1.size;replace hQ:=ζ (at_below hQ.out hB1 hkl.out);replace hFb:=ζ (hFb.out.bel hB1 hFb.out.lt);replace hFa:=ζ (hFa.out.bel hB1 (by have:=hab.out;have:=hlo1.out;omega))
 replace hB:=ζ (hB.out.trans (hB1.mono hB.out.size));replace hkl:=ζ (Nat.lt_of_lt_of_le hkl.out hB1.size);replace hLn:=ζ hLn;clear e0 e1 e2 e3 hln hB1;generalize W2.heap.size=lo at*;go_upto_region 4 with fail
 refine wp_world (fun V=>At V W3.heap.size #[.slice (some ⟨kc,0,none⟩) R.code.length (R.code.length+8),.slice (some ⟨kg,0,none⟩) R.gates.length (R.gates.length+8),.string (T.str mem),.int .i64 R.dep]∧Gr W3 V) ?_ ?_
 ·first|exact⟨At.new W3 _ _,(Gr.refl _).alloc _⟩|exact⟨At.setAll (At.new W3 _ _) _ rfl,Gr.setCells ((Gr.refl W3).alloc _) _ (Nat.le_refl _) _ 0⟩
 rintro V ⟨hp,G2⟩;have hhi:Hz (W3.heap.size≤V.heap.size):=ζ G2.below.size;have hkpl:=ζ hp.1;replace hQ:=ζ (hQ.out.gr G2);replace hFa:=ζ (hFa.out.gr G2);replace hFb:=ζ (hFb.out.gr G2);replace hLn:=ζ (hLn.out.bel (B:=W3.heap.size) (G2.below) (Nat.le_refl _));replace hB:=ζ (hB.out.trans (G2.below.mono hB.out.size));replace hkl:=ζ (Nat.lt_of_lt_of_le hkl.out G2.below.size);replace hp:=ζ hp;have hkpn:Hz (km<W3.heap.size∧ka<W3.heap.size∧kb<W3.heap.size∧lo≤W3.heap.size):=ζ (by have:=hka.out;have:=hab.out;have:=hlo1.out;have:=hlo2.out;omega);clear G2 hlo2;generalize W3.heap.size=kp at*;have d0:V.cell? ⟨kp,0,none⟩=some (.slice (some ⟨kc,0,none⟩) R.code.length (R.code.length+8)):=hp.out.2.1 0;have d1:V.cell? ⟨kp,1,none⟩=some (.slice (some ⟨kg,0,none⟩) R.gates.length (R.gates.length+8)):=hp.out.2.1 1;have d2:V.cell? ⟨kp,2,none⟩=some (.string (T.str mem)):=hp.out.2.1 2;have d3:V.cell? ⟨kp,3,none⟩=some (.int .i64 R.dep):=hp.out.2.1 3
 have hnx:=ζ (new_raw R (some ⟨kc,0,none⟩) (some ⟨kg,0,none⟩) (R.code.length+8) (R.gates.length+8) mem gate (some ⟨ka,0,none⟩) A.length (A.length+8) (srcA A) (some ⟨kb,0,none⟩) (L.length+8) L V hLn.out.rp is.out hok.out hgl hna'.out (src_row hFa.out) hl (inl_row hFb.out));rw[hs0]at hnx;go_wp2_with fail;refine hnx.out.mono ?_;rintro r V4 ⟨a,rfl,hM,hb4⟩;clear d0 d1 d2 d3 hnx;have hQV:=hQ;replace hQ:=ζ (at_below hQ.out hb4 hkl.out);obtain⟨q4,hs4⟩:=sep_both (snap_sep B V) (Nat.le_trans hB0 hB.out.size) hM hb4;have hB4:=ζ (hB.out.trans (hb4.mono hB.out.size));have hpg:Hz (DPg B V4 ⟨ca,ga,cc,gc,.string (T.str mem)⟩ R.pr):=ζ (hpgB.out.below (hB4.out.mono hB0));replace hs4:=ζ hs4;replace hM:=ζ hM;replace hb4:=ζ hb4;have e0:V4.cell? ⟨km,0,none⟩=some (.slice ca R.code.length cc):=hQ.out.2.1 0;have e1:V4.cell? ⟨km,1,none⟩=some (.slice ga R.gates.length gc):=hQ.out.2.1 1;have e2:V4.cell? ⟨km,2,none⟩=some (.string (T.str mem)):=hQ.out.2.1 2
 have e3:V4.cell? ⟨km,3,none⟩=some (.int .i64 R.dep):=hQ.out.2.1 3;have hny:=ζ (dnew_ok R ca ga cc gc mem gate sa A.length sc (srcA A) ia ic L V4 (hP.out.below_ hB4.out) is.out hok.out hr.out hgl hna'.out B (Nat.le_trans hB0 hB4.out.size) hpg.out (LgIn.of (hLfB.out.below (hB4.out.mono hB0))) _ (gi_low hs4.out (hLfB.out.lows _)) (by
  by_cases hA0:A.length=0
  ·exact .inl hA0
  ·obtain⟨b,off,e1,_,_⟩:=hA.out 0 (by omega);refine .inr ⟨b,off,e1,fun X hX hXo j hj=>?_⟩;obtain⟨b2,off2,e3,e4,e5⟩:=hA.out j hj;rw[e1]at e3;injection e3 with e3;injection e3 with e3 e6;subst e3 e6;have hbk:X.heap[b]?=w.heap[b]?:=by
    by_cases hbB:B≤b
    ·have hsn:=hXo (snapOb B V) (by simp);exact(hsn.2 b hbB (Nat.lt_of_lt_of_le e4 hB.out.size)).trans (hB.out.block b e4)
    ·exact(hX.block b (by omega)).trans (hB4.out.block b e4)
   rw[T.cell_of_block hbk,e5];unfold srcA;simp[hj]) s0 hs0)
 go_wp2_with fail;refine hny.out.mono ?_;rintro r V5 ⟨b,rfl,hD5,hb5⟩;have hsn:=hD5.there (snapOb B V) (by simp);have hS:=ζ (snap_below hsn ((hb4.out.mono (Nat.le_trans hB0 hB.out.size)).trans hb5));have hMD:Hz (MD B V5 R.pr a s0 b ⟨ca,ga,cc,gc,.string (T.str mem)⟩ s0 [snapOb B V]):=ζ ⟨q4,hD5⟩;replace hQ:=hQV;clear e0 e1 e2 e3 hny hb5 hD5 hsn hQV hs4 hM;replace hFa:=ζ (hFa.out.bel hS.out hFa.out.lt);replace hFb:=ζ (hFb.out.bel hS.out hFb.out.lt);replace hLn:=ζ (hLn.out.bel hS.out hhi.out);replace hQ:=ζ (at_below hQ.out hS.out hkl.out);replace hp:=ζ (at_below hp.out hS.out hkpl.out);have hBw:=ζ (hB.out.trans (hS.out.mono hB.out.size));have hsz:Hz (V.heap.size≤V5.heap.size):=ζ hS.out.size;have hWA:=ζ (hA.out.below hBw.out);have hsp:=ζ (spoilt3 A ka sa sc V5 hFa.out hWA.out (fun b off e h0=>by
  obtain⟨b2,off2,e2,e3,_⟩:=hA.out 0 h0;rw[e]at e2;injection e2 with e2;injection e2 with e2;have:=hka.out;have:=hkm.out;omega) hAl)
 go_wp2_with fail;refine hsp.out.mono ?_;rintro r V6 ⟨rfl,hk6,_⟩;replace hFb:=ζ (hFb.out.keep hk6 (by have:=hab.out;omega));replace hLn:=ζ (hLn.out.keep hk6 (fun k h1 h2 (q:k=ka)=>by have:=hab.out;have:=hlo1.out;omega));replace hQ:=ζ (at_keep hQ.out hk6 (by have:=hka.out;omega));replace hp:=ζ (at_keep hp.out hk6 (by have:=hkpn.out;omega));replace hBw:=ζ (hBw.out.trans (hk6.below (B:=w.heap.size) (by have:=hBw.out.size;omega) (fun k (q:k=ka)=>by have:=hkm.out;have:=hka.out;omega)));have hkA:Hz (Kp (fun k=>w.heap.size≤k∧k<V.heap.size) V5 V6):=ζ (Kp.mono hk6 (fun k (q:k=ka)=>.inl (by have:=hkm.out;have:=hka.out;have:=hkpn.out;have:=hhi.out;omega)));replace hsz:=ζ (Nat.le_trans hsz.out hk6.size);clear hsp hWA hk6 hFa;have hWI:=ζ (hI.out.win.below hBw.out);have hsp:=ζ (spoilt3 L kb ia ic V6 hFb.out hWI.out (fun b off e h0=>by
  obtain⟨b2,off2,e2,e3,_⟩:=hI.out.win 0 h0;rw[e]at e2;injection e2 with e2;injection e2 with e2;have:=hka.out;have:=hab.out;have:=hkm.out;omega) hl)
 go_wp2_with fail;refine hsp.out.mono ?_;rintro r V7 ⟨rfl,hk7,_⟩;replace hLn:=ζ (hLn.out.keep hk7 (fun k h1 h2 (q:k=kb)=>by have:=hlo1.out;omega));replace hQ:=ζ (at_keep hQ.out hk7 (by have:=hka.out;have:=hab.out;omega));replace hp:=ζ (at_keep hp.out hk7 (by have:=hkpn.out;omega));replace hBw:=ζ (hBw.out.trans (hk7.below (B:=w.heap.size) (by have:=hBw.out.size;omega) (fun k (q:k=kb)=>by have:=hkm.out;have:=hka.out;have:=hab.out;omega)));replace hkA:Hz (Kp (fun k=>w.heap.size≤k∧k<V.heap.size) V5 V7):=ζ (hkA.out.trans (Kp.mono hk7 (fun k (q:k=kb)=>.inl (by have:=hkm.out;have:=hka.out;have:=hab.out;have:=hkpn.out;have:=hhi.out;omega:w.heap.size≤k∧k<V.heap.size))) (fun _ q=>.inl q));replace hsz:=ζ (Nat.le_trans hsz.out hk7.size);clear hsp hWI hk7 hFb;have d0:V7.cell? ⟨kp,0,none⟩=some (.slice (some ⟨kc,0,none⟩) R.code.length (R.code.length+8)):=hp.out.2.1 0;have d1:V7.cell? ⟨kp,1,none⟩=some (.slice (some ⟨kg,0,none⟩) R.gates.length (R.gates.length+8)):=hp.out.2.1 1
 have d2:V7.cell? ⟨kp,2,none⟩=some (.string (T.str mem)):=hp.out.2.1 2;have d3:V7.cell? ⟨kp,3,none⟩=some (.int .i64 R.dep):=hp.out.2.1 3;have e0:V7.cell? ⟨km,0,none⟩=some (.slice ca R.code.length cc):=hQ.out.2.1 0;have e1:V7.cell? ⟨km,1,none⟩=some (.slice ga R.gates.length gc):=hQ.out.2.1 1;have e2:V7.cell? ⟨km,2,none⟩=some (.string (T.str mem)):=hQ.out.2.1 2;have e3:V7.cell? ⟨km,3,none⟩=some (.int .i64 R.dep):=hQ.out.2.1 3;have hLw:=ζ (hLn.out.low (lo':=w.heap.size) (by have:=hkm.out;have:=hka.out;have:=hab.out;have:=hlo1.out;omega));have hbk:=ζ (back_any R ca ga cc gc (T.str mem) w.heap.size kp V7 kc kg K la lc hLw.out (Nat.le_trans hhi.out hsz.out) ⟨w,rfl,hBw.out,hP.out⟩ hc hr.out hg);go_wp2_with fail;refine hbk.out.mono ?_;rintro r V8 ⟨rfl,hk8⟩;have hk8b:=ζ (Kp.mono (S1:=fun k=>w.heap.size≤k∧k<V.heap.size) hk8 (fun k q=>.inl (by have:=hLw.out.inS q;have:=hhi.out;omega)));replace hkA:Hz (Kp (fun k=>w.heap.size≤k∧k<V.heap.size) V5 V8):=ζ (hkA.out.trans hk8b.out (fun _ q=>.inl q))
 replace hBw:=ζ (hBw.out.trans (hk8b.out.below (B:=w.heap.size) (by have:=hBw.out.size;omega) (fun k q=>q.1)));clear d0 d1 d2 d3 e0 e1 e2 e3 hbk hk8 hk8b;go_wp2_with fail;go_ret3;refine⟨a,b,rfl,?_,hBw.out⟩;rw[hs0];exact hMD.out.overS hkA.out hB0 hB.out.size hBw.out (fun k q=>q)
theorem made_ok (R:Rp)(ca ga:Option Addr)(cc gc:Nat)(mem:List UInt8)(gate:Nat)(A:List Int)(sa:Option Addr)(sc:Nat)(ia:Option Addr)(ic:Nat)(L:List Int)(w:World)(hP:RpIn w ca ga R)(is:R.Is)(hA:WIn w sa A)(hAl:A.length≤2000000)(hI:InL w ia ic L)(hc:R.code.length≤1500000)(hr:∀r∈R.code,r.length≤2000000)(hg:R.gates.length≤2000000)(hl:L.length≤2000000)(hcap:∀a,ia=some a→L.length≤ic)(ok:R.Ok mem.length)(hgl:gate<R.gates.length)(hna:(A.length:Int)=R.gates[gate].a):
 Calls Tryz.prog 6 #[.agg #[.slice ca R.code.length cc,.slice ga R.gates.length gc,.string (T.str mem),.int .i64 R.dep],.int .i64 gate,.slice sa A.length sc,.slice ia L.length ic] w fun x w'=>∃a b,x=.returned (.tuple #[.bool true,.pointer (some ⟨a,0,none⟩),.pointer (some ⟨b,0,none⟩)])∧MD w.heap.size w' R.pr a (start R.gates[gate].fg gate A.length (srcA A) L mem) b ⟨ca,ga,cc,gc,.string (T.str mem)⟩ (start R.gates[gate].fg gate A.length (srcA A) L mem) []∧DPg w.heap.size w' ⟨ca,ga,cc,gc,.string (T.str mem)⟩ R.pr∧Below w.heap.size w w':=by
 refine(made_okB R ca ga cc gc mem gate A sa sc ia ic L w hP is hA hAl hI hc hr hg hl w.heap.size (Nat.le_refl _) (LfIn.of hI hcap w.heap.size (Nat.le_refl _)) ⟨w,rfl,Below.refl _ _,ok.rw is hP⟩ ok hgl hna).mono ?_;rintro x w' ⟨a,b,rfl,hM,hB⟩;exact⟨a,b,rfl,hM.drop,⟨w,rfl,hB,ok.rw is hP⟩,hB⟩
theorem eqs_row (ad:Addr)(n c:Nat)(W:World):(binOp .eql 112 (.slice (some ad) n c) (.slice none 0 0)).run Tryz.prog W=.ok (.bool false) W:=rfl
theorem clone_row (b off n c:Nat)(xs:List Value)(w:World)(hb:b<w.heap.size)(hl:xs.length=n*1)(hc:∀j u,xs[j]?=some u→w.cell? ⟨b,off+j,none⟩=some u)(h1:∀u∈xs,u.oneCell'=true)(hn:n≤2000000):
 Calls Tryz.prog 49 #[.slice (some ⟨b,off,none⟩) n c] w fun x w'=>∃v,x=.returned v∧w'.ownsRow w.heap.size 114 1 v n xs∧Below w.heap.size w w':=by
 have eq0:=eqs_row ⟨b,off,none⟩ n c;obtain⟨i0,hi,hz0,hz1,hz2⟩:=T.info_parts' (t:=114) (z:=.nilFunc) (s:=1) (b:=8) (by kernel_rfl);have hO:(w.alloc (.cells #[] 114)).ownsRow w.heap.size 114 1 (.slice (some ⟨w.heap.size,0,none⟩) 0 0) 0 []:=⟨by simp,.inr ⟨w.heap.size,0,#[],rfl,Nat.le_refl _,(MapKept.heap_alloc w _).1,Nat.le_refl _,by simp[maxLen],by simp,by simp⟩⟩;have hc2:∀j u,xs[j]?=some u→(w.alloc (.cells #[] 114)).cell? ((⟨b,off,none⟩:Addr).add j)=some u:=fun j u q=>by
  rw[addr_addZ];exact(T.cell_of_block (((Below.refl _ w).alloc (Nat.le_refl _) _).block b hb) _).trans (hc j u q)
 have hby:(0+n)*8≤140737488355328:=by omega
 replace hO:=ζ hO;replace hc2:=ζ hc2;replace hc:=ζ hc;replace h1:=ζ h1;go_enter Tryz.func49,Tryz.ntmps49;go_wp2_with(at_builtin;refine wpList_append_own_at _ rfl (.tmp 5) (.tmp 6) 112 rfl w.heap.size 114 i0 (.nilFunc) 1 8 Tryz.underlying112 hi hz0 hz1 hz2 rfl (by decide) (.slice (some ⟨w.heap.size,0,none⟩) 0 0) 0 [] rfl hO.out ⟨b,off,none⟩ n c xs rfl hl hc2.out h1.out (by unfold maxLen;omega) hby (by simp) ?_);intro v' w' g1 g2 _ _;replace g1:=ζ g1;have g4:Hz (Below w.heap.size w w'):=ζ (Below.trans (((Below.refl _ w).alloc (Nat.le_refl _) _)) (T.Below.of_grown g2 (by simp) (fun k r=>by simp[Value.ownBlock]at r;omega)));clear g2;go_wp2_with fail;go_ret;exact⟨_,rfl,g1.out,g4.out⟩
theorem eqs_fr (ad:Addr)(n c:Nat)(W:World):(binOp .eql 82 (.slice (some ad) n c) (.slice none 0 0)).run Tryz.prog W=.ok (.bool false) W:=rfl
theorem eqn_fr (n c:Nat)(W:World):(binOp .eql 82 (.slice none n c) (.slice none 0 0)).run Tryz.prog W=.ok (.bool true) W:=rfl
theorem clone_fr (b off n c:Nat)(xs:List Value)(w:World)(hb:b<w.heap.size)(hl:xs.length=n*18)(hc:∀j u,xs[j]?=some u→w.cell? ⟨b,off+j,none⟩=some u)(h1:∀u∈xs,u.oneCell'=true)(hn:n≤2000000):
 Calls Tryz.prog 25 #[.slice (some ⟨b,off,none⟩) n c] w fun x w'=>∃v,x=.returned v∧w'.ownsRow w.heap.size 81 18 v n xs∧Below w.heap.size w w':=by
 have eq0:=eqs_fr ⟨b,off,none⟩ n c;obtain⟨i0,hi,hz0,hz1,hz2⟩:=T.info_parts' (t:=81) (z:=.agg #[.int .i64 0,.int .i64 0,.int .u64 0,.int .u64 0,.int .u64 0,.int .u64 0,.int .u64 0,.int .u64 0,.int .u64 0,.int .u64 0,.int .u64 0,.int .u64 0,.int .u64 0,.int .u64 0,.int .u64 0,.int .u64 0,.int .u64 0,.int .u64 0]) (s:=18) (b:=144) (by kernel_rfl);have hO:(w.alloc (.cells #[] 81)).ownsRow w.heap.size 81 18 (.slice (some ⟨w.heap.size,0,none⟩) 0 0) 0 []:=⟨by simp,.inr ⟨w.heap.size,0,#[],rfl,Nat.le_refl _,(MapKept.heap_alloc w _).1,Nat.le_refl _,by simp[maxLen],by simp,by simp⟩⟩;have hc2:∀j u,xs[j]?=some u→(w.alloc (.cells #[] 81)).cell? ((⟨b,off,none⟩:Addr).add j)=some u:=fun j u q=>by
  rw[addr_addZ];exact(T.cell_of_block (((Below.refl _ w).alloc (Nat.le_refl _) _).block b hb) _).trans (hc j u q)
 have hby:(0+n)*144≤140737488355328:=by omega
 replace hO:=ζ hO;replace hc2:=ζ hc2;replace hc:=ζ hc;replace h1:=ζ h1;go_enter Tryz.func25,Tryz.ntmps25;go_wp2_with(at_builtin;refine wpList_append_own_at _ rfl (.tmp 5) (.tmp 6) 82 rfl w.heap.size 81 i0 (.agg #[.int .i64 0,.int .i64 0,.int .u64 0,.int .u64 0,.int .u64 0,.int .u64 0,.int .u64 0,.int .u64 0,.int .u64 0,.int .u64 0,.int .u64 0,.int .u64 0,.int .u64 0,.int .u64 0,.int .u64 0,.int .u64 0,.int .u64 0,.int .u64 0]) 18 144 Tryz.underlying82 hi hz0 hz1 hz2 rfl (by decide) (.slice (some ⟨w.heap.size,0,none⟩) 0 0) 0 [] rfl hO.out ⟨b,off,none⟩ n c xs rfl hl hc2.out h1.out (by unfold maxLen;omega) hby (by simp) ?_);intro v' w' g1 g2 _ _;replace g1:=ζ g1;have g4:Hz (Below w.heap.size w w'):=ζ (Below.trans (((Below.refl _ w).alloc (Nat.le_refl _) _)) (T.Below.of_grown g2 (by simp) (fun k r=>by simp[Value.ownBlock]at r;omega)));clear g2;go_wp2_with fail;go_ret;exact⟨_,rfl,g1.out,g4.out⟩
theorem clnil_fr (w:World):Calls Tryz.prog 25 #[.slice none 0 0] w fun x w'=>x=.returned (.slice none 0 0)∧w'=w:=by
 have eq0:=eqn_fr 0 0;go_enter Tryz.func25,Tryz.ntmps25;go_wp2_with fail;go_ret;exact⟨rfl,rfl⟩
structure Cpd (W1 wr:World)(g:Nat)(C:List (List Fi))(k:Nat)(V:Nat→Value):Prop where
 row:FRow wr g C.length V
 done:∀j (_:j<k) (h2:j<C.length),∃gk c,V j=.slice (some ⟨gk,0,none⟩) C[j].length c∧W1.heap.size≤gk∧gk≠g∧gk<wr.heap.size∧∀i (hi:i<C[j].length),wr.cell? ⟨gk,i,none⟩=some (methV C[j][i])
 gro:Below W1.heap.size W1 wr
 new:W1.heap.size≤g
def CdIn (w:World)(ca:Option Addr)(C:List (List Fi)):Prop:=∀k (h:k<C.length),∃g gk ck,ca=some ⟨g,0,none⟩∧g<w.heap.size∧w.cell? ⟨g,k,none⟩=some (.slice (some ⟨gk,0,none⟩) C[k].length ck)∧gk<w.heap.size∧∀j (hj:j<C[k].length),w.cell? ⟨gk,j,none⟩=some (methV C[k][j])
theorem CdIn.below {w W:World}{ca:Option Addr}{C:List (List Fi)}(h:CdIn w ca C)(q:Below w.heap.size w W):CdIn W ca C:=fun k hk=>by
 obtain⟨g,gk,ck,e1,e2,e3,e4,e5⟩:=h k hk;exact⟨g,gk,ck,e1,Nat.lt_of_lt_of_le e2 q.size,(T.cell_of_block (q.block g e2) _).trans e3,Nat.lt_of_lt_of_le e4 q.size,fun j hj=>(T.cell_of_block (q.block gk e4) _).trans (e5 j hj)⟩
theorem FRow.belC {w w1:World}{g n:Nat}{V:Nat→Value}(h:FRow w g n V)(q:Below w.heap.size w w1):FRow w1 g n V:=
 ⟨Nat.lt_of_lt_of_le h.lt q.size,fun j hj=>(T.cell_of_block (q.block g h.lt) j).trans (h.at_ j hj),fun j=>(T.frozen_of_block (q.block g h.lt) j).trans (h.fr j)⟩
theorem Cpd.next {W1 wr w1:World}{g k gn c:Nat}{C:List (List Fi)}{V:Nat→Value}(h:Cpd W1 wr g C k V)(hk:k<C.length)(q:Below wr.heap.size wr w1)(hn:wr.heap.size≤gn)(hlt:gn<w1.heap.size)(hc:∀i (hi:i<C[k].length),w1.cell? ⟨gn,i,none⟩=some (methV C[k][i])):
 Cpd W1 (w1.setCell ⟨g,k,none⟩ (.slice (some ⟨gn,0,none⟩) C[k].length c)) g C (k+1) (updF V k (.slice (some ⟨gn,0,none⟩) C[k].length c)):=by
 have hg:=h.row.lt;have hne:gn≠g:=by omega
 have hB:Below W1.heap.size W1 w1:=h.gro.trans (q.mono h.gro.size);refine⟨(h.row.belC q).set k _ hk,fun j hj h2=>?_,hB.setCell (by show W1.heap.size≤g;exact h.new) _,h.new⟩;by_cases e:j=k
 ·subst e;refine⟨gn,c,by unfold updF;rw[if_pos rfl],by have:=h.gro.size;omega,hne,by simpa using hlt,fun i hi=>?_⟩;rw[T.cso (fun e=>absurd e.symm hne)];exact hc i hi
 ·obtain⟨gk,ck,e1,e2,e3,e4,e5⟩:=h.done j (by omega) h2;refine⟨gk,ck,by unfold updF;rw[if_neg e];exact e1,e2,e3,by have:=q.size;simp;omega,fun i hi=>?_⟩;rw[T.cso (fun e=>absurd e.symm e3),T.cell_of_block (q.block gk e4)];exact e5 i hi
theorem meth_one (r:List Fi):∀u∈r.map methV,u.oneCell'=true:=fun u hu=>by
 obtain⟨i,_,rfl⟩:=List.mem_map.1 hu
 rfl
theorem copied_ok (C:List (List Fi))(ca:Option Addr)(cc:Nat)(w:World)(hC:CdIn w ca C)(hl:C.length≤1000)(hr:∀k (h:k<C.length),0<C[k].length∧C[k].length≤1000):
 Calls Tryz.prog 21 #[.slice ca C.length cc] w fun x w'=>∃V,x=.returned (.slice (some ⟨w.heap.size,0,none⟩) C.length C.length)∧Cpd w w' w.heap.size C C.length V:=by
 have hmk:=make_rowZ (t:=78) (e:=112) (z:=.slice none 0 0) (b:=24) Tryz.underlying78 (by kernel_rfl) rfl (by decide) C.length (by omega) w;have h0:Hz (∃V,Cpd w (w.alloc (.cells (Array.replicate C.length (.slice none 0 0)) 112)) w.heap.size C 0 V):=ζ ⟨_,FRow.new w C.length (.slice none 0 0) 112,fun j hj=>absurd hj (Nat.not_lt_zero j),(Below.refl _ w).alloc (Nat.le_refl _) _,Nat.le_refl _⟩;replace hC:=ζ hC;replace hr:=ζ hr;go_enter Tryz.func21,Tryz.ntmps21;go_upto_region 3 with fail
 clear hmk;go_loopw [11] (fun x wr=>∃k:Nat,x=.int .i64 k∧k≤C.length∧Hz (∃V,Cpd w wr w.heap.size C k V)) (fun x _=>C.length - (intOf x).toNat)
 case atStart=>exact⟨0,rfl,Nat.zero_le _,h0⟩
 case round=>
  clear h0;obtain⟨k,rfl,hkl,hV⟩:=hrel;by_cases hk:k<C.length
  ·have hki:(k:Int)<(C.length:Int):=by omega
   obtain⟨V,hV⟩:=hV.out;obtain⟨g,gk,ck,e1,e2,e3,e4,e5⟩:=(hC.out.below hV.gro) k hk;subst e1;have hrk:=hr.out k hk;have hcl:=ζ (clone_row gk 0 C[k].length ck (C[k].map methV) wr e4 (by simp) (fun j u q=>by
    have hj:j<C[k].length:=by have:=(List.getElem?_eq_some_iff.1 q).1;simpa using this
    rw[Nat.zero_add,e5 j hj,←q];simp[hj]) (meth_one _) (by omega))
   have c1:wr.cell? ⟨w.heap.size,k,none⟩=some (V k):=hV.row.at_ k hk;have f1:=hV.row.fr k;replace hV:=ζ hV;clear e5;go_wp2_with fail;refine hcl.out.mono ?_;rintro r w1 ⟨v,rfl,h1,h2⟩;obtain⟨gn,cn,rfl,h3,h4⟩:=own_at h1 hrk.1;have h5:=(h1.lt gn rfl).1;have hnx:=ζ (hV.out.next (gn:=gn) (c:=cn) hk h2 h5 h3 (fun i hi=>h4 i _ (by simp[hi])));have c2:w1.cell? ⟨w.heap.size,k,none⟩=some (V k):=(T.cell_of_block (h2.block _ hV.out.row.lt) _).trans c1;have f2:w1.frozen? ⟨w.heap.size,k,none⟩=false:=(T.frozen_of_block (h2.block _ hV.out.row.lt) _).trans f1;have hlt:w.heap.size<w1.heap.size:=Nat.lt_of_lt_of_le hV.out.row.lt h2.size;clear hcl h1 h2 h4 c1 f1 e3 hV;go_wp2_with fail;refine And.intro (Exists.intro (k+1) ⟨?_,hk,ζ ⟨_,hnx.out⟩⟩) ?_
   ·first|rfl|(rw[show wrap64 ((k:Int)+1)=((k+1:Nat):Int)by unfold wrap64;omega])
   ·first|(simp[intOf];omega)|(rw[show wrap64 ((k:Int)+1)=((k+1:Nat):Int)by unfold wrap64;omega];simp[intOf];omega)
  ·have hki:¬(k:Int)<(C.length:Int):=by omega
   obtain rfl:k=C.length:=by omega
   go_wp2_with fail;go_ret;obtain⟨V,hV⟩:=hV.out;exact⟨rfl,V,hV⟩
end Z
namespace T
open Go.RowKit
end T
end Go.Proofs.YtdidjhillmgccaaGreat
