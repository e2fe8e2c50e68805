import Derived.Test.YtkhbiaaangnkdaaGreatDoorJ09
import Derived.RegionTactic
import Derived.BigRegion
import Derived.Deep.RegionHeld3
import Derived.StillTactics
namespace Go.Proofs.YtkhbiaaangnkdaaGreatDoor
set_option maxRecDepth 100000
set_option maxHeartbeats 40000000
open Go.RowKit
theorem hasAll_any (h p:Int)(w:World):
 Calls Tryz.prog 158 #[.int .u8 h,.int .u8 p] w fun x w'=>x=.returned (.bool (hasB h p))∧w=w':=by
 go_enter Tryz.func158,Tryz.ntmps158;go_wp2;go_ret;exact⟨rfl,rfl⟩
theorem capRight_any (b e c p s:Int)(w:World):
 Calls Tryz.prog 128 #[.agg #[.int .u64 b,.int .u64 e,.int .u64 c,.int .u8 p,.int .i64 s]] w fun x w'=>x=.returned (.bool (rightB b e p s))∧w.alloc (.cells #[.int .u64 b,.int .u64 e,.int .u64 c,.int .u8 p,.int .i64 s] 73)=w':=by
 go_enter Tryz.func128,Tryz.ntmps128;go_wp2_with(go_at_call 158;refine(hasAll_any _ _ _).mono ?_;rintro x w' ⟨rfl,rfl⟩)
 all_goals
  go_ret;refine⟨ret_bool ?_,rfl⟩
  first|(refine right_last ?_ ?_ ?_ ?_<;>assumption)|(refine right_false ?_;rintro⟨h1,h2,h3,h4,h5⟩;first|omega|contradiction)
theorem dataCap_any (b e c p s:Int)(w:World):
 Calls Tryz.prog 83 #[.agg #[.int .u64 b,.int .u64 e,.int .u64 c,.int .u8 p,.int .i64 s]] w fun x w'=>x=.returned (.bool (dataB b e p s))∧Gr w w':=by
 unfold dataB;generalize hr:rightB b e p s=r;have hc:=capRight_any b e c p s;rw[hr]at hc;clear hr
 cases r
 all_goals
  go_enter Tryz.func83,Tryz.ntmps83;go_wp2_with(go_at_call 128;refine(hc _).mono ?_;rintro x w' ⟨rfl,rfl⟩);go_ret;refine⟨ret_bool (by simp),?_⟩
  repeat(first|exact Gr.refl _|refine Gr.alloc ?_ _)
theorem CapOf_any (t:PTyp)(c:Int)(w:World):
 Calls Tryz.prog 127 #[.agg #[.bool t.cap,.int .u64 t.b,.int .u64 t.e,.int .u64 t.lo,.int .u64 t.hi,.int .u8 t.p,.int .i64 t.s],.int .u64 c] w fun x w'=>x=.returned (.agg #[.int .u64 t.b,.int .u64 t.e,.int .u64 c,.int .u8 t.p,.int .i64 t.s])∧Gr w w':=by
 go_enter Tryz.func127,Tryz.ntmps127;go_wp2
 all_goals
  simp[bodyPost,results,Tryz.results127,go_sem]
  repeat(first|exact Gr.refl _|refine Gr.alloc ?_ _)
theorem pointsWithin_any (t:PTyp)(c:Int)(w:World):
 Calls Tryz.prog 82 #[.agg #[.bool t.cap,.int .u64 t.b,.int .u64 t.e,.int .u64 t.lo,.int .u64 t.hi,.int .u8 t.p,.int .i64 t.s],.int .u64 c] w fun x w'=>x=.returned (.bool (inLH t.lo t.hi c))∧Gr w w':=by
 go_enter Tryz.func82,Tryz.ntmps82;go_wp2
 all_goals
  go_ret;refine⟨ret_bool (by unfold inLH;simp_all<;>omega),?_⟩
  repeat(first|exact Gr.refl _|refine Gr.alloc ?_ _)
theorem typeRight_any (t:PTyp)(w:World):
 Calls Tryz.prog 81 #[.agg #[.bool t.cap,.int .u64 t.b,.int .u64 t.e,.int .u64 t.lo,.int .u64 t.hi,.int .u8 t.p,.int .i64 t.s]] w fun x w'=>x=.returned (.bool t.right)∧Gr w w':=by
 have hc:=CapOf_any t 0
 cases ht:t.cap with
 |false=>
  go_enter Tryz.func81,Tryz.ntmps81;go_wp2
  all_goals
   go_ret;refine⟨ret_bool (by simp_all [PTyp.right]),?_⟩
   (with_reducible repeat(first|exact Gr.refl _|refine Gr.alloc ?_ _|refine Gr.grow ?_ _|refine Gr.drew ?_|refine Gr.setCell ?_ _ _ _ (gr_size ?_)))
 |true=>
  rw[ht]at hc;have hd:=dataCap_any t.b t.e 0 t.p t.s;have e:t.right=(dataB t.b t.e t.p t.s&&decide (t.lo≤t.hi)):=by simp[PTyp.right,ht]
  rw[e];clear e ht;generalize dataB t.b t.e t.p t.s=q at hd ⊢;have L1:=grow_cell;have L2:=grow_frozen;have L3:=grow_set;have L4:=grow_lt;have L5:=glt1;have L6:=glt2;have L7:=glt3;have L8:=glt4;have L9:=glt5;have L10:=glt6;have L11:=lt1;have L12:=lt2;have L13:=lt3;have L14:=lt4;have L15:=lt5;have L16:=lt6;have L17:=lt7;have L18:=lt8
  cases q
  all_goals
   go_enter Tryz.func81,Tryz.ntmps81;go_wp2_with(first|(go_at_call 127;refine(hc _).mono ?_;rintro x w' ⟨rfl,hG⟩;(repeat(replace hG:=Gr.of_grow hG));obtain⟨l,rfl⟩:=hG)|(go_at_call 83;refine(hd _).mono ?_;rintro x w' ⟨rfl,hG⟩;(repeat(replace hG:=Gr.of_grow hG));obtain⟨l,rfl⟩:=hG));go_ret;refine⟨ret_bool (by simp),?_⟩
   (with_reducible repeat(first|exact Gr.refl _|refine Gr.alloc ?_ _|refine Gr.grow ?_ _|refine Gr.drew ?_|refine Gr.setCell ?_ _ _ _ (gr_size ?_)))
theorem targetThere_any (k:Ins)(code gates:Int)(w:World)(h0:0≤k.op)(h1:k.op<256):
 Calls Tryz.prog 85 #[.agg #[.int .u8 k.op,.int .i64 k.a,.int .i64 k.b,.int .i64 k.c,.int .i64 k.m],.int .i64 code,.int .i64 gates] w fun x w'=>x=.returned (.bool (tgtB k.op k.m code gates))∧Gr w w':=by
 go_enter Tryz.func85,Tryz.ntmps85;go_wp2
 all_goals
  go_ret;refine⟨ret_bool (by unfold tgtB;simp_all<;>omega),?_⟩
  (with_reducible repeat(first|exact Gr.refl _|refine Gr.alloc ?_ _|refine Gr.grow ?_ _|refine Gr.drew ?_|refine Gr.setCell ?_ _ _ _ (gr_size ?_)))
theorem placeRight_any (b n f:Int)(d:ByteArray)(a:Option Addr)(k c:Nat)(w:World)(hb:W64 b)(hn:W64 n):
 Calls Tryz.prog 47 #[.agg #[.int .u64 b,.int .u64 n,.string d,.slice a k c],.int .u64 f] w fun x w'=>x=.returned (.bool (placeB b n f))∧Gr w w':=by
 obtain⟨b0,b1⟩:=hb;obtain⟨n0,n1⟩:=hn;have m1:b.tmod 16=b%16:=Int.tmod_eq_emod_of_nonneg b0;have m2:n.tmod 16=n%16:=Int.tmod_eq_emod_of_nonneg n0;by_cases h6:b<65536
 ·have m3:IntKind.u64.wrap (65536 - b)=65536 - b:=by rw[IntKind.wrap_u64];omega
  go_enter Tryz.func47,Tryz.ntmps47;go_wp2
  all_goals
   go_ret;refine⟨ret_bool (by unfold placeB;simp_all<;>first|rfl|omega),?_⟩
   (with_reducible repeat(first|exact Gr.refl _|refine Gr.alloc ?_ _|refine Gr.grow ?_ _|refine Gr.drew ?_|refine Gr.setCell ?_ _ _ _ (gr_size ?_)))
 ·go_enter Tryz.func47,Tryz.ntmps47;go_wp2
  all_goals
   go_ret;refine⟨ret_bool (by unfold placeB;simp_all<;>first|rfl|omega),?_⟩
   (with_reducible repeat(first|exact Gr.refl _|refine Gr.alloc ?_ _|refine Gr.grow ?_ _|refine Gr.drew ?_|refine Gr.setCell ?_ _ _ _ (gr_size ?_)))
theorem slotRight_any (k:PSlot)(w:World):
 Calls Tryz.prog 49 #[.agg #[.bool k.t.cap,.int .u64 k.t.b,.int .u64 k.t.e,.int .u64 k.t.lo,.int .u64 k.t.hi,.int .u8 k.t.p,.int .i64 k.t.s,.int .u64 k.c]] w fun x w'=>x=.returned (.bool k.right)∧Gr w w':=by
 have ht:=typeRight_any k.t;have hp:=pointsWithin_any k.t k.c;unfold PSlot.right;generalize k.t.right=q1 at ht ⊢;generalize inLH k.t.lo k.t.hi k.c=q2 at hp ⊢;generalize k.t.cap=q0 at ht hp ⊢;have L1:=grow_cell;have L2:=grow_frozen;have L3:=grow_set;have L4:=grow_lt;have L5:=glt1;have L6:=glt2;have L7:=glt3;have L8:=glt4;have L9:=glt5;have L10:=glt6;have L11:=lt1;have L12:=lt2;have L13:=lt3;have L14:=lt4;have L15:=lt5;have L16:=lt6;have L17:=lt7;have L18:=lt8
 cases q0
 ·go_enter Tryz.func49,Tryz.ntmps49;go_wp2;go_ret;refine⟨ret_bool (by simp),?_⟩
  (with_reducible repeat(first|exact Gr.refl _|refine Gr.alloc ?_ _|refine Gr.grow ?_ _|refine Gr.drew ?_|refine Gr.setCell ?_ _ _ _ (gr_size ?_)))
 ·cases q1
  all_goals
   go_enter Tryz.func49,Tryz.ntmps49;go_wp2_with(first|(go_at_call 81;refine(ht _).mono ?_;rintro x w' ⟨rfl,hG⟩;(repeat(replace hG:=Gr.of_grow hG));obtain⟨l,rfl⟩:=hG)|(go_at_call 82;refine(hp _).mono ?_;rintro x w' ⟨rfl,hG⟩;(repeat(replace hG:=Gr.of_grow hG));obtain⟨l,rfl⟩:=hG));go_ret;refine⟨ret_bool (by simp),?_⟩
   (with_reducible repeat(first|exact Gr.refl _|refine Gr.alloc ?_ _|refine Gr.grow ?_ _|refine Gr.drew ?_|refine Gr.setCell ?_ _ _ _ (gr_size ?_)))
theorem typ_cells {w:World}{b o:Nat}{t:PTyp}(h:∀j,j<7→w.cell? ⟨b,o+j,none⟩=t.vals[j]?):
 w.cell? ⟨b,o,none⟩=some (.bool t.cap)∧w.cell? ⟨b,o+1,none⟩=some (.int .u64 t.b)∧w.cell? ⟨b,o+1+1,none⟩=some (.int .u64 t.e)∧w.cell? ⟨b,o+1+1+1,none⟩=some (.int .u64 t.lo)∧w.cell? ⟨b,o+1+1+1+1,none⟩=some (.int .u64 t.hi)∧w.cell? ⟨b,o+1+1+1+1+1,none⟩=some (.int .u8 t.p)∧w.cell? ⟨b,o+1+1+1+1+1+1,none⟩=some (.int .i64 t.s):=
 ⟨h 0 (by omega),h 1 (by omega),h 2 (by omega),h 3 (by omega),h 4 (by omega),h 5 (by omega),h 6 (by omega)⟩
theorem root_cells {w:World}{b o:Nat}{t:PRoot}(h:∀j,j<6→w.cell? ⟨b,o+j,none⟩=t.vals[j]?):
 w.cell? ⟨b,o,none⟩=some (.int .i64 t.r)∧w.cell? ⟨b,o+1,none⟩=some (.int .u64 t.b)∧w.cell? ⟨b,o+1+1,none⟩=some (.int .u64 t.e)∧w.cell? ⟨b,o+1+1+1,none⟩=some (.int .u64 t.c)∧w.cell? ⟨b,o+1+1+1+1,none⟩=some (.int .u8 t.p)∧w.cell? ⟨b,o+1+1+1+1+1,none⟩=some (.int .i64 t.s):=
 ⟨h 0 (by omega),h 1 (by omega),h 2 (by omega),h 3 (by omega),h 4 (by omega),h 5 (by omega)⟩
theorem slot_cells {w:World}{b o:Nat}{t:PSlot}(h:∀j,j<8→w.cell? ⟨b,o+j,none⟩=t.vals[j]?):
 w.cell? ⟨b,o,none⟩=some (.bool t.t.cap)∧w.cell? ⟨b,o+1,none⟩=some (.int .u64 t.t.b)∧w.cell? ⟨b,o+1+1,none⟩=some (.int .u64 t.t.e)∧w.cell? ⟨b,o+1+1+1,none⟩=some (.int .u64 t.t.lo)∧w.cell? ⟨b,o+1+1+1+1,none⟩=some (.int .u64 t.t.hi)∧w.cell? ⟨b,o+1+1+1+1+1,none⟩=some (.int .u8 t.t.p)∧w.cell? ⟨b,o+1+1+1+1+1+1,none⟩=some (.int .i64 t.t.s)∧w.cell? ⟨b,o+1+1+1+1+1+1+1,none⟩=some (.int .u64 t.c):=
 ⟨h 0 (by omega),h 1 (by omega),h 2 (by omega),h 3 (by omega),h 4 (by omega),h 5 (by omega),h 6 (by omega),h 7 (by omega)⟩
theorem typesR_at {L:List PTyp}{j:Nat}(h:j<L.length):typesR (L.drop j)=(L[j].right&&typesR (L.drop (j+1))):=by
 rw[List.drop_eq_getElem_cons h,typesR]
theorem drop_end {α:Type}{L:List α}{j:Nat}(h:¬j<L.length):L.drop j=[]:=by rw[List.drop_eq_nil_iff];omega
theorem typesRight_any (L:List PTyp)(c:Nat)(a:Option Addr)(w:World)(hL:FIn 7 PTyp.vals w.heap.size w a L)(hl:L.length≤140737488355328):
 Calls Tryz.prog 53 #[.slice a L.length c] w fun x w'=>x=.returned (.bool (typesR L))∧Gr w w':=by
 replace hL:=Hid.mk hL;go_enter Tryz.func53,Tryz.ntmps53;go_wp2_with fail;go_loopw [7] (fun i wr=>∃j:Nat,i=.int .i64 j∧j≤L.length∧Hid (typesR (L.drop j)=typesR L∧Gr w wr)) (fun i _=>L.length - (intOf i).toNat)
 case atStart=>exact⟨0,rfl,by omega,⟨rfl,Gr.refl w⟩⟩
 case round=>
  obtain⟨j,rfl,hj,⟨hf,hG⟩⟩:=hrel;by_cases hlt:j<L.length
  ·have jl:(j:Int)<L.length:=by omega
   obtain⟨b,off,rfl,hb,hb2,hc⟩:=hL.out.below hG.below j hlt;obtain⟨c0,c1,c2,c3,c4,c5,c6⟩:=typ_cells hc;clear hc;rw[typesR_at hlt]at hf;have ht:=typeRight_any L[j];generalize L[j]=t at*;generalize t.right=q at hf ht;replace hf:=Hid.mk hf;replace hG:=Hid.mk hG
   cases q
   all_goals
    go_wp2_with fail;refine(ht _).mono ?_;rintro x w2 ⟨rfl,hG2⟩;replace hG:=hG.out.trans hG2.of_alloc;clear hG2;replace hG:=Hid.mk hG;go_wp2_with fail
   ·go_ret;exact⟨ret_bool (by rw[←hf.out];simp),hG.out⟩
   ·go_roundw
    case rel=>exact⟨j+1,by simp,by omega,⟨by rw[←hf.out];simp,hG.out⟩⟩
    case measure=>simp[intOf];omega
  ·have jl:¬(j:Int)<L.length:=by omega
   rw[drop_end hlt]at hf;replace hf:=Hid.mk hf;replace hG:=Hid.mk hG;go_wp2_with fail;go_ret;exact⟨ret_bool hf.out,hG.out⟩
theorem rootsR_yes {L:List PRoot}{j:Nat}{f:Int}(h:j<L.length)(h1:f<L[j].r)(h2:L[j].r<16)(h3:dataB L[j].b L[j].e L[j].p L[j].s=true):rootsR (L.drop j) f=rootsR (L.drop (j+1)) L[j].r:=by
 rw[List.drop_eq_getElem_cons h,rootsR,if_pos ⟨h1,h2,h3⟩]
theorem rootsR_no {L:List PRoot}{j:Nat}{f:Int}(h:j<L.length)(h1:¬(f<L[j].r∧L[j].r<16∧dataB L[j].b L[j].e L[j].p L[j].s=true)):rootsR (L.drop j) f=false:=by
 rw[List.drop_eq_getElem_cons h,rootsR,if_neg h1]
theorem rootsRight_any (L:List PRoot)(c:Nat)(a:Option Addr)(w:World)(hL:FIn 6 PRoot.vals w.heap.size w a L)(hl:L.length≤140737488355328):
 Calls Tryz.prog 50 #[.slice a L.length c] w fun x w'=>x=.returned (.bool (rootsR L 7))∧Gr w w':=by
 replace hL:=Hid.mk hL;go_enter Tryz.func50,Tryz.ntmps50;go_wp2_with fail;go_loopw [3,8] (fun v i wr=>∃(j:Nat) (f:Int),v=.int .i64 f∧i=.int .i64 j∧j≤L.length∧Hid (rootsR (L.drop j) f=rootsR L 7∧Gr w wr)) (fun _ i _=>L.length - (intOf i).toNat)
 case atStart=>exact⟨0,7,rfl,rfl,by omega,⟨rfl,Gr.refl w⟩⟩
 case round=>
  obtain⟨j,f,rfl,rfl,hj,⟨hf,hG⟩⟩:=hrel;by_cases hlt:j<L.length
  ·have jl:(j:Int)<L.length:=by omega
   obtain⟨b,off,rfl,hb,hb2,hc⟩:=hL.out.below hG.below j hlt;obtain⟨c0,c1,c2,c3,c4,c5⟩:=root_cells hc;clear hc;have hy:=rootsR_yes (f:=f) hlt;have hn:=rootsR_no (f:=f) hlt;rw[hf]at hy hn;clear hf;have ht:=dataCap_any L[j].b L[j].e L[j].c L[j].p L[j].s;generalize L[j]=t at*;generalize dataB t.b t.e t.p t.s=q at*;replace hG:=Hid.mk hG;by_cases k1:t.r≤f
   ·replace hn:=Hid.mk (hn (fun h=>by omega));clear hy;go_wp2_with fail;go_ret;exact⟨ret_bool hn.out.symm,hG.out.alloc _⟩
   by_cases k2:16≤t.r
   ·replace hn:=Hid.mk (hn (fun h=>by omega));clear hy;go_wp2_with fail;go_ret;exact⟨ret_bool hn.out.symm,hG.out.alloc _⟩
   have k1':¬t.r≤f:=k1;have k2':¬16≤t.r:=k2
   cases q
   ·replace hn:=Hid.mk (hn (fun h=>by simp at h));clear hy;have L1:=grow_cell;have L2:=grow_frozen;have L3:=grow_set;have L4:=grow_lt;have L5:=glt1;have L6:=glt2;have L7:=glt3;have L8:=glt4;have L9:=glt5;have L10:=glt6;have L11:=lt1;have L12:=lt2;have L13:=lt3;have L14:=lt4;have L15:=lt5;have L16:=lt6;have L17:=lt7;have L18:=lt8;go_wp2_with(go_at_call 83;refine(ht _).mono ?_;rintro x w' ⟨rfl,hG⟩;(repeat(replace hG:=Gr.of_grow hG));obtain⟨l,rfl⟩:=hG);go_ret;exact⟨ret_bool hn.out.symm,(hG.out.alloc _).grow _⟩
   ·replace hy:=Hid.mk (hy (by omega) (by omega) rfl);clear hn;have L1:=grow_cell;have L2:=grow_frozen;have L3:=grow_set;have L4:=grow_lt;have L5:=glt1;have L6:=glt2;have L7:=glt3;have L8:=glt4;have L9:=glt5;have L10:=glt6;have L11:=lt1;have L12:=lt2;have L13:=lt3;have L14:=lt4;have L15:=lt5;have L16:=lt6;have L17:=lt7;have L18:=lt8;go_wp2_with(go_at_call 83;refine(ht _).mono ?_;rintro x w' ⟨rfl,hG⟩;(repeat(replace hG:=Gr.of_grow hG));obtain⟨l,rfl⟩:=hG);go_roundw
    case rel=>exact⟨j+1,t.r,rfl,by simp,by omega,⟨hy.out.symm,(hG.out.alloc _).grow _⟩⟩
    case measure=>simp[intOf];omega
  ·have jl:¬(j:Int)<L.length:=by omega
   rw[drop_end hlt]at hf;replace hf:=Hid.mk hf;replace hG:=Hid.mk hG;go_wp2_with fail;go_ret;exact⟨ret_bool hf.out,hG.out⟩
theorem hasInst_any (m:PImg)(c e:Int)(ra ca ga:Option Addr)(rn rc cc gn gc:Nat)(w:World)(hc:CompIn w.heap.size w ca m.comps):
 Calls Tryz.prog 52 #[.agg #[.slice ra rn rc,.slice ca m.comps.length cc,.slice ga gn gc,.int .i64 m.depth],.int .i64 c,.int .i64 e] w fun x w'=>x=.returned (.bool (hasI m.comps c e))∧Gr w w':=by
 unfold hasI;by_cases h:0≤c∧c<m.comps.length∧0≤e
 ·obtain⟨h0,h1,h2⟩:=h;rw[if_pos ⟨h0,h1,h2⟩];obtain⟨j,rfl⟩:∃j:Nat,c=j:=⟨c.toNat,by omega⟩;have hlt:j<m.comps.length:=by omega
  rw[Int.toNat_natCast,List.getElem?_eq_getElem hlt];obtain⟨b,off,ra',rc',ka,kc,rfl,h3,h4,c0,c1,_,_⟩:=hc j hlt;generalize m.comps[j]=k at*;simp only[];have L1:=fun o=>World.cell?_alloc_past (w:=w) o b (off+j*2+1) h4
  go_enter Tryz.func52,Tryz.ntmps52;go_wp2
  all_goals
   go_ret;refine⟨ret_bool (by simp_all),?_⟩
   (with_reducible repeat(first|exact Gr.refl _|refine Gr.alloc ?_ _|refine Gr.grow ?_ _|refine Gr.drew ?_|refine Gr.setCell ?_ _ _ _ (gr_size ?_)))
 ·rw[if_neg h];clear hc;go_enter Tryz.func52,Tryz.ntmps52;go_wp2
  all_goals
   go_ret;exact⟨rfl,(Gr.refl w).alloc _⟩
theorem countsRight_any (d:Int)(ra ca ga:Option Addr)(rn rc cn cc gn gc:Nat)(w:World):
 Calls Tryz.prog 28 #[.agg #[.slice ra rn rc,.slice ca cn cc,.slice ga gn gc,.int .i64 d]] w fun x w'=>x=.returned (.bool (countsB rn cn gn d))∧Gr w w':=by
 go_enter Tryz.func28,Tryz.ntmps28;go_wp2
 all_goals
  go_ret;refine⟨ret_bool (by unfold countsB;simp_all<;>omega),?_⟩
  (with_reducible repeat(first|exact Gr.refl _|refine Gr.alloc ?_ _|refine Gr.grow ?_ _|refine Gr.drew ?_|refine Gr.setCell ?_ _ _ _ (gr_size ?_)))
theorem extract_any (S:List UInt8)(i j:Nat):(str S).extract i j=str ((S.take j).drop i):=by
 apply ByteArray.ext;simp[str,ByteArray.data_extract];rw[List.drop_take]
theorem ends_last (d:List UInt8)(h:0<d.length):(((str d).extract (d.length - 1) d.length).toList==(str [0]).toList)=endsNought d:=by
 rw[extract_any,str_list,str_list,List.take_length];have e:d.drop (d.length - 1)=[d[d.length - 1]]:=by
  rw[List.drop_eq_getElem_cons (by omega)];have:d.drop (d.length - 1+1)=[]:=by rw[List.drop_eq_nil_iff];omega
  rw[this]
 rw[e];unfold endsNought;rw[List.getLast?_eq_getElem?,List.getElem?_eq_getElem (by omega)];simp
theorem liteSuffix_any (d:List UInt8)(w:World)(hd:d.length≤9223372036854775807):
 Calls Tryz.prog 126 #[.string (str d),.string (str [0])] w fun x w'=>x=.returned (.bool (endsNought d))∧w=w':=by
 have ss:=str_size d;have s1:(str [0]).size=1:=rfl;by_cases h:0<d.length
 ·have e:=ends_last d h;have h1:(1:Int)≤d.length:=by omega
  generalize endsNought d=q at e ⊢;go_enter Tryz.func126,Tryz.ntmps126;go_wp2;go_ret;exact⟨ret_bool rfl,rfl⟩
 ·have e:d=[]:=List.eq_nil_of_length_eq_zero (by omega);subst e;go_enter Tryz.func126,Tryz.ntmps126;go_wp2;go_ret;exact⟨rfl,rfl⟩
theorem HasSuffix_any (d:List UInt8)(w:World)(hd:d.length≤9223372036854775807):
 Calls Tryz.prog 80 #[.string (str d),.string (str [0])] w fun x w'=>x=.returned (.bool (endsNought d))∧w=w':=by
 have hl:=fun w=>liteSuffix_any d w hd
 generalize endsNought d=q at hl ⊢;go_enter Tryz.func80,Tryz.ntmps80;go_wp2_with(go_at_call 126;refine(hl _).mono ?_;rintro x w' ⟨rfl,rfl⟩);go_ret;exact⟨rfl,rfl⟩
theorem contentRight_any (b n:Int)(d:List UInt8)(a:Option Addr)(k c:Nat)(w:World)(hd:d.length≤9223372036854775807)(hk:k≤140737488355328):
 Calls Tryz.prog 48 #[.agg #[.int .u64 b,.int .u64 n,.string (str d),.slice a k c]] w fun x w'=>x=.returned (.bool (contentB n d k))∧Gr w w':=by
 have hl:=fun w=>HasSuffix_any d w hd
 have ss:=str_size d;have sl:=str_list d;have z0:(⟨#[0]⟩:ByteArray)=str [0]:=rfl;by_cases h:0<k
 ·have e1:IntKind.u64.wrap (16*(k:Int))=16*k:=by rw[IntKind.wrap_u64];omega
  have e2:IntKind.u64.wrap (k:Int)=k:=by rw[IntKind.wrap_u64];omega
  rw[show contentB n d k=(d.isEmpty&&(n==16*(k:Int)))by simp[contentB,h]];have h':(0:Int)<k:=by omega
  go_enter Tryz.func48,Tryz.ntmps48;go_wp2
  all_goals
   go_ret;refine⟨ret_bool (by simp_all<;>(intros;omega)),?_⟩
   (with_reducible repeat(first|exact Gr.refl _|refine Gr.alloc ?_ _|refine Gr.grow ?_ _|refine Gr.drew ?_|refine Gr.setCell ?_ _ _ _ (gr_size ?_)))
 ·have e2:IntKind.u64.wrap (d.length:Int)=d.length:=by rw[IntKind.wrap_u64];omega
  rw[show contentB n d k=(decide ((d.length:Int)≤n)&&!endsNought d)by simp[contentB,h]];generalize endsNought d=q at hl ⊢;obtain rfl:k=0:=by omega
  go_enter Tryz.func48,Tryz.ntmps48;go_wp2_with(go_at_call 80;refine(hl _).mono ?_;rintro x w' ⟨rfl,rfl⟩)
  all_goals
   go_ret;refine⟨ret_bool (by simp_all<;>(intros;omega)),?_⟩
   (with_reducible repeat(first|exact Gr.refl _|refine Gr.alloc ?_ _|refine Gr.grow ?_ _|refine Gr.drew ?_|refine Gr.setCell ?_ _ _ _ (gr_size ?_)))
theorem regsR_at {L:List PReg}{j:Nat}{f:Int}(h:j<L.length):regsR (L.drop j) f=if placeB L[j].b L[j].n f&&contentB L[j].n L[j].data L[j].slots.length then(if slotsR L[j].slots then regsR (L.drop (j+1)) (L[j].b+L[j].n)else 45)else 43:=by
 rw[List.drop_eq_getElem_cons h,regsR]
theorem slotsR_at {L:List PSlot}{j:Nat}(h:j<L.length):slotsR (L.drop j)=(L[j].right&&slotsR (L.drop (j+1))):=by
 rw[List.drop_eq_getElem_cons h,slotsR]
theorem placeB_in {b n f:Int}(h:placeB b n f=true):b<65536∧n≤65536 - b:=by
 simp[placeB]at h;omega
theorem regionsRight_any (L:List PReg)(c:Nat)(a:Option Addr)(w:World)(hL:RegIn w.heap.size w a L)(hr:∀r∈L,r.Rng)(hl:L.length≤maxG):
 Calls Tryz.prog 29 #[.slice a L.length c] w fun x w'=>x=.returned (.int .i64 (regsR L 0))∧Gr w w':=by
 replace hL:=Hid.mk hL;replace hr:=Hid.mk hr;have hl1:L.length≤140737488355328:=hl;go_enter Tryz.func29,Tryz.ntmps29;go_wp2_with fail;go_loopw [3,10] (fun v i wr=>∃(j:Nat) (f:Int),v=.int .u64 f∧i=.int .i64 j∧j≤L.length∧Hid (regsR (L.drop j) f=regsR L 0∧Gr w wr)) (fun _ i _=>L.length - (intOf i).toNat)
 case atStart=>exact⟨0,0,rfl,rfl,by omega,⟨rfl,Gr.refl w⟩⟩
 case round=>
  obtain⟨j,f,rfl,rfl,hj,⟨hf,hG⟩⟩:=hrel;by_cases hlt:j<L.length
  ·have jl:(j:Int)<L.length:=by omega
   obtain⟨b,off,sa,sc,rfl,hb,hb2,c0,c1,c2,c3,hs⟩:=hL.out.below hG.below j hlt;obtain⟨⟨rb0,rb1⟩,⟨rn0,rn1⟩,hd,hsl,_⟩:=hr.out L[j] (List.getElem_mem hlt);rw[regsR_at hlt]at hf;have hp:=fun w=>placeRight_any L[j].b L[j].n f (str L[j].data) sa L[j].slots.length sc w ⟨rb0,rb1⟩ ⟨rn0,rn1⟩
   have hcn:=fun w=>contentRight_any L[j].b L[j].n L[j].data sa L[j].slots.length sc w (by unfold maxG at hd;omega) (by unfold maxG at hsl;omega)
   have hpi:=placeB_in (b:=L[j].b) (n:=L[j].n) (f:=f);generalize L[j]=r at*;generalize placeB r.b r.n f=q1 at*;generalize contentB r.n r.data r.slots.length=q2 at*;have hsl1:r.slots.length≤140737488355328:=hsl;clear hsl hd;replace hf:=Hid.mk hf;replace hs:=Hid.mk hs;replace hG:=Hid.mk hG
   cases q1
   ·go_wp2_with fail;refine(hp _).mono ?_;rintro x w2 ⟨rfl,hG2⟩;replace hG:=Hid.mk (hG.out.trans hG2.of_alloc);clear hG2;go_wp2_with fail;go_ret;exact⟨retI (by rw[←hf.out];simp),hG.out⟩
   obtain⟨p1,p2⟩:=hpi rfl;clear hpi;have hw:IntKind.u64.wrap (r.b+r.n)=r.b+r.n:=by rw[IntKind.wrap_u64];omega
   go_wp2_with fail;refine(hp _).mono ?_;rintro x w2 ⟨rfl,hG2⟩;have A1:At w2 wr.heap.size #[.int .u64 r.b,.int .u64 r.n,.string (str r.data),.slice sa r.slots.length sc]:=(At.new wr _ _).gr hG2;replace hs:=Hid.mk (hs.out.below (w1:=w2) (hG2.of_alloc.below.mono hG.out.below.size));replace hG:=Hid.mk (hG.out.trans hG2.of_alloc);clear hG2 hp c0 c1 c2 c3;have⟨z1,q1,_⟩:=A1;go_wp2_with fail;refine(hcn _).mono ?_;rintro x w3 ⟨rfl,hG2⟩;clear z1 q1;replace A1:=A1.gr hG2;replace hs:=Hid.mk (hs.out.below (w1:=w3) (hG2.below.mono hG.out.below.size));replace hG:=Hid.mk (hG.out.trans hG2);clear hG2 hcn;have⟨z1,q1,_⟩:=A1
   cases q2
   ·go_wp2_with fail;go_ret;exact⟨retI (by rw[←hf.out];simp),hG.out⟩
   go_wp2_with fail;clear z1 q1;go_loopw [26] (fun i ws=>∃k:Nat,i=.int .i64 k∧k≤r.slots.length∧Hid (slotsR (r.slots.drop k)=slotsR r.slots∧Gr w ws∧At ws wr.heap.size #[.int .u64 r.b,.int .u64 r.n,.string (str r.data),.slice sa r.slots.length sc]∧FIn 8 PSlot.vals w.heap.size ws sa r.slots)) (fun i _=>r.slots.length - (intOf i).toNat)
   case atStart=>exact⟨0,rfl,by omega,⟨rfl,hG.out,A1,hs.out⟩⟩
   case round=>
    rename_i ws _ _ _ _ _ _ _
    clear A1 hs hG;obtain⟨k,rfl,hk,⟨hsf,hG,A1,hs⟩⟩:=hrel;by_cases hkl:k<r.slots.length
    ·have kl:(k:Int)<r.slots.length:=by omega
     obtain⟨b2,off2,rfl,hb3,hb4,hcc⟩:=hs k hkl;obtain⟨d0,d1,d2,d3,d4,d5,d6,d7⟩:=slot_cells hcc;clear hcc;rw[slotsR_at hkl]at hsf;have ht:=slotRight_any r.slots[k];generalize r.slots[k]=t at*;generalize t.right=q3 at*;replace hsf:=Hid.mk hsf;replace hs:=Hid.mk hs;replace hG:=Hid.mk hG
     cases q3
     ·go_wp2_with fail;refine(ht _).mono ?_;rintro x w5 ⟨rfl,hG2⟩;replace hG:=Hid.mk (hG.out.trans hG2.of_alloc);clear hG2;go_wp2_with fail;go_ret;exact⟨retI (by rw[←hf.out,←hsf.out];simp),hG.out⟩
     ·go_wp2_with fail;refine(ht _).mono ?_;rintro x w5 ⟨rfl,hG2⟩;replace A1:=A1.gr hG2.of_alloc;replace hs:=Hid.mk (hs.out.below (w1:=w5) (hG2.of_alloc.below.mono hG.out.below.size));replace hG:=Hid.mk (hG.out.trans hG2.of_alloc);clear hG2;go_wp2_with fail;go_roundw
      case rel=>exact⟨k+1,by simp,by omega,⟨by rw[←hsf.out];simp,hG.out,A1,hs.out⟩⟩
      case measure=>simp[intOf];omega
    ·have kl:¬(k:Int)<r.slots.length:=by omega
     rw[drop_end hkl]at hsf;replace hsf:=Hid.mk hsf;replace hG:=Hid.mk hG;have⟨z1,q1,_⟩:=A1;go_wp2_with fail;go_roundw
     case rel=>exact⟨j+1,r.b+r.n,rfl,by simp,by omega,⟨by rw[←hf.out,←hsf.out];simp[slotsR],hG.out⟩⟩
     case measure=>simp[intOf];omega
  ·have jl:¬(j:Int)<L.length:=by omega
   rw[drop_end hlt,regsR]at hf;replace hf:=Hid.mk hf;replace hG:=Hid.mk hG;go_wp2_with fail;go_ret;exact⟨retI hf.out,hG.out⟩
end Go.Proofs.YtkhbiaaangnkdaaGreatDoor
