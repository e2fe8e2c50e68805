import Derived.Test.YthlpjlnehonpdaaGreatDoorK14
import Derived.Test.YthlpjlnehonpdaaGreatDoorK15
import Derived.Test.YthlpjlnehonpdaaGreatDoorK04
import Derived.Test.YthlpjlnehonpdaaGreatDoorK13
namespace Go.Proofs.YthlpjlnehonpdaaGreatDoor
open Go.RowKit
set_option maxRecDepth 100000
set_option maxHeartbeats 40000000
theorem hasInst_any (m:PImg)(c e:Int)(ra ca ga:Option Addr)(rn rc cc gn gc:Nat)(w:World)(hc:CompIn w.heap.size w ca m.comps):
 Calls Tryz.prog 64 #[.agg #[.slice ra rn rc,.slice ca m.comps.length cc,.slice ga gn gc,.int .i64 m.depth],.int .i64 c,.int .i64 e] w fun x w'=>x=.returned (.bool (hasI m.comps c e))∧Gr w w':=by
 unfold hasI;by_cases h:0≤c∧c<m.comps.length∧0≤e
 ·obtain⟨h0,h1,h2⟩:=h;rw[if_pos ⟨h0,h1,h2⟩];obtain⟨j,rfl⟩:∃j:Nat,c=j:=⟨c.toNat,by omega⟩;have hlt:j<m.comps.length:=by omega
  rw[Int.toNat_natCast,List.getElem?_eq_getElem hlt];obtain⟨b,off,ra',rc',ka,kc,rfl,h3,h4,c0,c1,_,_⟩:=hc j hlt;generalize m.comps[j]=k at*;simp only[];have L1:=fun o=>World.cell?_alloc_past (w:=w) o b (off+j*2+1) h4
  go_enter Tryz.func64,Tryz.ntmps64;go_wp2
  all_goals
   go_ret;refine⟨ret_bool (by simp_all),?_⟩
   (with_reducible repeat(first|exact Gr.refl _|refine Gr.alloc ?_ _|refine Gr.grow ?_ _|refine Gr.drew ?_|refine Gr.setCell ?_ _ _ _ (gr_size ?_)))
 ·rw[if_neg h];clear hc;go_enter Tryz.func64,Tryz.ntmps64;go_wp2
  all_goals
   go_ret;exact⟨rfl,(Gr.refl w).alloc _⟩
theorem countsRight_any (d:Int)(ra ca ga:Option Addr)(rn rc cn cc gn gc:Nat)(w:World):
 Calls Tryz.prog 38 #[.agg #[.slice ra rn rc,.slice ca cn cc,.slice ga gn gc,.int .i64 d]] w fun x w'=>x=.returned (.bool (countsB rn cn gn d))∧Gr w w':=by
 go_enter Tryz.func38,Tryz.ntmps38;go_wp2
 all_goals
  go_ret;refine⟨ret_bool (by unfold countsB;simp_all<;>omega),?_⟩
  (with_reducible repeat(first|exact Gr.refl _|refine Gr.alloc ?_ _|refine Gr.grow ?_ _|refine Gr.drew ?_|refine Gr.setCell ?_ _ _ _ (gr_size ?_)))
theorem regsR_at {L:List PReg}{j:Nat}{f:Int}(h:j<L.length):regsR (L.drop j) f=if placeB L[j].b L[j].n f&&contentB L[j].n L[j].data L[j].slots.length then(if slotsR L[j].slots then regsR (L.drop (j+1)) (L[j].b+L[j].n)else 45)else 43:=by
 rw[List.drop_eq_getElem_cons h,regsR]
theorem slotsR_at {L:List PSlot}{j:Nat}(h:j<L.length):slotsR (L.drop j)=(L[j].right&&slotsR (L.drop (j+1))):=by
 rw[List.drop_eq_getElem_cons h,slotsR]
theorem placeB_in {b n f:Int}(h:placeB b n f=true):b<65536∧n≤65536 - b:=by
 simp[placeB]at h;omega
theorem regionsRight_any (L:List PReg)(c:Nat)(a:Option Addr)(w:World)(hL:RegIn w.heap.size w a L)(hr:∀r∈L,r.Rng)(hl:L.length≤maxG):
 Calls Tryz.prog 39 #[.slice a L.length c] w fun x w'=>x=.returned (.int .i64 (regsR L 0))∧Gr w w':=by
 replace hL:=Hid.mk hL;replace hr:=Hid.mk hr;have hl1:L.length≤140737488355328:=hl;go_enter Tryz.func39,Tryz.ntmps39;go_wp2_with fail;go_loopw [3,10] (fun v i wr=>∃(j:Nat) (f:Int),v=.int .u64 f∧i=.int .i64 j∧j≤L.length∧Hid (regsR (L.drop j) f=regsR L 0∧Gr w wr)) (fun _ i _=>L.length - (intOf i).toNat)
 case atStart=>exact⟨0,0,rfl,rfl,by omega,⟨rfl,Gr.refl w⟩⟩
 case round=>
  obtain⟨j,f,rfl,rfl,hj,⟨hf,hG⟩⟩:=hrel;by_cases hlt:j<L.length
  ·have jl:(j:Int)<L.length:=by omega
   obtain⟨b,off,sa,sc,rfl,hb,hb2,c0,c1,c2,c3,hs⟩:=hL.out.below hG.below j hlt;obtain⟨⟨rb0,rb1⟩,⟨rn0,rn1⟩,hd,hsl,_⟩:=hr.out L[j] (List.getElem_mem hlt);rw[regsR_at hlt]at hf;have hp:=fun w=>placeRight_any L[j].b L[j].n f (str L[j].data) sa L[j].slots.length sc w ⟨rb0,rb1⟩ ⟨rn0,rn1⟩
   have hcn:=fun w=>contentRight_any L[j].b L[j].n L[j].data sa L[j].slots.length sc w (by unfold maxG at hd;omega) (by unfold maxG at hsl;omega)
   have hpi:=placeB_in (b:=L[j].b) (n:=L[j].n) (f:=f);generalize L[j]=r at*;generalize placeB r.b r.n f=q1 at*;generalize contentB r.n r.data r.slots.length=q2 at*;have hsl1:r.slots.length≤140737488355328:=hsl;clear hsl hd;replace hf:=Hid.mk hf;replace hs:=Hid.mk hs;replace hG:=Hid.mk hG
   cases q1
   ·go_wp2_with fail;refine(hp _).mono ?_;rintro x w2 ⟨rfl,hG2⟩;replace hG:=Hid.mk (hG.out.trans hG2.of_alloc);clear hG2;go_wp2_with fail;go_ret;exact⟨retI (by rw[←hf.out];simp),hG.out⟩
   obtain⟨p1,p2⟩:=hpi rfl;clear hpi;have hw:IntKind.u64.wrap (r.b+r.n)=r.b+r.n:=by rw[IntKind.wrap_u64];omega
   go_wp2_with fail;refine(hp _).mono ?_;rintro x w2 ⟨rfl,hG2⟩;have A1:At w2 wr.heap.size #[.int .u64 r.b,.int .u64 r.n,.string (str r.data),.slice sa r.slots.length sc]:=(At.new wr _ _).gr hG2;replace hs:=Hid.mk (hs.out.below (w1:=w2) (hG2.of_alloc.below.mono hG.out.below.size));replace hG:=Hid.mk (hG.out.trans hG2.of_alloc);clear hG2 hp c0 c1 c2 c3;have⟨z1,q1,_⟩:=A1;go_wp2_with fail;refine(hcn _).mono ?_;rintro x w3 ⟨rfl,hG2⟩;clear z1 q1;replace A1:=A1.gr hG2;replace hs:=Hid.mk (hs.out.below (w1:=w3) (hG2.below.mono hG.out.below.size));replace hG:=Hid.mk (hG.out.trans hG2);clear hG2 hcn;have⟨z1,q1,_⟩:=A1
   cases q2
   ·go_wp2_with fail;go_ret;exact⟨retI (by rw[←hf.out];simp),hG.out⟩
   go_wp2_with fail;clear z1 q1;go_loopw [26] (fun i ws=>∃k:Nat,i=.int .i64 k∧k≤r.slots.length∧Hid (slotsR (r.slots.drop k)=slotsR r.slots∧Gr w ws∧At ws wr.heap.size #[.int .u64 r.b,.int .u64 r.n,.string (str r.data),.slice sa r.slots.length sc]∧FIn 8 PSlot.vals w.heap.size ws sa r.slots)) (fun i _=>r.slots.length - (intOf i).toNat)
   case atStart=>exact⟨0,rfl,by omega,⟨rfl,hG.out,A1,hs.out⟩⟩
   case round=>
    rename_i ws _ _ _ _ _ _ _
    clear A1 hs hG;obtain⟨k,rfl,hk,⟨hsf,hG,A1,hs⟩⟩:=hrel;by_cases hkl:k<r.slots.length
    ·have kl:(k:Int)<r.slots.length:=by omega
     obtain⟨b2,off2,rfl,hb3,hb4,hcc⟩:=hs k hkl;obtain⟨d0,d1,d2,d3,d4,d5,d6,d7⟩:=slot_cells hcc;clear hcc;rw[slotsR_at hkl]at hsf;have ht:=slotRight_any r.slots[k];generalize r.slots[k]=t at*;generalize t.right=q3 at*;replace hsf:=Hid.mk hsf;replace hs:=Hid.mk hs;replace hG:=Hid.mk hG
     cases q3
     ·go_wp2_with fail;refine(ht _).mono ?_;rintro x w5 ⟨rfl,hG2⟩;replace hG:=Hid.mk (hG.out.trans hG2.of_alloc);clear hG2;go_wp2_with fail;go_ret;exact⟨retI (by rw[←hf.out,←hsf.out];simp),hG.out⟩
     ·go_wp2_with fail;refine(ht _).mono ?_;rintro x w5 ⟨rfl,hG2⟩;replace A1:=A1.gr hG2.of_alloc;replace hs:=Hid.mk (hs.out.below (w1:=w5) (hG2.of_alloc.below.mono hG.out.below.size));replace hG:=Hid.mk (hG.out.trans hG2.of_alloc);clear hG2;go_wp2_with fail;go_roundw
      case rel=>exact⟨k+1,by simp,by omega,⟨by rw[←hsf.out];simp,hG.out,A1,hs.out⟩⟩
      case measure=>simp[intOf];omega
    ·have kl:¬(k:Int)<r.slots.length:=by omega
     rw[drop_end hkl]at hsf;replace hsf:=Hid.mk hsf;replace hG:=Hid.mk hG;have⟨z1,q1,_⟩:=A1;go_wp2_with fail;go_roundw
     case rel=>exact⟨j+1,r.b+r.n,rfl,by simp,by omega,⟨by rw[←hf.out,←hsf.out];simp[slotsR],hG.out⟩⟩
     case measure=>simp[intOf];omega
  ·have jl:¬(j:Int)<L.length:=by omega
   rw[drop_end hlt,regsR]at hf;replace hf:=Hid.mk hf;replace hG:=Hid.mk hG;go_wp2_with fail;go_ret;exact⟨retI hf.out,hG.out⟩
end Go.Proofs.YthlpjlnehonpdaaGreatDoor
