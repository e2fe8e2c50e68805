import Derived.Test.YtkhbiaaangnkdaaGreatDoorJ47
import Derived.Test.YtkhbiaaangnkdaaGreatDoorJ06
import Derived.Deep.DeepCutAuto
namespace Go.Proofs.YtkhbiaaangnkdaaGreatDoor
set_option maxRecDepth 100000
set_option maxHeartbeats 40000000
namespace C
open Go.RowKit
open T (Sep Ob Kp Mf TgIn boxOb Fm Tc Ed Vl Cp Bx tgOb mRow updV)
open Bd (stP mnL cdL StI cll hlt rti insN st_right st_rng mn_len cd_len gtV hgB)
theorem insN_snoc (L:List Ins)(x:Ins):insN (L++[x])=insN L+(if x.op=29 then 1 else if x.op=31 then 0 else 0):=by
 unfold insN;rw[Bd.sW_app];show _+(Bd.wI 0 x+0)=_;unfold Bd.wI;omega
theorem sti_snoc {L:List Ins}{x:Ins}(h:∀i∈L,StI i)(hx:StI x):∀i∈L++[x],StI i:=fun i hi=>by
 rcases List.mem_append.1 hi with q|q
 ·exact h i q
 ·rw[List.mem_singleton.1 q];exact hx
theorem walk_BoundStraight (R:List Int)(aa:Option Addr)(ac:Nat)(times:Int)(w:World)(ht:TabIn w)(hR:F.NIn w.heap.size w aa R)(hRb:∀x∈R, -9223372036854775808≤x∧x<9223372036854775808)(hg: -9223372036854775808≤times∧times<9223372036854775808):
 Calls Tryz.prog 3 #[.slice aa R.length ac,.int .i64 times] w fun x w'=>x=.returned (.bool true)∧Below w.heap.size w w':=by
 have hH:=ζ (Bd.headB_any w ht);have hPk:=ζ (fun x (q: -9223372036854775808≤x∧x<9223372036854775808)=>pick18_any x 8 (by omega) q);obtain⟨n,hn6,hPn⟩:=pick18_any times 6 (by omega) hg;replace hPn:=ζ hPn;replace ht:=ζ ht;replace hR:=ζ hR;replace hRb:=ζ hRb;go_enter Tryz.func3,Tryz.ntmps3;go_upto_region 2 with(go_at_call 4;refine hH.out.mono ?_;rintro r W0 ⟨rfl,b0⟩;replace b0:=ζ b0)
 clear hH;go_upto_region 5 with fail
 go_loopw [6,7,8] (fun v x y wr=>∃(L:List Ins) (la:Option Addr) (lc:Nat),v=.slice la L.length lc∧x=.int .u64 (insN L)∧y=.int .i64 L.length∧L.length≤30∧Hz (∀i∈L,StI i)∧Hz (LOwn wr W0.heap.size (.slice la L.length lc) L)∧Hz (Below W0.heap.size W0 wr)) (fun _ _ y _=>30 - (intOf y).toNat)
 case atStart=>exact⟨[],none,0,rfl,rfl,rfl,Nat.zero_le _,ζ (fun i hi=>by cases hi),ζ (LOwn.nil _ _),ζ (Below.refl _ _)⟩
 case round=>
  obtain⟨L,la,lc,rfl,rfl,rfl,hl,hL,hown,hB⟩:=hrel;go_upto_region 5 with fail;go_cut [31] (fun c wx=>(∃g:Bool,c=.bool g∧Hz (g=true→L.length<R.length∧L.length<30))∧wr=wx)
  case first=>
   by_cases h1:L.length<R.length
   ·have h1i:(L.length:Int)<R.length:=by omega
    by_cases h2:L.length<30
    ·have h2i:(L.length:Int)<30:=by omega
     go_wp2_with fail;go_meet;exact⟨⟨true,rfl,ζ (fun _=>⟨h1,h2⟩)⟩,rfl⟩
    ·have h2i:¬(L.length:Int)<30:=by omega
     go_wp2_with fail;go_meet;exact⟨⟨false,rfl,ζ (fun q=>by cases q)⟩,rfl⟩
   ·have h1i:¬(L.length:Int)<R.length:=by omega
    go_wp2_with fail;go_meet;exact⟨⟨false,rfl,ζ (fun q=>by cases q)⟩,rfl⟩
  case rest=>
   obtain⟨⟨g,hgv,hgt⟩,hwx⟩:=hcut;subst hwx;subst hgv
   cases g with
   |true=>
    obtain⟨hlR,hl30⟩:=hgt.out rfl;have hin:=Bd.insN_in L;obtain⟨ab,ao,rfl,_,hab,hac⟩:=hR.out L.length hlR;have hxb:=hRb.out R[L.length] (List.getElem_mem hlR);have e7:=((b0.out.trans (hB.out.mono b0.out.size)).cell (p:=⟨ab,_,none⟩) hab).trans hac;have l7:ab<wr.heap.size:=Nat.lt_of_lt_of_le hab (Nat.le_trans b0.out.size hB.out.size);obtain⟨b,hb8,hpb⟩:=hPk.out R[L.length] hxb;have ilt:(L.length:Int)<R.length:=by omega
    replace hxb:=ζ hxb;replace hpb:=ζ hpb;generalize R[L.length]=x at*;by_cases hm:Int.tmod x 3=0
    ·have hmb:(Int.tmod x 3==0)=true:=by simpa using hm
     replace hm:=ζ hm;go_upto_region 11 with(go_at_call 5;refine(hpb.out _).mono ?_;rintro r Wp ⟨rfl,hWp⟩;replace hWp:=hWp.symm;subst hWp)
     refine wp_world (fun V=>At V wr.heap.size #[.int .u8 29,.int .i64 1,.int .i64 0,.int .i64 0,.int .i64 0]∧Hz (LOwn V W0.heap.size (.slice la L.length lc) L)∧Hz (Below W0.heap.size W0 V)) ⟨At.new wr _ _,ζ (lown_alloc hown.out _),ζ (hB.out.alloc hB.out.size _)⟩ ?_;rintro V ⟨aV,hoV,hBV⟩;have f0:V.cell? ⟨wr.heap.size,0,none⟩=some (.int .u8 29):=aV.2.1 0;have f1:V.cell? ⟨wr.heap.size,1,none⟩=some (.int .i64 1):=aV.2.1 1;have f2:V.cell? ⟨wr.heap.size,2,none⟩=some (.int .i64 0):=aV.2.1 2;have f3:V.cell? ⟨wr.heap.size,3,none⟩=some (.int .i64 0):=aV.2.1 3;have f4:V.cell? ⟨wr.heap.size,4,none⟩=some (.int .i64 0):=aV.2.1 4;have lV:=aV.1;clear aV hown hB e7 l7;generalize wr.heap.size=kV at*;have ho3:=ζ (lown_alloc hoV.out (.cells #[.int .u8 29,.int .i64 1,.int .i64 0,.int .i64 0,.int .i64 0] 29));have hB3:=ζ (hBV.out.alloc hBV.out.size (.cells #[.int .u8 29,.int .i64 1,.int .i64 0,.int .i64 0,.int .i64 0] 29))
     have hlk:=ζ (fun q r=>(World.ownsRow.lt ho3.out q r).1);have hbs:=hBV.out.size;have hll:L.length≤2000000:=by omega
     go_wp2_with(at_builtin;refine wpList_append_insS rfl (.tmp 49) (.tmp 51) rfl W0.heap.size (.slice la L.length lc) L ⟨29,1,0,0,0⟩ rfl ho3.out V.heap.size rfl (At.new V _ _) hll (by simp;omega) ?_);intro g9 cap w9 q1 q2;have hB4:=ζ (hB3.out.trans (Below.of_grown q2 (by simp;omega) (fun q r=>hlk.out q r)));replace q1:=ζ q1;clear q2 hoV hBV ho3 hB3 hlk f0 f1 f2 f3 f4 lV;have hL2:=ζ (sti_snoc hL.out (x:=⟨29,1,0,0,0⟩) (.inl rfl));have hi2:Hz (insN (L++[⟨29,1,0,0,0⟩])=insN L+1):=ζ (by rw[insN_snoc];simp);have hl2:Hz ((L++[(⟨29,1,0,0,0⟩:Ins)]).length=L.length+1):=ζ (by simp);go_wp2_with fail;refine⟨⟨L++[⟨29,1,0,0,0⟩],some ⟨g9,0,none⟩,cap,?_,?_,?_,?_,hL2,?_,hB4⟩,?_⟩
     ·rw[hl2.out]
     ·rw[hi2.out]
     ·rw[hl2.out];go_num
     ·rw[hl2.out];omega
     ·rw[hl2.out];exact q1
     ·simp[intOf];omega
    ·have hmb:(Int.tmod x 3==0)=false:=by simpa using hm
     replace hm:=ζ hm;go_upto_region 11 with(go_at_call 5;refine(hpb.out _).mono ?_;rintro r Wp ⟨rfl,hWp⟩;replace hWp:=hWp.symm;subst hWp)
     refine wp_world (fun V=>At V wr.heap.size #[.int .u8 3,.int .i64 1,.int .i64 (b:Int),.int .i64 2,.int .i64 0]∧Hz (LOwn V W0.heap.size (.slice la L.length lc) L)∧Hz (Below W0.heap.size W0 V)) ⟨At.new wr _ _,ζ (lown_alloc hown.out _),ζ (hB.out.alloc hB.out.size _)⟩ ?_;rintro V ⟨aV,hoV,hBV⟩;have f0:V.cell? ⟨wr.heap.size,0,none⟩=some (.int .u8 3):=aV.2.1 0;have f1:V.cell? ⟨wr.heap.size,1,none⟩=some (.int .i64 1):=aV.2.1 1;have f2:V.cell? ⟨wr.heap.size,2,none⟩=some (.int .i64 (b:Int)):=aV.2.1 2;have f3:V.cell? ⟨wr.heap.size,3,none⟩=some (.int .i64 2):=aV.2.1 3;have f4:V.cell? ⟨wr.heap.size,4,none⟩=some (.int .i64 0):=aV.2.1 4;have lV:=aV.1;clear aV hown hB e7 l7;generalize wr.heap.size=kV at*;have ho3:=ζ (lown_alloc hoV.out (.cells #[.int .u8 3,.int .i64 1,.int .i64 (b:Int),.int .i64 2,.int .i64 0] 29));have hB3:=ζ (hBV.out.alloc hBV.out.size (.cells #[.int .u8 3,.int .i64 1,.int .i64 (b:Int),.int .i64 2,.int .i64 0] 29))
     have hlk:=ζ (fun q r=>(World.ownsRow.lt ho3.out q r).1);have hbs:=hBV.out.size;have hll:L.length≤2000000:=by omega
     go_wp2_with(at_builtin;refine wpList_append_insS rfl (.tmp 49) (.tmp 51) rfl W0.heap.size (.slice la L.length lc) L ⟨3,1,(b:Int),2,0⟩ rfl ho3.out V.heap.size rfl (At.new V _ _) hll (by simp;omega) ?_);intro g9 cap w9 q1 q2;have hB4:=ζ (hB3.out.trans (Below.of_grown q2 (by simp;omega) (fun q r=>hlk.out q r)));replace q1:=ζ q1;clear q2 hoV hBV ho3 hB3 hlk f0 f1 f2 f3 f4 lV;have hL2:=ζ (sti_snoc hL.out (x:=⟨3,1,(b:Int),2,0⟩) (.inr ⟨b,hb8,rfl⟩));have hi2:Hz (insN (L++[⟨3,1,(b:Int),2,0⟩])=insN L):=ζ (by rw[insN_snoc];simp);have hl2:Hz ((L++[(⟨3,1,(b:Int),2,0⟩:Ins)]).length=L.length+1):=ζ (by simp);go_wp2_with fail;refine⟨⟨L++[⟨3,1,(b:Int),2,0⟩],some ⟨g9,0,none⟩,cap,?_,?_,?_,?_,hL2,?_,hB4⟩,?_⟩
     ·rw[hl2.out]
     ·rw[hi2.out]
     ·rw[hl2.out];go_num
     ·rw[hl2.out];omega
     ·rw[hl2.out];exact q1
     ·simp[intOf];omega
   |false=>
    clear hgt hR hRb hPk;generalize wr=W1 at*;obtain⟨u,hu⟩:∃u:Nat,insN L=(u:Int):=⟨(insN L).toNat,by have:=(Bd.insN_in L).1;omega⟩;have hu30:u≤L.length:=by have:=(Bd.insN_in L).2;omega
    rw[hu];replace hu:=ζ hu;have hn5:n≤5:=by omega
    go_upto_region 13 with fail;obtain⟨kN,hkN⟩:∃kN:Nat,kN=L.length+1:=⟨_,rfl⟩;rw[show (L.length:Int)+1=(kN:Int)by omega];replace hkN:=ζ hkN;go_upto_region 16 with(go_at_call 5;refine(hPn.out _).mono ?_;rintro r Wp ⟨rfl,hWp⟩;replace hWp:=hWp.symm;subst hWp);clear hPn;go_loopw [12,13] (fun v x wr=>∃(M:List Ins) (ma:Option Addr) (mc:Nat),v=.slice ma M.length mc∧x=.int .i64 M.length∧M.length≤n∧Hz (M=List.replicate M.length cll)∧Hz (LOwn wr W1.heap.size (.slice ma M.length mc) M)∧Hz (Below W1.heap.size W1 wr)) (fun _ x _=>n - (intOf x).toNat)
    case atStart=>exact⟨[],none,0,rfl,rfl,Nat.zero_le _,ζ rfl,ζ (LOwn.nil _ _),ζ (Below.refl _ _)⟩
    case round=>
     obtain⟨M,ma,mc,rfl,rfl,hj,hMe,hM,hBM⟩:=hrel;by_cases hjn:M.length<n
     ·have ilt:(M.length:Int)<(n:Int):=by omega
      have ho3:=ζ (lown_alloc hM.out (.cells #[.int .u8 31,.int .i64 0,.int .i64 0,.int .i64 0,.int .i64 1] 29));have hB3:=ζ (hBM.out.alloc hBM.out.size (.cells #[.int .u8 31,.int .i64 0,.int .i64 0,.int .i64 0,.int .i64 1] 29));have hlk:=ζ (fun q r=>(World.ownsRow.lt ho3.out q r).1);have hbs:=hBM.out.size;have hll:M.length≤2000000:=by omega
      go_wp2_with(at_builtin;refine wpList_append_insS rfl (.tmp 64) (.tmp 66) rfl W1.heap.size (.slice ma M.length mc) M cll rfl ho3.out wr.heap.size rfl (At.new wr _ _) hll (by simp;omega) ?_);intro g9 cap w9 q1 q2;have hB4:=ζ (hB3.out.trans (Below.of_grown q2 (by simp;omega) (fun q r=>hlk.out q r)));replace q1:=ζ q1;clear q2 hM hBM ho3 hB3 hlk;have hl2:Hz ((M++[cll]).length=M.length+1):=ζ (by simp);have he2:Hz (M++[cll]=List.replicate (M++[cll]).length cll):=ζ (by rw[hl2.out,List.replicate_succ',←hMe.out]);go_wp2_with fail;refine⟨⟨M++[cll],some ⟨g9,0,none⟩,cap,?_,?_,?_,he2,?_,hB4⟩,?_⟩
      ·rw[hl2.out]
      ·rw[hl2.out];go_num
      ·rw[hl2.out];omega
      ·rw[hl2.out];exact q1
      ·simp[intOf];omega
     ·have ilt:¬(M.length:Int)<(n:Int):=by omega
      go_upto_region 19 with fail;have ho3:=ζ (lown_alloc hM.out (.cells #[.int .u8 27,.int .i64 0,.int .i64 0,.int .i64 0,.int .i64 0] 29));have hB3:=ζ (hBM.out.alloc hBM.out.size (.cells #[.int .u8 27,.int .i64 0,.int .i64 0,.int .i64 0,.int .i64 0] 29));have hlk:=ζ (fun q r=>(World.ownsRow.lt ho3.out q r).1);have hbs:=hBM.out.size;have hll:M.length≤2000000:=by omega
      go_wp2_with(at_builtin;refine wpList_append_insS rfl (.tmp 68) (.tmp 70) rfl W1.heap.size (.slice ma M.length mc) M hlt rfl ho3.out wr.heap.size rfl (At.new wr _ _) hll (by simp;omega) ?_);intro g9 cap w9 q1 q2;have hB4:=ζ (hB3.out.trans (Below.of_grown q2 (by simp;omega) (fun q r=>hlk.out q r)));replace q1:=ζ q1;clear q2 hM hBM ho3 hB3 hlk;go_upto_region 20 with fail
      have hln:M.length=n:=by omega
      have hMe2:Hz (M++[hlt]=mnL n):=ζ (by unfold mnL;rw[←hln,←hMe.out]);rw[hln];rw[hMe2.out,hln]at q1;clear hMe2 hMe hjn ilt hj hln hll hbs;generalize w9=W4 at*;have b4:=ζ (hB.out.trans (hB4.out.mono hB.out.size));have ho4:=ζ (lown_alloc (lown_bl hown.out hB4.out) (.cells #[.int .u8 32,.int .i64 0,.int .i64 0,.int .i64 0,.int .i64 0] 29));have hM4:=ζ (lown_alloc q1.out (.cells #[.int .u8 32,.int .i64 0,.int .i64 0,.int .i64 0,.int .i64 0] 29));have hB5:=ζ (b4.out.alloc b4.out.size (.cells #[.int .u8 32,.int .i64 0,.int .i64 0,.int .i64 0,.int .i64 0] 29));have hlk:=ζ (fun q r=>(World.ownsRow.lt ho4.out q r).1);have hne:=ζ (show ∀h,(Value.slice (some ⟨g9,0,none⟩) (n+1) cap).ownBlock=some h→(Value.slice la L.length lc).ownBlock≠some h from fun h e1 e2=>by have y1:=(World.ownsRow.lt q1.out h e1).1;have y2:=(own_block hown.out h e2).2;omega);have hbs:=b4.out.size;have hll:L.length≤2000000:=by omega
      clear hown hB hB4 q1 b4;go_upto_region 21 with(at_builtin;refine wpList_append_insS rfl (.tmp 74) (.tmp 76) rfl W0.heap.size (.slice la L.length lc) L rti rfl ho4.out W4.heap.size rfl (At.new W4 _ _) hll (by simp;omega) ?_;intro h9 cap9 W5 q1 q2;have hB6:=ζ (hB5.out.trans (Below.of_grown q2 (by simp;omega) (fun q r=>hlk.out q r)));have hM5:=ζ (own_grown hM4.out q2 hne.out);replace q1:=ζ q1;clear q2 hM4 ho4 hB5 hlk hne)
      have bW5:=ζ (b0.out.trans (hB6.out.mono b0.out.size));refine wp_world (fun V=>StIn L n (W5.heap.size+1+1) W5.heap.size (W5.heap.size+1) V∧Hz (Bl w V)) ?_ ?_
      ·have h1:=st_made (mc:=cap) (cc:=cap9) (n:=n) (L:=L) (ht.out.below bW5.out ht.out.size) (lown_lin2 (mn_len n) hM5.out) (lown_lin2 (cd_len L) q1.out) 32 36 40;exact⟨h1.1,ζ (Bl.trans bW5.out h1.2)⟩
      rintro V ⟨hS,bV⟩;clear hB6 hM5 q1 bW5 hll hbs b0 ht;generalize W5.heap.size+1+1=kI at*;generalize W5.heap.size+1=kg at*;generalize W5.heap.size=kc at*;replace hS:=ζ hS;have hGt:=ζ (fun V (q:StIn L n kI kc kg V)=>st_gate hL.out hl hn5 q);rw[hu.out,show(L.length:Int)+1=(kN:Int)by have:=hkN.out;omega]at hGt;obtain⟨sI,hsI⟩:∃sI,n*(L.length+2)=sI:=⟨_,rfl⟩;obtain⟨cc,hcc⟩:∃cc:Int,(if n=0 then 0 else 1)=cc:=⟨_,rfl⟩;obtain⟨nu,hnu⟩:∃nu:Nat,n*u=nu:=⟨_,rfl⟩;have hnui:(n:Int)*(u:Int)=(nu:Int):=by rw[←hnu,Int.natCast_mul]
      rw[hsI,hcc,hnui]at hGt;have c0:V.cell? ⟨kI,0,none⟩=some (.slice none 0 0):=hS.out.b.2.1 0;have c1:V.cell? ⟨kI,1,none⟩=some (.slice (some ⟨kc,0,none⟩) 2 2):=hS.out.b.2.1 1;have c2:V.cell? ⟨kI,2,none⟩=some (.slice (some ⟨kg,0,none⟩) 2 2):=hS.out.b.2.1 2;have c3:V.cell? ⟨kI,3,none⟩=some (.int .i64 1):=hS.out.b.2.1 3;have lI:=hS.out.b.1;go_upto_region 22 with(go_at_call 6;refine(hGt.out V hS.out).1.mono ?_;rintro r V1 ⟨rfl,b1⟩;replace b1:=ζ b1)
      refine wp_world (fun X=>Hz (StIn L n kI kc kg X)∧Hz (At X V1.heap.size #[.bool true,.int .u64 ((sI:Int)+1),.int .u64 cc,.int .u64 (nu:Int)])∧Hz (Bl w X)) ⟨ζ (hS.out.bl (b1.out.alloc _)),ζ (At.new V1 _ _),ζ (Bl.trans bV.out (b1.out.alloc _))⟩ ?_;clear c0 c1 c2 c3 lI;clear hS bV b1;rintro X1 ⟨hS1,d15,bX1⟩;generalize V1.heap.size=k15 at*;have c0:X1.cell? ⟨kI,0,none⟩=some (.slice none 0 0):=hS1.out.b.2.1 0;have c1:X1.cell? ⟨kI,1,none⟩=some (.slice (some ⟨kc,0,none⟩) 2 2):=hS1.out.b.2.1 1;have c2:X1.cell? ⟨kI,2,none⟩=some (.slice (some ⟨kg,0,none⟩) 2 2):=hS1.out.b.2.1 2;have c3:X1.cell? ⟨kI,3,none⟩=some (.int .i64 1):=hS1.out.b.2.1 3;have lI:=hS1.out.b.1;go_upto_region 23 with(go_at_call 6;refine(hGt.out X1 hS1.out).2.mono ?_;rintro r V2 ⟨rfl,b2⟩;replace b2:=ζ b2)
      refine wp_world (fun X=>Hz (StIn L n kI kc kg X)∧Hz (At X k15 #[.bool true,.int .u64 ((sI:Int)+1),.int .u64 cc,.int .u64 (nu:Int)])∧Hz (At X V2.heap.size #[.bool true,.int .u64 (kN:Int),.int .u64 0,.int .u64 (u:Int)])∧Hz (Bl w X)) ⟨ζ (hS1.out.bl (b2.out.alloc _)),ζ (Bl.at_ (b2.out.alloc _) d15.out),ζ (At.new V2 _ _),ζ (Bl.trans bX1.out (b2.out.alloc _))⟩ ?_;clear c0 c1 c2 c3 lI;clear hS1 bX1 b2 d15 hGt;rintro X2 ⟨hS2,d15,d16,bX2⟩;generalize V2.heap.size=k16 at*;have hm1:(n:Int)*((kN:Int)+1)=(sI:Int):=by rw[←hsI,Int.natCast_mul];congr 1;have:=hkN.out;omega
      have hs5:sI≤5*32:=by rw[←hsI];exact Nat.mul_le_mul hn5 (by omega)
      have hn150:nu≤5*30:=by rw[←hnu];exact Nat.mul_le_mul hn5 (by omega)
      have hm2:IntKind.u64.wrap ((n:Int)*((kN:Int)+1))=(sI:Int):=by rw[hm1,IntKind.wrap_u64];omega
      have hm3:IntKind.u64.wrap ((n:Int)*(u:Int))=(nu:Int):=by rw[hnui,IntKind.wrap_u64];omega
      have hkn1:kN≤31:=by have:=hkN.out;omega
      replace hnu:=ζ hnu;replace hsI:=ζ hsI;go_upto_region 24 with fail
      go_upto_if 100 with fail;go_cut [] (fun wx=>Hz (StIn L n kI kc kg wx)∧Hz (At wx k15 #[.bool true,.int .u64 ((sI:Int)+1),.int .u64 cc,.int .u64 (nu:Int)])∧Hz (At wx k16 #[.bool true,.int .u64 (kN:Int),.int .u64 0,.int .u64 (u:Int)])∧Hz (At wx X2.heap.size #[.bool true,.int .u64 ((sI:Int)+1),.int .u64 cc,.int .u64 (nu:Int)])∧Hz (Bl w wx))
      case first=>
       by_cases h0:0<n
       ·have h0i:(0:Int)<(n:Int):=by omega
        obtain rfl:cc=1:=by rw[←hcc,if_neg (by omega)]
        go_wp2_with fail;go_meet;exact⟨ζ (hS2.out.bl ((Bl.refl X2).alloc _)),ζ (Bl.at_ ((Bl.refl X2).alloc _) d15.out),ζ (Bl.at_ ((Bl.refl X2).alloc _) d16.out),ζ (At.new X2 _ _),ζ (Bl.trans bX2.out ((Bl.refl X2).alloc _))⟩
       ·have h0i:¬(0:Int)<(n:Int):=by omega
        obtain rfl:cc=0:=by rw[←hcc,if_pos (by omega)]
        go_wp2_with fail;go_meet;exact⟨ζ (hS2.out.bl ((Bl.refl X2).alloc _)),ζ (Bl.at_ ((Bl.refl X2).alloc _) d15.out),ζ (Bl.at_ ((Bl.refl X2).alloc _) d16.out),ζ (At.new X2 _ _),ζ (Bl.trans bX2.out ((Bl.refl X2).alloc _))⟩
      case rest=>
       clear hS2 d15 d16 bX2;obtain⟨hS3,d15,d16,d17,bX3⟩:=hcut;generalize X2.heap.size=k17 at*;clear hcc hm1 hm2 hm3 hnui;generalize wc=X3 at*;have hBg:=ζ (fun V ia ic (q:StIn L n kI kc kg V) (hI:InS V ia (List.replicate (n*L.length) 0) ic)=>st_begun hL.out hl hn5 q ia ic hI);obtain⟨u1,u2,r1,r2,r3⟩:=st_goes hL.out hl hn5;obtain⟨nl,hnl⟩:∃nl,n*L.length=nl:=⟨_,rfl⟩;have hnli:(n:Int)*(L.length:Int)=(nl:Int):=by rw[←hnl,Int.natCast_mul]
       have hl150:nl≤5*30:=by rw[←hnl];exact Nat.mul_le_mul hn5 hl
       rw[hnl,hsI.out]at r1 r3;rw[show ((sI+1:Nat):Int)=(sI:Int)+1 from rfl]at r3;rw[hnl]at hBg;generalize start (stP L n) 0 [] (List.replicate nl 0)=s0 at*;replace r1:=ζ r1;replace r2:=ζ r2;replace r3:=ζ r3;have hnlw:wrap64 ((n:Int)*(L.length:Int))=(nl:Int):=by rw[hnli];unfold wrap64;omega
       have hnlv:IntKind.i64.wrap (nl:Int)=(nl:Int):=by rw[IntKind.wrap_i64];omega
       have hmk:=make_u64n nl (by omega);replace hnl:=ζ hnl;have hne1:=fun W=>cost_ne true ((sI:Int)+1) cc nu W
       have hne2:=fun W=>cost_ne true (kN:Int) 0 u W
       go_upto_region 26 with fail;have KS:=ζ (show ∀Y,Bl X3 Y→Y.cell? ⟨kI,0,none⟩=some (.slice none 0 0)∧Y.cell? ⟨kI,1,none⟩=some (.slice (some ⟨kc,0,none⟩) 2 2)∧Y.cell? ⟨kI,2,none⟩=some (.slice (some ⟨kg,0,none⟩) 2 2)∧Y.cell? ⟨kI,3,none⟩=some (.int .i64 1)from fun Y q=>by
        have h:=(hS3.out.bl q).b.2.1;exact⟨h 0,h 1,h 2,h 3⟩)
       go_region_held3 (fun Y=>Y.cell? ⟨kI,0,none⟩=some (.slice none 0 0)∧Y.cell? ⟨kI,1,none⟩=some (.slice (some ⟨kc,0,none⟩) 2 2)∧Y.cell? ⟨kI,2,none⟩=some (.slice (some ⟨kg,0,none⟩) 2 2)∧Y.cell? ⟨kI,3,none⟩=some (.int .i64 1)) ((refine KS.out _ ?_;(repeat(first|assumption|with_reducible exact Bl.refl _|with_reducible refine Bl.alloc ?_ _|with_reducible refine Bl.drew ?_)))) (first|(go_at_call 7;refine(hBg.out _ _ _ (hS3.out.bl (by(repeat(first|assumption|with_reducible exact Bl.refl _|with_reducible refine Bl.alloc ?_ _|with_reducible refine Bl.drew ?_)))) (by first|exact ins_zero _ _ _|exact ins_zero' _ _ _)).mono ?_;rintro r V5 ⟨a,Ba,rfl,hM,hBa,ba⟩;replace hM:=ζ hM;have gxa:=(Bl.trans (show Bl X3 _ from(by(repeat(first|assumption|with_reducible exact Bl.refl _|with_reducible refine Bl.alloc ?_ _|with_reducible refine Bl.drew ?_)))) ba);have hBka:=ζ (show X3.heap.size≤Ba from Nat.le_trans (show Bl X3 _ from(by(repeat(first|assumption|with_reducible exact Bl.refl _|with_reducible refine Bl.alloc ?_ _|with_reducible refine Bl.drew ?_)))).size hBa);clear ba hBa))
       replace gxa:=ζ gxa;replace KS:=ζ KS.out;clear KS;have hS5:=ζ (hS3.out.bl gxa.out);have e15:=ζ (Bl.at_ gxa.out d15.out);have e16:=ζ (Bl.at_ gxa.out d16.out);have e17:=ζ (Bl.at_ gxa.out d17.out);have p0:V5.cell? ⟨k15,0,none⟩=some (.bool true):=e15.out.2.1 0;have p1:V5.cell? ⟨k15,1,none⟩=some (.int .u64 ((sI:Int)+1)):=e15.out.2.1 1;have p2:V5.cell? ⟨k15,2,none⟩=some (.int .u64 cc):=e15.out.2.1 2;have p3:V5.cell? ⟨k15,3,none⟩=some (.int .u64 (nu:Int)):=e15.out.2.1 3;have pl:=e15.out.1;have q0:V5.cell? ⟨k16,0,none⟩=some (.bool true):=e16.out.2.1 0;have q1:V5.cell? ⟨k16,1,none⟩=some (.int .u64 (kN:Int)):=e16.out.2.1 1;have q2:V5.cell? ⟨k16,2,none⟩=some (.int .u64 0):=e16.out.2.1 2;have q3:V5.cell? ⟨k16,3,none⟩=some (.int .u64 (u:Int)):=e16.out.2.1 3;have ql:=e16.out.1;have r_0:V5.cell? ⟨k17,0,none⟩=some (.bool true):=e17.out.2.1 0;have r_1:V5.cell? ⟨k17,1,none⟩=some (.int .u64 ((sI:Int)+1)):=e17.out.2.1 1
       have r_2:V5.cell? ⟨k17,2,none⟩=some (.int .u64 cc):=e17.out.2.1 2;have r_3:V5.cell? ⟨k17,3,none⟩=some (.int .u64 (nu:Int)):=e17.out.2.1 3;have r_l:=e17.out.1;go_upto_region 30 with(go_at_call 8;refine(r1.out _ _ _ _ hM.out).mono ?_;rintro r V6 ⟨rfl,hM6,b6⟩;replace hM6:=ζ hM6;replace b6:=ζ (b6.mono hBka.out))
       clear p0 p1 p2 p3 pl q0 q1 q2 q3 ql r_0 r_1 r_2 r_3 r_l hM hne1 hne2 hS5 e15 e16 e17;refine wp_world (fun X=>Hz (MIn Ba X a (stP L n) u1 [boxOb V6.heap.size #[.int .i64 4,.int .u64 u1.over.v,.int .i64 u1.over.f,.int .i64 u1.at_.gate,.int .i64 u1.at_.pc]])∧Hz (Below X3.heap.size X3 X)) ⟨ζ (hM6.out.new #[.int .i64 4,.int .u64 u1.over.v,.int .i64 u1.over.f,.int .i64 u1.at_.gate,.int .i64 u1.at_.pc] 50).1,ζ (Below.trans (show Below X3.heap.size X3 V5 from gxa.out) (b6.out.alloc (Nat.le_trans gxa.out.size b6.out.size) _))⟩ ?_;rintro X6 ⟨hM7,g6⟩;clear hM6 b6 gxa;generalize V6.heap.size=k19 at*;go_upto_region 31 with(go_at_call 8;refine(r2.out _ _ _ _ hM7.out).mono ?_;rintro r V7 ⟨rfl,hM8,b7⟩;have d19:=ζ (show At V7 k19 #[.int .i64 4,.int .u64 u1.over.v,.int .i64 u1.over.f,.int .i64 u1.at_.gate,.int .i64 u1.at_.pc]from hM8.there (boxOb k19 #[.int .i64 4,.int .u64 u1.over.v,.int .i64 u1.over.f,.int .i64 u1.at_.gate,.int .i64 u1.at_.pc]) (by simp));clear hM8;replace b7:=ζ (b7.mono hBka.out))
       refine wp_world (fun X=>Hz (At X k19 #[.int .i64 4,.int .u64 u1.over.v,.int .i64 u1.over.f,.int .i64 u1.at_.gate,.int .i64 u1.at_.pc])∧Hz (At X V7.heap.size #[.int .i64 4,.int .u64 u1.over.v,.int .i64 u1.over.f,.int .i64 u1.at_.gate,.int .i64 u1.at_.pc])∧Hz (Below X3.heap.size X3 X)) ⟨ζ (d19.out.alloc _),ζ (At.new V7 _ _),ζ (Below.alloc (g6.out.trans b7.out) (Nat.le_trans g6.out.size b7.out.size) _)⟩ ?_;clear d19 hM7 b7 g6;rintro X7 ⟨d19,d20,g7⟩;generalize V7.heap.size=k20 at*;have hS7:=ζ (hS3.out.bl g7.out);have bX7:=ζ (Bl.trans bX3.out g7.out);replace d17:=ζ (Bl.at_ g7.out d17.out);clear hS3 g7 bX3 d15 d16 hBka;have KS:=ζ (show ∀Y,Bl X7 Y→Y.cell? ⟨kI,0,none⟩=some (.slice none 0 0)∧Y.cell? ⟨kI,1,none⟩=some (.slice (some ⟨kc,0,none⟩) 2 2)∧Y.cell? ⟨kI,2,none⟩=some (.slice (some ⟨kg,0,none⟩) 2 2)∧Y.cell? ⟨kI,3,none⟩=some (.int .i64 1)from fun Y q=>by
        have h:=(hS7.out.bl q).b.2.1;exact⟨h 0,h 1,h 2,h 3⟩)
       go_region_held3 (fun Y=>Y.cell? ⟨kI,0,none⟩=some (.slice none 0 0)∧Y.cell? ⟨kI,1,none⟩=some (.slice (some ⟨kc,0,none⟩) 2 2)∧Y.cell? ⟨kI,2,none⟩=some (.slice (some ⟨kg,0,none⟩) 2 2)∧Y.cell? ⟨kI,3,none⟩=some (.int .i64 1)) ((refine KS.out _ ?_;(repeat(first|assumption|with_reducible exact Bl.refl _|with_reducible refine Bl.alloc ?_ _|with_reducible refine Bl.drew ?_)))) (first|(go_at_call 7;refine(hBg.out _ _ _ (hS7.out.bl (by(repeat(first|assumption|with_reducible exact Bl.refl _|with_reducible refine Bl.alloc ?_ _|with_reducible refine Bl.drew ?_)))) (by first|exact ins_zero _ _ _|exact ins_zero' _ _ _)).mono ?_;rintro r V8 ⟨yy,Byy,rfl,hM,hByy,byy⟩;replace hM:=ζ hM;have gxyy:=(Bl.trans (show Bl X7 _ from(by(repeat(first|assumption|with_reducible exact Bl.refl _|with_reducible refine Bl.alloc ?_ _|with_reducible refine Bl.drew ?_)))) byy);have hBkyy:=ζ (show X7.heap.size≤Byy from Nat.le_trans (show Bl X7 _ from(by(repeat(first|assumption|with_reducible exact Bl.refl _|with_reducible refine Bl.alloc ?_ _|with_reducible refine Bl.drew ?_)))).size hByy);clear byy hByy))
       replace gxyy:=ζ gxyy;clear KS hBg;replace d17:=ζ (Bl.at_ gxyy.out d17.out);have r_0:V8.cell? ⟨k17,0,none⟩=some (.bool true):=d17.out.2.1 0;have r_1:V8.cell? ⟨k17,1,none⟩=some (.int .u64 ((sI:Int)+1)):=d17.out.2.1 1;have r_2:V8.cell? ⟨k17,2,none⟩=some (.int .u64 cc):=d17.out.2.1 2;have r_3:V8.cell? ⟨k17,3,none⟩=some (.int .u64 (nu:Int)):=d17.out.2.1 3;have r_l:=d17.out.1;go_upto_region 33 with(go_at_call 8;refine(r3.out _ _ _ _ hM.out).mono ?_;rintro r V9 ⟨rfl,hM9,b9⟩;clear hM9;replace b9:=ζ (b9.mono hBkyy.out))
       clear hM r_0 r_1 r_2 r_3 r_l d17 hS7;have gx9:=ζ (show Bl X7 V9 from Below.trans (show Below X7.heap.size X7 V8 from gxyy.out) b9.out);refine wp_world (fun X=>Hz (At X k19 #[.int .i64 4,.int .u64 u1.over.v,.int .i64 u1.over.f,.int .i64 u1.at_.gate,.int .i64 u1.at_.pc])∧Hz (At X k20 #[.int .i64 4,.int .u64 u1.over.v,.int .i64 u1.over.f,.int .i64 u1.at_.gate,.int .i64 u1.at_.pc])∧Hz (At X V9.heap.size #[.int .i64 1,.int .u64 u2.over.v,.int .i64 u2.over.f,.int .i64 u2.at_.gate,.int .i64 u2.at_.pc])∧Hz (Bl w X)) ⟨ζ (Bl.at_ (gx9.out.alloc _) d19.out),ζ (Bl.at_ (gx9.out.alloc _) d20.out),ζ (At.new V9 _ _),ζ (Bl.trans bX7.out (gx9.out.alloc _))⟩ ?_;clear d19 d20 gx9 gxyy b9 bX7 hBkyy;rintro X9 ⟨d19,d20,d22,bX9⟩;generalize V9.heap.size=k22 at*;have y0:X9.cell? ⟨k19,0,none⟩=some (.int .i64 4):=d19.out.2.1 0;have y1:=d19.out.1;have y2:X9.cell? ⟨k20,0,none⟩=some (.int .i64 4):=d20.out.2.1 0;have y3:=d20.out.1
       have y4:X9.cell? ⟨k22,0,none⟩=some (.int .i64 1):=d22.out.2.1 0;have y5:=d22.out.1;go_wp2_with fail;go_ret;exact⟨rfl,bX9.out⟩
end C
end Go.Proofs.YtkhbiaaangnkdaaGreatDoor
