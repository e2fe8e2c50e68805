import Derived.Test.YthlpjlnehonpdaaGreatDoorK46
import Derived.Test.YthlpjlnehonpdaaGreatDoorK42
namespace Go.Proofs.YthlpjlnehonpdaaGreatDoor
set_option maxRecDepth 100000
set_option maxHeartbeats 40000000
namespace C
open Go.RowKit
open T (Sep Ob Kp Mf TgIn boxOb Fm Tc Ed Vl Cp Bx tgOb mRow mRow_idx mRow_tail mRow_at updV flt Vl.row_len regRow regRow_at regRow_len)
def snR (s:Ms):List Value:=.int .i64 s.at_.gate::.int .i64 s.at_.pc::.int .i64 s.st.length::regRow s.at_.regs 16
theorem snR_len (s:Ms):(snR s).length=115:=by simp[snR,regRow_len]
theorem snR_one (s:Ms):(snR s).toArray.all (fun x=>x.oneCell')=true:=by
 rw[Array.all_eq_true_iff_forall_mem];intro u hu;have hu':u∈snR s:=by simpa using hu
 unfold snR at hu';rcases List.mem_cons.1 hu' with rfl|hu'
 ·rfl
 rcases List.mem_cons.1 hu' with rfl|hu'
 ·rfl
 rcases List.mem_cons.1 hu' with rfl|hu'
 ·rfl
 ·exact oneCell_reg _ _ u hu'
theorem build_sn (g p n:Int)(r:Nat→Vl)(W:World):(Instr.build 103 #[(0,.int .i64 g),(1,.int .i64 p),(2,.int .i64 n),(3,.agg (regRow r 16).toArray)]).run Tryz.prog W=.ok (.agg (List.toArray (.int .i64 g::.int .i64 p::.int .i64 n::regRow r 16))) W:=by kernel_rfl
theorem yields_sn {ops:Array Oper}{S:World→Prop}{op:Oper}{a:Act}(hw:Region.wanted op (yielded ops a.tmps)=true)(x0 x1 x2 x3:Operand)(ho:op.op=.build 103 #[(0,x0),(1,x1),(2,x2),(3,x3)])
 (s:Ms)(rr r7:List Value)(hr:snR s=rr)(h7:regRow s.at_.regs 16=r7)(h0:a.eval x0=.int .i64 s.at_.gate)(h1:a.eval x1=.int .i64 s.at_.pc)(h2:a.eval x2=.int .i64 s.st.length)(h3:a.eval x3=.agg r7.toArray):
 YieldsIf Tryz.prog ops S op (.agg rr.toArray) a:=
 .inl ⟨hw,fun w _=>by
  subst hr h7;unfold execOp;simp only[ho,List.map_toArray,List.map_cons,List.map_nil,h0,h1,h2,h3,build_sn,Sem.run_bind,Sem.run_pure,Result.andThen_ok]
  rfl⟩
def zS:Ms:=⟨⟨0,0,fun _=>zV⟩,[],[],[],[],⟨0,0,0⟩,fun _=>0,fun _=>none⟩
theorem zero_sn:Tryz.zeroCells103.toList=snR zS:=by kernel_rfl
theorem MIn.regsAt {B:Nat}{W:World}{a:Nat}{P:PImg}{s:Ms}{l:List Ob}(h:MIn B W a P s l):W.rangeAt a 7 (regRow s.at_.regs 16):=fun j v q=>by
 have hj:j<112:=by have:=(List.getElem?_eq_some_iff.1 q).1;rw[regRow_len]at this;omega
 have e:s.at_.row[j+2]?=some v:=by
  rw[fmRow_idx,if_neg (by omega),if_neg (by omega),if_pos (by omega),Nat.add_sub_cancel,←regRow_at s.at_.regs 16 j (by omega)];exact q
 have:=h.handAt (j+2) v e
 rwa [show 5+(j+2)=7+j by omega]at this
theorem snap_any (B:Nat)(a:Nat)(P:PImg)(s:Ms)(l:List Ob)(w:World)(h:MIn B w a P s l):
 Calls Tryz.prog 30 #[.pointer (some ⟨a,0,none⟩)] w fun x w'=>x=.returned (.agg (snR s).toArray)∧Bl w w':=by
 have hrl0:=snR_len s;have hr10:=snR_one s;generalize hrr:snR s=rr at*;generalize hr77:regRow s.at_.regs 16=r7;have hr7:Hz ((Tryz.prog.info? 80).map (·.size)=some r7.length):=ζ (by rw[←hr77,regRow_len];kernel_rfl);have hrl:=ζ hrl0;have hr1:=ζ hr10;clear hrl0 hr10;have hlt:=h.alt;have gV:Bl w (w.alloc (.cells Tryz.zeroCells103 103)):=(Bl.refl w).alloc _;obtain⟨_,ta,tk,c119⟩:=h.depAt;have KS:Hz (∀X,Bl w X→(X.cell? ⟨a,5,none⟩=some (.int .i64 s.at_.gate)∧X.cell? ⟨a,6,none⟩=some (.int .i64 s.at_.pc)∧X.cell? ⟨a,119,none⟩=some (.slice ta s.st.length tk))∧X.rangeAt a 7 r7):=ζ (fun X q=>by
  obtain⟨k1,k2,_⟩:=(h.gr q).cell;exact⟨⟨k1,k2,(q.cell (p:=⟨a,119,none⟩) hlt).trans c119⟩,by rw[←hr77];exact(h.gr q).regsAt⟩)
 replace hrr:=ζ hrr;replace hr77:=ζ hr77;have hR0:At (w.alloc (.cells Tryz.zeroCells103 103)) w.heap.size (snR zS).toArray:=by
  rw[←zero_sn];exact At.new w _ _
 replace h:=ζ h;clear c119;go_enter Tryz.func30,Tryz.ntmps30;go_upto_region 3 with fail
 generalize w.alloc (.cells Tryz.zeroCells103 103)=V at*;have gD:Bl w V.drew:=gV.drew;have hR1:At V.drew w.heap.size (snR zS).toArray:=hR0.drew;have hth:Hz (V.drew.there w.heap.size 0 rr.toArray.size):=ζ (by rw[show rr.toArray.size=115 from hrl.out];exact At.there hR1 0 115 (by rw[snR_len];decide));have hA8:=ζ (At.setAll hR1 rr (by rw[hrl.out,snR_len])).range;have g9:=gD.sets w.heap.size (Nat.le_refl _) rr 0;have gD2:=g9;replace hR1:=ζ hR1;replace hR0:=ζ hR0;refine wp_region_held_drew (S:=(fun X=>(X.cell? ⟨a,5,none⟩=some (.int .i64 s.at_.gate)∧X.cell? ⟨a,6,none⟩=some (.int .i64 s.at_.pc)∧X.cell? ⟨a,119,none⟩=some (.slice ta s.st.length tk))∧X.rangeAt a 7 r7)) (by kernel_rfl) (KS.out _ gD) (fun hHeld=>?_);refine xz 0 rfl (h:=xz 1 rfl (h:=xz 2 rfl (h:=xz 3 rfl (h:=xz 4 rfl (h:=xz 5 rfl (h:=xz 6 rfl (h:=xz 7 rfl (h:=xz 8 rfl (h:=xz 9 rfl (h:=xz 10 rfl (h:=xz 11 rfl (h:=xz 12 rfl (h:=xz 13 rfl (h:=xz 14 rfl (h:=xz 15 rfl (h:=xz 16 rfl (h:=xz 17 rfl (h:=xz 18 rfl (h:=?_)))))))))))))))))))
 try simp only[xap]
 refine xtk 19 rfl (yieldsIf_load_mid (by rfl) _ _ rfl _ _ rfl _ _ (fun _ h=>h.2) Tryz.underlying80 rfl hr7.out) ?_;try simp only[xap]
 refine xtk 20 rfl (yields_sn (by rfl) _ _ _ _ rfl s rr r7 hrr.out hr77.out (by rfl) (by rfl) (by rfl) (by rfl)) ?_;try simp only[xap]
 refine xrd 21 rfl (fun K hK=>?_);rw[if_pos (by rfl)];refine wp_store_mid _ _ _ rfl _ _ (List.toArray rr) rfl rfl (show World.there _ _ _ _ from hth.out) (by rw[List.size_toArray,hrl.out];kernel_rfl) hr1.out ?_;clear hHeld;refine hK.out _ _ (KS.out _ gD2) (fun hHeld=>?_);clear hK K;try simp only[Act.put]
 refine xdn ?_ _;clear hHeld;generalize World.setCells _ _ _ _=Y9 at*;have hrun:=run_loadVar_mid (P:=Tryz.prog) Y9 w.heap.size 0 103 rr _ hA8.out Tryz.underlying103 rfl (by rw[hrl.out];kernel_rfl);replace g9:=ζ g9;go_wp2_with fail;refine bodyPost_ret (v:=.agg rr.toArray) ?_ rfl ⟨rfl,g9.out⟩;exact results_cellE Tryz.results30 _ _ rfl hrun
open T (Sep Ob Kp Mf TgIn boxOb Fm Tc Ed Vl Cp Bx tgOb mRow updV flt Sl Rg rgB rgT slT dataT offT scT updT)
def SlOk (x:Sl):Prop:=x.cap=true→COk ⟨x.b,x.e,x.c,x.p,x.s⟩
theorem scT_in' {t:Nat→Option Cp}(ht:∀g c,t g=some c→COk c)(a:Nat){v:Vl}(hv:v.g=true→COk v.c):∀g c,scT t a v g=some c→COk c:=fun g c h=>by
 unfold scT at h;split at h
 ·split at h
  ·rename_i hg
   unfold updT at h;split at h
   ·injection h with h;subst h;exact hv hg
   ·exact off_in ht _ _ g c h
  ·exact off_in ht _ _ g c h
 ·exact ht g c h
theorem slT_in {t:Nat→Option Cp}(ht:∀g c,t g=some c→COk c)(base:Nat){L:List Sl}(hL:∀x∈L,SlOk x):∀n g c,slT t base L n g=some c→COk c
 |0=>ht
 |n+1=>by
  unfold slT;refine scT_in' (slT_in ht base hL n) _ (fun hg=>?_)
  cases hx:L[n]? with
  |none=>rw[hx]at hg;cases hg
  |some x=>
   rw[hx]at hg;have h1:=hL x (List.mem_of_getElem? hx);simp only[Option.map_some,Option.getD_some]at hg ⊢;unfold T.Sl.v at hg ⊢
   split at hg
   ·rename_i hc
    rw[if_pos hc];exact h1 hc
   ·cases hg
theorem rgT_in {L:List Rg}(hL:∀r∈L,∀x∈r.slots,SlOk x):∀n g c,rgT L n g=some c→COk c
 |0=>fun g c h=>by cases h
 |n+1=>by
  unfold rgT
  cases hx:L[n]? with
  |none=>exact rgT_in hL n
  |some r=>exact slT_in (off_in (rgT_in hL n) _ _) _ (hL r (List.mem_of_getElem? hx)) _
theorem slots_mem:∀(L:List PSlot),slotsR L=true→∀k∈L,k.right=true
 |[],_=>fun k hk=>by cases hk
 |k::l,h=>by
  unfold slotsR at h;rw[Bool.and_eq_true]at h;intro x hx;rcases List.mem_cons.1 hx with rfl|hx
  ·exact h.1
  ·exact slots_mem l h.2 x hx
theorem regs_mem:∀(L:List PReg) (f:Int),regsR L f=0→∀r∈L,slotsR r.slots=true
 |[],_,_=>fun r hr=>by cases hr
 |k::l,f,h=>by
  unfold regsR at h
  split at h
  ·split at h
   ·rename_i q
    intro r hr;rcases List.mem_cons.1 hr with rfl|hr
    ·exact q
    ·exact regs_mem l _ h r hr
   ·omega
  ·omega
theorem sl_ok {k:PSlot}(h:k.right=true)(hr:k.Rng):SlOk (slOf k):=fun hc=>by
 have hc':k.t.cap=true:=hc;unfold PSlot.right at h;rw[Bool.and_eq_true,Bool.and_eq_true]at h;have h1:=h.1.2;unfold PTyp.right at h1;rw[if_pos hc',Bool.and_eq_true]at h1;have h2:=dataB_s h1.1;obtain⟨⟨r1,r2,_,_,r5,_⟩,r7⟩:=hr;refine⟨r1,r2,?_,r5,h2⟩;show W64 ((k.c.toNat:Nat):Int);rw[Int.toNat_of_nonneg r7.1];exact r7
theorem regs_right {m:PImg}(h:m.right=0):regsR m.regs 0=0:=by
 unfold PImg.right at h
 split at h
 ·split at h
  ·assumption
  ·rename_i q;exact absurd h q
 ·omega
theorem ints_vok {A:List Nat}(hA:∀x∈A,x<18446744073709551616)(j:Nat):VOk (intsF A j):=by
 refine vok_nat ?_
 cases hx:A[j - 1]? with
 |none=>decide
 |some x=>exact hA x (List.mem_of_getElem? hx)
theorem start_ok {m:PImg}(h:m.right=0)(hr:m.Rng){g:Nat}(hg:g<m.gates.length){A I:List Nat}(hA:∀x∈A,x<18446744073709551616)(hI:∀x∈I,x<18446744073709551616)(hl:I.length≤2000000):Okm (bare m) 0 (start m g A I):=by
 have hP:POk (bare m):=pok_of m h hr;refine⟨ent_ok hP hg (ints_vok hA) _,fun f hf=>(by cases hf),by have:=hP.dp;show((0:Nat):Int)≤(bare m).depth;omega,⟨?_,fun x hx=>?_⟩,Nat.le_refl _,Nat.le_refl _,?_⟩
 ·show(I.map fun x:Nat=>(x:Int)).length≤_;rw[List.length_map];omega
 ·obtain⟨y,hy,rfl⟩:=List.mem_map.1 hx;have:=hI y hy;exact⟨by omega,by omega⟩
 ·refine rgT_in (fun r hr1 x hx=>?_) _;obtain⟨p,hp,rfl⟩:=List.mem_map.1 hr1;obtain⟨k,hk,rfl⟩:=List.mem_map.1 hx;exact sl_ok (slots_mem _ (regs_mem _ _ (regs_right h) p hp) k hk) ((hr.regs.2 p hp).2.2.2.2 k hk)
open T (Sep Ob Kp Mf TgIn boxOb Fm Tc Ed Vl Cp Bx tgOb mRow updV flt)
def ThG (n:Nat)(g:PGate):Prop:=0≤g.c∧g.c<n∧g.args.length≤7∧g.res.length≤7
def ThI (i:Ins):Prop:=0≤i.a∧i.a<16∧0≤i.b∧i.b<16∧0≤i.c∧i.c≤255
structure Th (m:PImg):Prop where
 gates:∀g∈m.gates,ThG m.comps.length g
 roots:∀c∈m.comps,∀r∈c.roots,0≤r.r∧r.r<16
 code:∀c∈m.comps,∀i∈c.code,ThI i
 ne:0<m.gates.length
theorem th_of (m:PImg)(h:m.right=0)(hr:m.Rng):Th m:=by
 have hP:POk (bare m):=pok_of m h hr;refine⟨fun g hg=>?_,fun c hc r hx=>?_,fun c hc i hi=>?_,?_⟩
 ·obtain⟨k,hk,rfl⟩:=List.getElem_of_mem hg;obtain⟨h1,h2,_,_,h3,h4⟩:=hP.gates k hk;exact⟨h1,h2,h3,h4⟩
 ·obtain⟨k,hk,rfl⟩:=List.getElem_of_mem hc;have:=(hP.roots k).2 r (by rw[rootsOf_at (bare m) k hk];exact hx);exact⟨by omega,this.2.1⟩
 ·obtain⟨k,hk,rfl⟩:=List.getElem_of_mem hc;have:=(hP.code k).2 i (by rw[codeOf_at (bare m) k hk];exact hi);exact⟨this.ra.1,this.ra.2,this.rb.1,this.rb.2,this.rc.1,by have:=this.rc.2;omega⟩
 ·unfold PImg.right at h
  split at h
  ·rename_i hc
   simp only[countsB,Bool.and_eq_true,decide_eq_true_eq]at hc;omega
  ·omega
end C
end Go.Proofs.YthlpjlnehonpdaaGreatDoor
