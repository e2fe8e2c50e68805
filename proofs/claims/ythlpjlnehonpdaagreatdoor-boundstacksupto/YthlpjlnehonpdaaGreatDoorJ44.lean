import Derived.Test.YthlpjlnehonpdaaGreatDoorJ43
import Derived.Test.YthlpjlnehonpdaaGreatDoorJ05
import Derived.BigFrame
namespace Go.Proofs.YthlpjlnehonpdaaGreatDoor
set_option maxRecDepth 100000
set_option maxHeartbeats 40000000
namespace C
open Go.RowKit
open T (Sep Ob Kp Mf TgIn boxOb Fm Tc Ed Vl Cp Bx tgOb mRow mRow_idx mRow_tail mRow_at updV flt Vl.row_len regRow regRow_at regRow_len)
def snR (s:Ms):List Value:=.int .i64 s.at_.gate::.int .i64 s.at_.pc::.int .i64 s.st.length::regRow s.at_.regs 16
theorem snR_len (s:Ms):(snR s).length=115:=by simp[snR,regRow_len]
theorem snR_one (s:Ms):(snR s).toArray.all (fun x=>x.oneCell')=true:=by
 rw[Array.all_eq_true_iff_forall_mem];intro u hu;have hu':u∈snR s:=by simpa using hu
 unfold snR at hu';rcases List.mem_cons.1 hu' with rfl|hu'
 ·rfl
 rcases List.mem_cons.1 hu' with rfl|hu'
 ·rfl
 rcases List.mem_cons.1 hu' with rfl|hu'
 ·rfl
 ·exact oneCell_reg _ _ u hu'
theorem build_sn (g p n:Int)(r:Nat→Vl)(W:World):(Instr.build 103 #[(0,.int .i64 g),(1,.int .i64 p),(2,.int .i64 n),(3,.agg (regRow r 16).toArray)]).run Tryz.prog W=.ok (.agg (List.toArray (.int .i64 g::.int .i64 p::.int .i64 n::regRow r 16))) W:=by kernel_rfl
theorem yields_sn {ops:Array Oper}{S:World→Prop}{op:Oper}{a:Act}(hw:Region.wanted op (yielded ops a.tmps)=true)(x0 x1 x2 x3:Operand)(ho:op.op=.build 103 #[(0,x0),(1,x1),(2,x2),(3,x3)])
 (s:Ms)(rr r7:List Value)(hr:snR s=rr)(h7:regRow s.at_.regs 16=r7)(h0:a.eval x0=.int .i64 s.at_.gate)(h1:a.eval x1=.int .i64 s.at_.pc)(h2:a.eval x2=.int .i64 s.st.length)(h3:a.eval x3=.agg r7.toArray):
 YieldsIf Tryz.prog ops S op (.agg rr.toArray) a:=
 .inl ⟨hw,fun w _=>by
  subst hr h7;unfold execOp;simp only[ho,List.map_toArray,List.map_cons,List.map_nil,h0,h1,h2,h3,build_sn,Sem.run_bind,Sem.run_pure,Result.andThen_ok]
  rfl⟩
def zS:Ms:=⟨⟨0,0,fun _=>zV⟩,[],[],[],[],⟨0,0,0⟩,fun _=>0,fun _=>none⟩
theorem zero_sn:Tryz.zeroCells103.toList=snR zS:=by kernel_rfl
theorem MIn.regsAt {B:Nat}{W:World}{a:Nat}{P:PImg}{s:Ms}{l:List Ob}(h:MIn B W a P s l):W.rangeAt a 7 (regRow s.at_.regs 16):=fun j v q=>by
 have hj:j<112:=by have:=(List.getElem?_eq_some_iff.1 q).1;rw[regRow_len]at this;omega
 have e:s.at_.row[j+2]?=some v:=by
  rw[fmRow_idx,if_neg (by omega),if_neg (by omega),if_pos (by omega),Nat.add_sub_cancel,←regRow_at s.at_.regs 16 j (by omega)];exact q
 have:=h.handAt (j+2) v e
 rwa [show 5+(j+2)=7+j by omega]at this
theorem snap_any (B:Nat)(a:Nat)(P:PImg)(s:Ms)(l:List Ob)(w:World)(h:MIn B w a P s l):
 Calls Tryz.prog 30 #[.pointer (some ⟨a,0,none⟩)] w fun x w'=>x=.returned (.agg (snR s).toArray)∧Bl w w':=by
 have hrl0:=snR_len s;have hr10:=snR_one s;generalize hrr:snR s=rr at*;generalize hr77:regRow s.at_.regs 16=r7;have hr7:Hz ((Tryz.prog.info? 80).map (·.size)=some r7.length):=ζ (by rw[←hr77,regRow_len];kernel_rfl);have hrl:=ζ hrl0;have hr1:=ζ hr10;clear hrl0 hr10;have hlt:=h.alt;have gV:Bl w (w.alloc (.cells Tryz.zeroCells103 103)):=(Bl.refl w).alloc _;obtain⟨_,ta,tk,c119⟩:=h.depAt;have KS:Hz (∀X,Bl w X→(X.cell? ⟨a,5,none⟩=some (.int .i64 s.at_.gate)∧X.cell? ⟨a,6,none⟩=some (.int .i64 s.at_.pc)∧X.cell? ⟨a,119,none⟩=some (.slice ta s.st.length tk))∧X.rangeAt a 7 r7):=ζ (fun X q=>by
  obtain⟨k1,k2,_⟩:=(h.gr q).cell;exact⟨⟨k1,k2,(q.cell (p:=⟨a,119,none⟩) hlt).trans c119⟩,by rw[←hr77];exact(h.gr q).regsAt⟩)
 replace hrr:=ζ hrr;replace hr77:=ζ hr77;have hR0:At (w.alloc (.cells Tryz.zeroCells103 103)) w.heap.size (snR zS).toArray:=by
  rw[←zero_sn];exact At.new w _ _
 replace h:=ζ h;clear c119;go_enter Tryz.func30,Tryz.ntmps30;go_upto_region 3 with fail
 generalize w.alloc (.cells Tryz.zeroCells103 103)=V at*;have gD:Bl w V.drew:=gV.drew;have hR1:At V.drew w.heap.size (snR zS).toArray:=hR0.drew;have hth:Hz (V.drew.there w.heap.size 0 rr.toArray.size):=ζ (by rw[show rr.toArray.size=115 from hrl.out];exact At.there hR1 0 115 (by rw[snR_len];decide));have hA8:=ζ (At.setAll hR1 rr (by rw[hrl.out,snR_len])).range;have g9:=gD.sets w.heap.size (Nat.le_refl _) rr 0;have gD2:=g9;replace hR1:=ζ hR1;replace hR0:=ζ hR0;refine wp_region_held_drew (S:=(fun X=>(X.cell? ⟨a,5,none⟩=some (.int .i64 s.at_.gate)∧X.cell? ⟨a,6,none⟩=some (.int .i64 s.at_.pc)∧X.cell? ⟨a,119,none⟩=some (.slice ta s.st.length tk))∧X.rangeAt a 7 r7)) (by kernel_rfl) (KS.out _ gD) (fun hHeld=>?_);refine xz 0 rfl (h:=xz 1 rfl (h:=xz 2 rfl (h:=xz 3 rfl (h:=xz 4 rfl (h:=xz 5 rfl (h:=xz 6 rfl (h:=xz 7 rfl (h:=xz 8 rfl (h:=xz 9 rfl (h:=xz 10 rfl (h:=xz 11 rfl (h:=xz 12 rfl (h:=xz 13 rfl (h:=xz 14 rfl (h:=xz 15 rfl (h:=xz 16 rfl (h:=xz 17 rfl (h:=xz 18 rfl (h:=?_)))))))))))))))))))
 try simp only[xap]
 refine xtk 19 rfl (yieldsIf_load_mid (by rfl) _ _ rfl _ _ rfl _ _ (fun _ h=>h.2) Tryz.underlying80 rfl hr7.out) ?_;try simp only[xap]
 refine xtk 20 rfl (yields_sn (by rfl) _ _ _ _ rfl s rr r7 hrr.out hr77.out (by rfl) (by rfl) (by rfl) (by rfl)) ?_;try simp only[xap]
 refine xrd 21 rfl (fun K hK=>?_);rw[if_pos (by rfl)];refine wp_store_mid _ _ _ rfl _ _ (List.toArray rr) rfl rfl (show World.there _ _ _ _ from hth.out) (by rw[List.size_toArray,hrl.out];kernel_rfl) hr1.out ?_;clear hHeld;refine hK.out _ _ (KS.out _ gD2) (fun hHeld=>?_);clear hK K;try simp only[Act.put]
 refine xdn ?_ _;clear hHeld;generalize World.setCells _ _ _ _=Y9 at*;have hrun:=run_loadVar_mid (P:=Tryz.prog) Y9 w.heap.size 0 103 rr _ hA8.out Tryz.underlying103 rfl (by rw[hrl.out];kernel_rfl);replace g9:=ζ g9;go_wp2_with fail;refine bodyPost_ret (v:=.agg rr.toArray) ?_ rfl ⟨rfl,g9.out⟩;exact results_cellE Tryz.results30 _ _ rfl hrun
open T (Sep Ob Kp Mf TgIn boxOb Fm Tc Ed Vl Cp Bx tgOb mRow updV flt Sl Rg rgB rgT slT dataT offT scT updT)
def SlOk (x:Sl):Prop:=x.cap=true→COk ⟨x.b,x.e,x.c,x.p,x.s⟩
theorem scT_in' {t:Nat→Option Cp}(ht:∀g c,t g=some c→COk c)(a:Nat){v:Vl}(hv:v.g=true→COk v.c):∀g c,scT t a v g=some c→COk c:=fun g c h=>by
 unfold scT at h;split at h
 ·split at h
  ·rename_i hg
   unfold updT at h;split at h
   ·injection h with h;subst h;exact hv hg
   ·exact off_in ht _ _ g c h
  ·exact off_in ht _ _ g c h
 ·exact ht g c h
theorem slT_in {t:Nat→Option Cp}(ht:∀g c,t g=some c→COk c)(base:Nat){L:List Sl}(hL:∀x∈L,SlOk x):∀n g c,slT t base L n g=some c→COk c
 |0=>ht
 |n+1=>by
  unfold slT;refine scT_in' (slT_in ht base hL n) _ (fun hg=>?_)
  cases hx:L[n]? with
  |none=>rw[hx]at hg;cases hg
  |some x=>
   rw[hx]at hg;have h1:=hL x (List.mem_of_getElem? hx);simp only[Option.map_some,Option.getD_some]at hg ⊢;unfold T.Sl.v at hg ⊢
   split at hg
   ·rename_i hc
    rw[if_pos hc];exact h1 hc
   ·cases hg
theorem rgT_in {L:List Rg}(hL:∀r∈L,∀x∈r.slots,SlOk x):∀n g c,rgT L n g=some c→COk c
 |0=>fun g c h=>by cases h
 |n+1=>by
  unfold rgT
  cases hx:L[n]? with
  |none=>exact rgT_in hL n
  |some r=>exact slT_in (off_in (rgT_in hL n) _ _) _ (hL r (List.mem_of_getElem? hx)) _
theorem slots_mem:∀(L:List PSlot),slotsR L=true→∀k∈L,k.right=true
 |[],_=>fun k hk=>by cases hk
 |k::l,h=>by
  unfold slotsR at h;rw[Bool.and_eq_true]at h;intro x hx;rcases List.mem_cons.1 hx with rfl|hx
  ·exact h.1
  ·exact slots_mem l h.2 x hx
theorem regs_mem:∀(L:List PReg) (f:Int),regsR L f=0→∀r∈L,slotsR r.slots=true
 |[],_,_=>fun r hr=>by cases hr
 |k::l,f,h=>by
  unfold regsR at h
  split at h
  ·split at h
   ·rename_i q
    intro r hr;rcases List.mem_cons.1 hr with rfl|hr
    ·exact q
    ·exact regs_mem l _ h r hr
   ·omega
  ·omega
theorem sl_ok {k:PSlot}(h:k.right=true)(hr:k.Rng):SlOk (slOf k):=fun hc=>by
 have hc':k.t.cap=true:=hc;unfold PSlot.right at h;rw[Bool.and_eq_true,Bool.and_eq_true]at h;have h1:=h.1.2;unfold PTyp.right at h1;rw[if_pos hc',Bool.and_eq_true]at h1;have h2:=dataB_s h1.1;obtain⟨⟨r1,r2,_,_,r5,_⟩,r7⟩:=hr;refine⟨r1,r2,?_,r5,h2⟩;show W64 ((k.c.toNat:Nat):Int);rw[Int.toNat_of_nonneg r7.1];exact r7
theorem regs_right {m:PImg}(h:m.right=0):regsR m.regs 0=0:=by
 unfold PImg.right at h
 split at h
 ·split at h
  ·assumption
  ·rename_i q;exact absurd h q
 ·omega
theorem ints_vok {A:List Nat}(hA:∀x∈A,x<18446744073709551616)(j:Nat):VOk (intsF A j):=by
 refine vok_nat ?_
 cases hx:A[j - 1]? with
 |none=>decide
 |some x=>exact hA x (List.mem_of_getElem? hx)
theorem start_ok {m:PImg}(h:m.right=0)(hr:m.Rng){g:Nat}(hg:g<m.gates.length){A I:List Nat}(hA:∀x∈A,x<18446744073709551616)(hI:∀x∈I,x<18446744073709551616)(hl:I.length≤2000000):Okm (bare m) 0 (start m g A I):=by
 have hP:POk (bare m):=pok_of m h hr;refine⟨ent_ok hP hg (ints_vok hA) _,fun f hf=>(by cases hf),by have:=hP.dp;show((0:Nat):Int)≤(bare m).depth;omega,⟨?_,fun x hx=>?_⟩,Nat.le_refl _,Nat.le_refl _,?_⟩
 ·show(I.map fun x:Nat=>(x:Int)).length≤_;rw[List.length_map];omega
 ·obtain⟨y,hy,rfl⟩:=List.mem_map.1 hx;have:=hI y hy;exact⟨by omega,by omega⟩
 ·refine rgT_in (fun r hr1 x hx=>?_) _;obtain⟨p,hp,rfl⟩:=List.mem_map.1 hr1;obtain⟨k,hk,rfl⟩:=List.mem_map.1 hx;exact sl_ok (slots_mem _ (regs_mem _ _ (regs_right h) p hp) k hk) ((hr.regs.2 p hp).2.2.2.2 k hk)
open T (Sep Ob Kp Mf TgIn boxOb Fm Tc Ed Vl Cp Bx tgOb mRow updV flt)
def ThG (n:Nat)(g:PGate):Prop:=0≤g.c∧g.c<n∧g.args.length≤7∧g.res.length≤7
def ThI (i:Ins):Prop:=0≤i.a∧i.a<16∧0≤i.b∧i.b<16∧0≤i.c∧i.c≤255
structure Th (m:PImg):Prop where
 gates:∀g∈m.gates,ThG m.comps.length g
 roots:∀c∈m.comps,∀r∈c.roots,0≤r.r∧r.r<16
 code:∀c∈m.comps,∀i∈c.code,ThI i
 ne:0<m.gates.length
theorem th_of (m:PImg)(h:m.right=0)(hr:m.Rng):Th m:=by
 have hP:POk (bare m):=pok_of m h hr;refine⟨fun g hg=>?_,fun c hc r hx=>?_,fun c hc i hi=>?_,?_⟩
 ·obtain⟨k,hk,rfl⟩:=List.getElem_of_mem hg;obtain⟨h1,h2,_,_,h3,h4⟩:=hP.gates k hk;exact⟨h1,h2,h3,h4⟩
 ·obtain⟨k,hk,rfl⟩:=List.getElem_of_mem hc;have:=(hP.roots k).2 r (by rw[rootsOf_at (bare m) k hk];exact hx);exact⟨by omega,this.2.1⟩
 ·obtain⟨k,hk,rfl⟩:=List.getElem_of_mem hc;have:=(hP.code k).2 i (by rw[codeOf_at (bare m) k hk];exact hi);exact⟨this.ra.1,this.ra.2,this.rb.1,this.rb.2,this.rc.1,by have:=this.rc.2;omega⟩
 ·unfold PImg.right at h
  split at h
  ·rename_i hc
   simp only[countsB,Bool.and_eq_true,decide_eq_true_eq]at hc;omega
  ·omega
end C
namespace Q
open Go.RowKit
def rgMk (_:World)(v:RgV):Prop:=v=rgM
def gtMk (_:World)(v:GtV):Prop:=v=gtM
structure TwIn (kk kr kc kg:Nat)(W:World)(m:PImg)(lr:List RgV)(lc:List CpV)(lg:List GtV):Prop where
 r:At W kr (rowV [] RgV.vals lr).toArray
 c:At W kc (rowV [] CpV.vals lc).toArray
 g:At W kg (rowV [] GtV.vals lg).toArray
 rl:lr.length=m.regs.length+8
 cl:lc.length=m.comps.length+8
 gl:lg.length=m.gates.length+8
 rd:Done (RgOk kk) rgMk W m.regs lr (m.regs.length+8)
 cd:Done (CpOk kk) (CpMark kk) W m.comps lc (m.comps.length+8)
 gd:Done (GtOk kk) gtMk W m.gates lg (m.gates.length+8)
theorem rgOk_keep {kk:Nat}{W W':World}(k:Kt kk W W')(a:PReg)(b:RgV)(h:RgOk kk W a b):RgOk kk W' a b:=⟨h.1,h.2.1,h.2.2.1,h.2.2.2.keep k⟩
theorem cpOk_keep {kk:Nat}{W W':World}(k:Kt kk W W')(a:PComp)(b:CpV)(h:CpOk kk W a b):CpOk kk W' a b:=⟨h.1.keep k,h.2.keep k⟩
theorem gtOk_keep {kk:Nat}{W W':World}(k:Kt kk W W')(a:PGate)(b:GtV)(h:GtOk kk W a b):GtOk kk W' a b:=⟨h.1,h.2.1,h.2.2.1.keep k,h.2.2.2.keep k⟩
theorem cpMark_keep {kk:Nat}{W W':World}(k:Kt kk W W')(b:CpV)(h:CpMark kk W b):CpMark kk W' b:=by
 obtain⟨h1,g,h2,h3,h4⟩:=h;exact⟨h1,g,h2,h3,k.at_ h4 h3⟩
theorem range4 {W:World}{b o:Nat}{v0 v1 v2 v3:Value}(h0:W.cell? ⟨b,o,none⟩=some v0)(h1:W.cell? ⟨b,o+1,none⟩=some v1)(h2:W.cell? ⟨b,o+1+1,none⟩=some v2)(h3:W.cell? ⟨b,o+1+1+1,none⟩=some v3):W.rangeAt b o [v0,v1,v2,v3]:=fun j v q=>by
 match j with
 |0=>simp at q;subst q;exact h0
 |1=>simp at q;subst q;exact h1
 |2=>simp at q;subst q;exact h2
 |3=>simp at q;subst q;exact h3
 |j+4=>simp at q
theorem Tw.setO {w:World}{im out:List Value}{lr:List RgV}{lc:List CpV}{lg:List GtV}{W:World}(h:Tw w im out lr lc lg W)(i:Nat)(hi:i<out.length)(v:Value):Tw w im (out.set i v) lr lc lg (W.setCell ⟨w.heap.size+1+1,i,none⟩ v):=
 ⟨h.m.other (by omega) i [v],h.res.other (by omega) i [v],by have:=h.o.set i v (by simpa using hi);simpa using this,h.r.other (by omega) i [v],h.c.other (by omega) i [v],h.g.other (by omega) i [v],h.gr.setCells (w.heap.size+1+1) (by omega) [v] i⟩
theorem results_row {fn:Func}{p:Tmp}{ty:TypeId}{v:Value}{a:Addr}(h:fn.results=#[.cell p ty])(tmps:Array Value)(w:World)(ht:tmps.getD p undef=.pointer (some a))(hl:(loadVar ty a).run Tryz.prog w=.ok v w):
 (results fn tmps).run Tryz.prog w=.ok v w:=by
 have ht':tmps[p]?.getD undef=.pointer (some a):=by simpa using ht
 simp[results,h,ht',asAddr,hl]
theorem Twin_any (m:PImg)(ra ca ga:Option Addr)(rc cc gc:Nat)(w:World)(hm:ImgIn w.heap.size w ra ca ga m)(hF:TwFit m):Calls Tryz.prog 12 #[.agg [Value.slice ra m.regs.length rc,.slice ca m.comps.length cc,.slice ga m.gates.length gc,.int .i64 m.depth].toArray] w fun x w'=>x=.returned (.agg #[.slice (some ⟨w.heap.size+1+1+1,0,none⟩) m.regs.length (m.regs.length+8),.slice (some ⟨w.heap.size+1+1+1+1,0,none⟩) m.comps.length (m.comps.length+8),.slice (some ⟨w.heap.size+1+1+1+1+1,0,none⟩) m.gates.length (m.gates.length+8),.int .i64 m.depth])∧Gr w w'∧∃lr lc lg,TwIn (w.heap.size+1+1+1+1+1) (w.heap.size+1+1+1) (w.heap.size+1+1+1+1) (w.heap.size+1+1+1+1+1) w' m lr lc lg:=by
 have hr:=fun W=>make_k (vals:=RgV.vals) (Z:=rgZ) (t:=38) (e:=95) (k:=4) (b:=56) (by omega) rg_len Tryz.underlying38 (by kernel_rfl) (m.regs.length+8) (by have:=hF.r;omega) hF.r W
 rw[show ((m.regs.length+8:Nat):Int)=(m.regs.length:Int)+8 by omega]at hr;have hrw:wrap64 ((m.regs.length:Int)+8)=(m.regs.length:Int)+8:=by have:=hF.r;unfold wrap64;omega
 have hrx:IntKind.i64.wrap ((m.regs.length:Int)+8)=(m.regs.length:Int)+8:=by have:=hF.r;rw[IntKind.wrap_i64];omega
 have hc:=fun W=>make_k (vals:=CpV.vals) (Z:=cpZ) (t:=33) (e:=32) (k:=2) (b:=48) (by omega) cp_len Tryz.underlying33 (by kernel_rfl) (m.comps.length+8) (by have:=hF.c;omega) hF.c W
 rw[show ((m.comps.length+8:Nat):Int)=(m.comps.length:Int)+8 by omega]at hc;have hcw:wrap64 ((m.comps.length:Int)+8)=(m.comps.length:Int)+8:=by have:=hF.c;unfold wrap64;omega
 have hcx:IntKind.i64.wrap ((m.comps.length:Int)+8)=(m.comps.length:Int)+8:=by have:=hF.c;rw[IntKind.wrap_i64];omega
 have hg:=fun W=>make_k (vals:=GtV.vals) (Z:=gtZ) (t:=37) (e:=36) (k:=4) (b:=64) (by omega) gt_len Tryz.underlying37 (by kernel_rfl) (m.gates.length+8) (by have:=hF.g;omega) hF.g W
 rw[show ((m.gates.length+8:Nat):Int)=(m.gates.length:Int)+8 by omega]at hg;have hgw:wrap64 ((m.gates.length:Int)+8)=(m.gates.length:Int)+8:=by have:=hF.g;unfold wrap64;omega
 have hgx:IntKind.i64.wrap ((m.gates.length:Int)+8)=(m.gates.length:Int)+8:=by have:=hF.g;rw[IntKind.wrap_i64];omega
 have lr1:m.regs.length≤281474976710648:=by have:=hF.r;omega
 have lc1:m.comps.length≤281474976710648:=by have:=hF.c;omega
 have lg1:m.gates.length≤281474976710648:=by have:=hF.g;omega
 replace hm:=Hid.mk hm;replace hF:=Hid.mk hF;generalize eR:(Obj.cells (rowV [] RgV.vals (List.replicate (m.regs.length+8) rgZ)).toArray 95)=oR at*;generalize eC:(Obj.cells (rowV [] CpV.vals (List.replicate (m.comps.length+8) cpZ)).toArray 32)=oC at*;generalize eG:(Obj.cells (rowV [] GtV.vals (List.replicate (m.gates.length+8) gtZ)).toArray 36)=oG at*;replace eR:=Hid.mk eR;replace eC:=Hid.mk eC;replace eG:=Hid.mk eG;have eim:=Hid.mk (show [Value.slice ra m.regs.length rc,.slice ca m.comps.length cc,.slice ga m.gates.length gc,.int .i64 m.depth]=[Value.slice ra m.regs.length rc,.slice ca m.comps.length cc,.slice ga m.gates.length gc,.int .i64 m.depth]from rfl);generalize hIM:[Value.slice ra m.regs.length rc,.slice ca m.comps.length cc,.slice ga m.gates.length gc,.int .i64 m.depth]=im at eim;go_enter Tryz.func12,Tryz.ntmps12;go_upto_region 1 with fail
 refine wp_world (fun W=>At W w.heap.size im.toArray∧At W (w.heap.size+1) #[.slice none 0 0,.slice none 0 0,.slice none 0 0,.int .i64 0]∧Gr w W∧W.heap.size=w.heap.size+1+1) ⟨by rw[←hIM];exact(At.at_ w _ _ rfl).alloc _,At.at_ _ _ _ (by simp),((Gr.refl w).alloc _).alloc _,by simp⟩ ?_;rintro Wa ⟨b0,b1,G,hs⟩;replace b0:=Hid.mk b0;replace b1:=Hid.mk b1;replace G:=Hid.mk G;have c3:Wa.cell? ⟨w.heap.size,3,none⟩=some (.int .i64 m.depth):=by rw[b0.out.2.1,←hIM];rfl
 refine wp_region_lit ?_;iterate 4 (refine xp fun K hK=>?_;go_simp;with_reducible refine hK _ _ ?_;clear hK K;(try simp only[xap]))
 have b2:=Hid.mk (At.new' Wa [.slice none 0 0,.slice none 0 0,.slice none 0 0,.int .i64 0] 40 hs);refine xp fun K hK=>?_
 refine wp_store_mid _ _ _ rfl _ _ (List.toArray [Value.slice none 0 0,.slice none 0 0,.slice none 0 0,.int .i64 m.depth]) rfl rfl (b2.out.there 0 _ (by simp)) (by kernel_rfl) (all_oneCell_toArray (by intro v hv;simp at hv;rcases hv with rfl|rfl<;>rfl)) (hK _ _ ?_);clear hK K;try simp only[Act.put]
 replace b2:=Hid.mk (b2.out.setAll [Value.slice none 0 0,.slice none 0 0,.slice none 0 0,.int .i64 m.depth] rfl);replace b0:=Hid.mk ((b0.out.alloc (Obj.cells #[.slice none 0 0,.slice none 0 0,.slice none 0 0,.int .i64 0] 40)).other (b':=w.heap.size+1+1) (by omega) 0 [Value.slice none 0 0,.slice none 0 0,.slice none 0 0,.int .i64 m.depth]);replace b1:=Hid.mk ((b1.out.alloc (Obj.cells #[.slice none 0 0,.slice none 0 0,.slice none 0 0,.int .i64 0] 40)).other (b':=w.heap.size+1+1) (by omega) 0 [Value.slice none 0 0,.slice none 0 0,.slice none 0 0,.int .i64 m.depth]);replace G:=Hid.mk ((G.out.alloc (Obj.cells #[.slice none 0 0,.slice none 0 0,.slice none 0 0,.int .i64 0] 40)).setCells (w.heap.size+1+1) (by omega) [Value.slice none 0 0,.slice none 0 0,.slice none 0 0,.int .i64 m.depth] 0);replace hs:(World.setCells (Wa.alloc (Obj.cells #[.slice none 0 0,.slice none 0 0,.slice none 0 0,.int .i64 0] 40)) (w.heap.size+1+1) 0 [Value.slice none 0 0,.slice none 0 0,.slice none 0 0,.int .i64 m.depth]).heap.size=w.heap.size+1+1+1:=by rw[setCells_size];simp[hs]
 clear c3;generalize World.setCells _ _ _ _=W1 at*;have c0:W1.cell? ⟨w.heap.size,0,none⟩=some (.slice ra m.regs.length rc):=by rw[b0.out.2.1,←hIM];rfl
 go_upto_region 2 with fail;refine wp_region_lit ?_;iterate 6 (refine xp fun K hK=>?_;go_simp;with_reducible refine hK _ _ ?_;clear hK K;(try simp only[xap]))
 go_upto_region 3 with fail;have b3:Hid (At (W1.alloc oR) (w.heap.size+1+1+1) (rowV [] RgV.vals (List.replicate (m.regs.length+8) rgZ)).toArray):=Hid.mk (by rw[←eR.out];exact At.new' _ _ _ hs);replace b0:=Hid.mk (b0.out.alloc oR);replace b1:=Hid.mk (b1.out.alloc oR);replace b2:=Hid.mk (b2.out.alloc oR);replace G:=Hid.mk (G.out.alloc oR);replace hs:(W1.alloc oR).heap.size=w.heap.size+1+1+1+1:=by simp[hs]
 clear c0 hr;generalize W1.alloc oR=W2 at*;have c0:W2.cell? ⟨w.heap.size,1,none⟩=some (.slice ca m.comps.length cc):=by rw[b0.out.2.1,←hIM];rfl
 refine wp_region_lit ?_;iterate 6 (refine xp fun K hK=>?_;go_simp;with_reducible refine hK _ _ ?_;clear hK K;(try simp only[xap]))
 go_upto_region 4 with fail;have b4:Hid (At (W2.alloc oC) (w.heap.size+1+1+1+1) (rowV [] CpV.vals (List.replicate (m.comps.length+8) cpZ)).toArray):=Hid.mk (by rw[←eC.out];exact At.new' _ _ _ hs);replace b0:=Hid.mk (b0.out.alloc oC);replace b1:=Hid.mk (b1.out.alloc oC);replace b2:=Hid.mk (b2.out.alloc oC);replace b3:=Hid.mk (b3.out.alloc oC);replace G:=Hid.mk (G.out.alloc oC);replace hs:(W2.alloc oC).heap.size=w.heap.size+1+1+1+1+1:=by simp[hs]
 clear c0 hc;generalize W2.alloc oC=W3 at*;have c0:W3.cell? ⟨w.heap.size,2,none⟩=some (.slice ga m.gates.length gc):=by rw[b0.out.2.1,←hIM];rfl
 refine wp_region_lit ?_;iterate 6 (refine xp fun K hK=>?_;go_simp;with_reducible refine hK _ _ ?_;clear hK K;(try simp only[xap]))
 go_upto_region 6 with fail;have T0:Hid (Tw w im [Value.slice none 0 0,.slice none 0 0,.slice none 0 0,.int .i64 m.depth] (List.replicate (m.regs.length+8) rgZ) (List.replicate (m.comps.length+8) cpZ) (List.replicate (m.gates.length+8) gtZ) (W3.alloc oG)):=Hid.mk ⟨b0.out.alloc oG,b1.out.alloc oG,b2.out.alloc oG,b3.out.alloc oG,b4.out.alloc oG,by rw[←eG.out];exact At.new' _ _ _ hs,G.out.alloc oG⟩;replace hs:w.heap.size+1+1+1+1+1<(W3.alloc oG).heap.size:=by simp[hs]
 clear c0 hg b0 b1 b2 b3 b4 G eR eC eG;have D0:=Hid.mk (Done.zero (RgOk (w.heap.size+1+1+1+1+1)) rgMk (W3.alloc oG) m.regs (List.replicate (m.regs.length+8) rgZ));have L0:Hid ((List.replicate (m.regs.length+8) rgZ).length=m.regs.length+8):=Hid.mk (by simp);generalize W3.alloc oG=W4 at*;generalize List.replicate (m.regs.length+8) rgZ=lr0 at*;generalize elc:List.replicate (m.comps.length+8) cpZ=lc0 at*;generalize elg:List.replicate (m.gates.length+8) gtZ=lg0 at*;replace elc:=Hid.mk elc;replace elg:=Hid.mk elg;go_loopw [7] (fun x wr=>∃(i:Nat) (lr:List RgV),x=.int .i64 i∧i≤m.regs.length+8∧Hid (Tw w im [Value.slice none 0 0,.slice none 0 0,.slice none 0 0,.int .i64 m.depth] lr lc0 lg0 wr)∧Hid (lr.length=m.regs.length+8)∧Hid (Done (RgOk (w.heap.size+1+1+1+1+1)) rgMk wr m.regs lr i)∧Hid (w.heap.size+1+1+1+1+1<wr.heap.size)) (fun x _=>m.regs.length+8 - (intOf x).toNat)
 case atStart=>exact⟨0,lr0,rfl,by omega,T0,L0,D0,Hid.mk hs⟩
 case round=>
  clear T0 L0 D0 hs;obtain⟨i,lr,rfl,hi,T0,L0,D0,hs⟩:=hrel;by_cases hlt:i<m.regs.length+8
  ·have hi1:(i:Int)<(m.regs.length:Int)+8:=by omega
   have hil:i<lr.length:=by rw[L0.out];exact hlt
   go_upto_region 8 with fail;refine wp_region_lit ?_;iterate 4 (refine xp fun K hK=>?_;go_simp;with_reducible refine hK _ _ ?_;clear hK K;(try simp only[xap]))
   have hT:=Hid.mk (T0.out.r.there (i*4) 4 (by rw[row_len rg_len,L0.out];simp;omega));have K0:=Hid.mk ((Kt.refl (w.heap.size+1+1+1+1+1) wr).sets (w.heap.size+1+1+1) (i*4) rgM.vals (.inl (by omega)));have T1:=Hid.mk (T0.out.setR i hil rgM);refine xp fun K hK=>?_
   refine wp_store_mid _ _ _ rfl _ _ (List.toArray (RgV.vals rgM)) rfl rfl hT.out (by kernel_rfl) (all_oneCell_toArray (rg_one _)) (hK _ _ ?_);clear hK K hT;try simp only[Act.put]
   have c0:(World.setCells wr (w.heap.size+1+1+1) (i*4) rgM.vals).cell? ⟨w.heap.size,0,none⟩=some (.slice ra m.regs.length rc):=by rw[T1.out.m.2.1,←hIM];rfl
   generalize World.setCells _ _ _ _=V1 at*;by_cases hn:i<m.regs.length
   ·have hin:(i:Int)<(m.regs.length:Int):=by omega
    obtain⟨rb,off,sa,sc,hra,hb1,hb2,k0,k1,k2,k3,kf⟩:=hm.out.regs i hn;subst hra;have hfit:=hF.out.rs _ (List.getElem_mem hn);have hrr:Hid (m.regs[i]=m.regs[i]):=Hid.mk rfl;generalize hrg:m.regs[i]=rr at k0 k1 k2 k3 kf hfit hrr;replace hrg:=Hid.mk hrg;replace k0:=Hid.mk k0;replace k1:=Hid.mk k1;replace k2:=Hid.mk k2;replace k3:=Hid.mk k3;replace kf:=Hid.mk kf;replace hfit:=Hid.mk hfit;have rg:=Hid.mk (range4 ((T1.out.gr.below.cell (p:=⟨rb,off+i*4,none⟩) hb1).trans k0.out) ((T1.out.gr.below.cell (p:=⟨rb,off+i*4+1,none⟩) hb1).trans k1.out) ((T1.out.gr.below.cell (p:=⟨rb,off+i*4+1+1,none⟩) hb1).trans k2.out) ((T1.out.gr.below.cell (p:=⟨rb,off+i*4+1+1+1,none⟩) hb1).trans k3.out));go_upto_region 10 with fail;refine wp_region_lit ?_;iterate 4 (refine xp fun K hK=>?_;go_simp;with_reducible refine hK _ _ ?_;clear hK K;(try simp only[xap]))
    refine xp fun K hK=>?_
    refine wp_load_mid _ _ rfl _ (off+i*4) rfl [Value.int .u64 rr.b,.int .u64 rr.n,.string (str rr.data),.slice sa rr.slots.length sc] _ rg.out Tryz.underlying95 rfl (by kernel_rfl) (hK _ _ ?_);clear hK K;try simp only[xap]
    refine xp fun K hK=>?_
    go_simp;with_reducible refine hK _ _ ?_
    clear hK K;try simp only[xap]
    have bx:=Hid.mk (At.new V1 [Value.int .u64 0,.int .u64 0,.string {data:=#[]},.slice none 0 0].toArray 95);refine xp fun K hK=>?_
    refine wp_store_mid _ _ _ rfl _ _ (List.toArray [Value.int .u64 rr.b,.int .u64 rr.n,.string (str rr.data),.slice sa rr.slots.length sc]) rfl rfl (bx.out.there 0 _ (by simp)) (by kernel_rfl) (all_oneCell_toArray (rg_one ⟨rr.b,rr.n,rr.data,⟨sa,rr.slots.length,sc⟩⟩)) (hK _ _ ?_);clear hK K;try simp only[Act.put]
    replace bx:=Hid.mk (bx.out.setAll [Value.int .u64 rr.b,.int .u64 rr.n,.string (str rr.data),.slice sa rr.slots.length sc] rfl);have hk1:w.heap.size+1+1+1+1+1<V1.heap.size:=Nat.lt_of_lt_of_le hs.out K0.out.size;have hk2:wr.heap.size≤V1.heap.size:=K0.out.size;have T2:=Hid.mk ((T1.out.grow ((Gr.refl V1).alloc (Obj.cells [Value.int .u64 0,.int .u64 0,.string {data:=#[]},.slice none 0 0].toArray 95))).sets V1.heap.size 0 [Value.int .u64 rr.b,.int .u64 rr.n,.string (str rr.data),.slice sa rr.slots.length sc] hk1);have K2:=Hid.mk ((K0.out.trans (Kt.gr ((Gr.refl V1).alloc (Obj.cells [Value.int .u64 0,.int .u64 0,.string {data:=#[]},.slice none 0 0].toArray 95)))).sets V1.heap.size 0 [Value.int .u64 rr.b,.int .u64 rr.n,.string (str rr.data),.slice sa rr.slots.length sc] (.inr hk2));clear T1 K0 rg c0;generalize World.setCells _ _ _ _=V2 at*;generalize V1.heap.size=kx at*;have c0:V2.cell? ⟨w.heap.size,0,none⟩=some (.slice (some ⟨rb,off,none⟩) m.regs.length rc):=by rw[T2.out.m.2.1,←hIM];rfl
    have c1:V2.cell? ⟨rb,off+i*4+1+1+1,none⟩=some (.slice sa rr.slots.length sc):=((T2.out.gr.below.cell (p:=⟨rb,off+i*4+1+1+1,none⟩) hb1).trans k3.out);have hk3:w.heap.size+1+1+1+1+1<V2.heap.size:=Nat.lt_trans hk1 bx.out.1;have hcl:=Hid.mk (slots_all rr.slots sa sc w.heap.size kx V2 (kf.out.below T2.out.gr.below) hfit.out T2.out.gr.below.size bx.out.1);go_upto_region 11 with fail
    refine wp_region_lit ?_;iterate 6 (refine xp fun K hK=>?_;go_simp;with_reducible refine hK _ _ ?_;clear hK K;(try simp only[xap]))
    refine xp fun K hK=>?_
    go_simp
    (go_at_call 26;refine hcl.out.mono ?_;rintro x wq ⟨s,rfl,qs,q9⟩;replace q9:=Hid.mk q9;replace qs:=Hid.mk qs)
    with_reducible refine hK _ _ ?_
    clear hK K;try simp only[xap]
    refine xp fun K hK=>?_
    go_simp;with_reducible refine hK _ _ ?_
    clear hK K;try simp only[xap]
    have d1:∃y,wq.cell? ⟨kx,3,none⟩=some y:=⟨_,(bx.out.gr q9.out).2.1 3⟩;obtain⟨y9,d1⟩:=d1;have d2:wq.frozen? ⟨kx,3,none⟩=false:=(bx.out.gr q9.out).2.2 3;refine xp fun K hK=>?_
    go_simp;with_reducible refine hK _ _ ?_
    clear hK K d1 d2 y9;try simp only[Act.put]
    have x9:=Hid.mk ((Kt.refl kx wq).set kx 3 (.slice s.a s.l s.c) (.inl (Nat.le_refl _)));replace qs:=Hid.mk (qs.out.keep x9.out);replace bx:=Hid.mk (show At (World.setCell wq ⟨kx,3,none⟩ (.slice s.a s.l s.c)) kx (List.toArray [Value.int .u64 rr.b,.int .u64 rr.n,.string (str rr.data),.slice s.a s.l s.c])from(bx.out.gr q9.out).set 3 (.slice s.a s.l s.c) (by simp));replace K2:=Hid.mk ((K2.out.trans (Kt.gr q9.out)).set kx 3 (.slice s.a s.l s.c) (.inr hk2));replace T2:=Hid.mk (show Tw w im [Value.slice none 0 0,.slice none 0 0,.slice none 0 0,.int .i64 m.depth] _ _ _ (World.setCell wq ⟨kx,3,none⟩ (.slice s.a s.l s.c))from(T2.out.grow q9.out).sets kx 3 [.slice s.a s.l s.c] hk1);clear q9 x9 hcl c0 c1 hk3;generalize World.setCell _ _ _=V3 at*;go_upto_region 12 with fail
    refine wp_region_lit ?_;iterate 2 (refine xp fun K hK=>?_;go_simp;with_reducible refine hK _ _ ?_;clear hK K;(try simp only[xap]))
    refine xp fun K hK=>?_
    refine wp_load_mid _ _ rfl _ 0 rfl (RgV.vals ⟨rr.b,rr.n,rr.data,s⟩) _ bx.out.range Tryz.underlying95 rfl (by kernel_rfl) (hK _ _ ?_);clear hK K;try simp only[xap]
    refine xp fun K hK=>?_
    go_simp;with_reducible refine hK _ _ ?_
    clear hK K;try simp only[xap]
    have hT:=Hid.mk (T2.out.r.there (i*4) 4 (by rw[row_len rg_len,List.length_set,L0.out];simp;omega));have hl2:i<(lr.set i rgM).length:=by rw[List.length_set];exact hil
    have T3:=Hid.mk (T2.out.setR i hl2 ⟨rr.b,rr.n,rr.data,s⟩);rw[List.set_set]at T3;have K3:=Hid.mk (K2.out.sets (w.heap.size+1+1+1) (i*4) (RgV.vals ⟨rr.b,rr.n,rr.data,s⟩) (.inl (by omega)));have x9:=Hid.mk ((Kt.refl kx V3).sets (w.heap.size+1+1+1) (i*4) (RgV.vals ⟨rr.b,rr.n,rr.data,s⟩) (.inl (by omega)));refine xp fun K hK=>?_
    refine wp_store_mid _ _ _ rfl _ _ (List.toArray (RgV.vals ⟨rr.b,rr.n,rr.data,s⟩)) rfl rfl hT.out (by kernel_rfl) (all_oneCell_toArray (rg_one _)) (hK _ _ ?_);clear hK K hT hl2 bx T2 K2;try simp only[Act.put]
    generalize World.setCells _ _ _ _=V4 at*;replace qs:=Hid.mk ((qs.out.keep x9.out).mono (Nat.le_of_lt hk1));have D1:=Hid.mk ((D0.out.keep (rgOk_keep K3.out) (fun _ h=>h)).next hil ⟨rr.b,rr.n,rr.data,s⟩ (fun _=>by rw[hrg.out];exact⟨rfl,rfl,rfl,qs.out⟩) (fun h=>by omega));have L1:Hid ((lr.set i ⟨rr.b,rr.n,rr.data,s⟩).length=m.regs.length+8):=Hid.mk (by rw[List.length_set];exact L0.out);have hs3:=Hid.mk (Nat.lt_of_lt_of_le hs.out K3.out.size);clear x9 qs D0 L0 hs hrg hrr k0 k1 k2 k3 kf hfit;clear K3;go_wp2_with fail;exact⟨⟨i+1,_,by go_num,by omega,T3,L1,D1,hs3⟩,by simp[intOf];omega⟩
   ·have hin:¬(i:Int)<(m.regs.length:Int):=by omega
    have T3:=T1;have K3:=K0;have D1:=Hid.mk ((D0.out.keep (rgOk_keep K3.out) (fun _ h=>h)).next hil rgM (fun h=>absurd h hn) (fun _=>rfl));have L1:Hid ((lr.set i rgM).length=m.regs.length+8):=Hid.mk (by rw[List.length_set];exact L0.out);have hs3:=Hid.mk (Nat.lt_of_lt_of_le hs.out K3.out.size);clear D0 L0 hs T1 K0;clear K3;go_wp2_with fail;exact⟨⟨i+1,_,by go_num,by omega,T3,L1,D1,hs3⟩,by simp[intOf];omega⟩
  ·have hi1:¬(i:Int)<(m.regs.length:Int)+8:=by omega
   have ei:i=m.regs.length+8:=by omega
   subst ei;replace D0:=Hid.mk (show Done (RgOk (w.heap.size+1+1+1+1+1)) rgMk wr m.regs lr (m.regs.length+8)from D0.out);have LR:=L0;have DR:=D0;have LC:Hid (lc0.length=m.comps.length+8):=Hid.mk (by rw[←elc.out];simp);have DC:=Hid.mk (Done.zero (CpOk (w.heap.size+1+1+1+1+1)) (CpMark (w.heap.size+1+1+1+1+1)) wr m.comps lc0);clear L0 D0;go_upto_region 14 with fail
   generalize wr=Wb at*;go_loopw [9] (fun x wr=>∃(i:Nat) (lc:List CpV),x=.int .i64 i∧i≤m.comps.length+8∧Hid (Tw w im [Value.slice none 0 0,.slice none 0 0,.slice none 0 0,.int .i64 m.depth] lr lc lg0 wr)∧Hid (lc.length=m.comps.length+8)∧Hid (Done (CpOk (w.heap.size+1+1+1+1+1)) (CpMark (w.heap.size+1+1+1+1+1)) wr m.comps lc i)∧Hid (Done (RgOk (w.heap.size+1+1+1+1+1)) rgMk wr m.regs lr (m.regs.length+8))∧Hid (w.heap.size+1+1+1+1+1<wr.heap.size)) (fun x _=>m.comps.length+8 - (intOf x).toNat)
   case atStart=>exact⟨0,lc0,rfl,by omega,T0,LC,DC,DR,hs⟩
   case round=>
    clear T0 LC DC DR hs;obtain⟨i,lc,rfl,hi,T0,L0,D0,DR,hs⟩:=hrel;by_cases hlt:i<m.comps.length+8
    ·have hi1:(i:Int)<(m.comps.length:Int)+8:=by omega
     have hil:i<lc.length:=by rw[L0.out];exact hlt
     go_upto_region 16 with fail;refine wp_region_lit ?_;iterate 6 (refine xp fun K hK=>?_;go_simp;with_reducible refine hK _ _ ?_;clear hK K;(try simp only[xap]))
     have hT:=Hid.mk ((T0.out.c.alloc (Obj.cells #[.int .i64 (-7),.int .u64 0,.int .u64 0,.int .u64 0,.int .u8 0,.int .i64 0] 98)).there (i*2) 2 (by rw[row_len cp_len,L0.out];simp;omega));have K0:=Hid.mk (((Kt.refl (w.heap.size+1+1+1+1+1) wr).trans (Kt.gr ((Gr.refl wr).alloc (Obj.cells #[.int .i64 (-7),.int .u64 0,.int .u64 0,.int .u64 0,.int .u8 0,.int .i64 0] 98)))).sets (w.heap.size+1+1+1+1) (i*2) (CpV.vals (⟨⟨some ⟨wr.heap.size,0,none⟩,1,1⟩,nilS⟩:CpV)) (.inl (by omega)));have T1:=Hid.mk ((T0.out.grow ((Gr.refl wr).alloc (Obj.cells #[.int .i64 (-7),.int .u64 0,.int .u64 0,.int .u64 0,.int .u8 0,.int .i64 0] 98))).setC i hil (⟨⟨some ⟨wr.heap.size,0,none⟩,1,1⟩,nilS⟩:CpV));have bm:Hid (At (World.setCells (wr.alloc (Obj.cells #[.int .i64 (-7),.int .u64 0,.int .u64 0,.int .u64 0,.int .u8 0,.int .i64 0] 98)) (w.heap.size+1+1+1+1) (i*2) (CpV.vals (⟨⟨some ⟨wr.heap.size,0,none⟩,1,1⟩,nilS⟩:CpV))) wr.heap.size (rowV [] PRoot.vals [rootM]).toArray):=Hid.mk ((At.new wr _ _).other (by have:=hs.out;omega) _ _)
     refine xp fun K hK=>?_
     refine wp_store_mid _ _ _ rfl _ _ (List.toArray (CpV.vals (⟨⟨some ⟨wr.heap.size,0,none⟩,1,1⟩,nilS⟩:CpV))) rfl rfl hT.out (by kernel_rfl) (all_oneCell_toArray (cp_one _)) (hK _ _ ?_);clear hK K hT;try simp only[Act.put]
     have c0:(World.setCells (wr.alloc (Obj.cells #[.int .i64 (-7),.int .u64 0,.int .u64 0,.int .u64 0,.int .u8 0,.int .i64 0] 98)) (w.heap.size+1+1+1+1) (i*2) (CpV.vals (⟨⟨some ⟨wr.heap.size,0,none⟩,1,1⟩,nilS⟩:CpV))).cell? ⟨w.heap.size,1,none⟩=some (.slice ca m.comps.length cc):=by rw[T1.out.m.2.1,←hIM];rfl
     generalize World.setCells _ _ _ _=V1 at*;by_cases hn:i<m.comps.length
     ·have hin:(i:Int)<(m.comps.length:Int):=by omega
      obtain⟨cb,off,ra',rc',ka,kc,hca,hb1,hb2,k0,k1,kr,kl⟩:=hm.out.comps i hn;subst hca;have hfit:=hF.out.cs _ (List.getElem_mem hn);generalize hrg:m.comps[i]=rr at k0 k1 kr kl hfit;replace hrg:=Hid.mk hrg;replace k0:=Hid.mk k0;replace k1:=Hid.mk k1;replace kr:=Hid.mk kr;replace kl:=Hid.mk kl;replace hfit:=Hid.mk hfit;have T2:=T1;have K2:=K0;clear T1 K0 c0;have c0:V1.cell? ⟨w.heap.size,1,none⟩=some (.slice (some ⟨cb,off,none⟩) m.comps.length cc):=by rw[T2.out.m.2.1,←hIM];rfl
      have c1:V1.cell? ⟨cb,off+i*2,none⟩=some (.slice ra' rr.roots.length rc'):=((T2.out.gr.below.cell (p:=⟨cb,off+i*2,none⟩) hb1).trans k0.out);have hcl:=Hid.mk (roots_all rr.roots ra' rc' w.heap.size (w.heap.size+1+1+1+1+1) V1 (kr.out.below T2.out.gr.below) hfit.out.1 T2.out.gr.below.size (Nat.lt_of_lt_of_le hs.out K2.out.size));go_upto_region 18 with fail
      refine wp_region_lit ?_;iterate 6 (refine xp fun K hK=>?_;go_simp;with_reducible refine hK _ _ ?_;clear hK K;(try simp only[xap]))
      refine xp fun K hK=>?_
      go_simp
      (go_at_call 27;refine hcl.out.mono ?_;rintro x wq ⟨s,rfl,qs,q9⟩;replace q9:=Hid.mk q9;replace qs:=Hid.mk qs)
      with_reducible refine hK _ _ ?_
      clear hK K;try simp only[xap]
      refine xp fun K hK=>?_
      go_simp;with_reducible refine hK _ _ ?_
      clear hK K;try simp only[xap]
      replace T2:=Hid.mk (T2.out.grow q9.out);replace K2:=Hid.mk (K2.out.trans (Kt.gr q9.out));clear q9 hcl c0 c1;generalize wq=V2 at*;have c0:V2.cell? ⟨w.heap.size,1,none⟩=some (.slice (some ⟨cb,off,none⟩) m.comps.length cc):=by rw[T2.out.m.2.1,←hIM];rfl
      have c1:V2.cell? ⟨cb,off+i*2+1,none⟩=some (.slice ka rr.code.length kc):=((T2.out.gr.below.cell (p:=⟨cb,off+i*2+1,none⟩) hb1).trans k1.out);have hcl:=Hid.mk (insts_all rr.code ka kc w.heap.size (w.heap.size+1+1+1+1+1) V2 (kl.out.below T2.out.gr.below) hfit.out.2 T2.out.gr.below.size (Nat.lt_of_lt_of_le hs.out K2.out.size));go_upto_region 19 with fail
      refine wp_region_lit ?_;iterate 6 (refine xp fun K hK=>?_;go_simp;with_reducible refine hK _ _ ?_;clear hK K;(try simp only[xap]))
      refine xp fun K hK=>?_
      go_simp
      (go_at_call 28;refine hcl.out.mono ?_;rintro x wq ⟨t,rfl,qt,q9⟩;replace q9:=Hid.mk q9;replace qt:=Hid.mk qt)
      with_reducible refine hK _ _ ?_
      clear hK K;try simp only[xap]
      refine xp fun K hK=>?_
      go_simp;with_reducible refine hK _ _ ?_
      clear hK K;try simp only[xap]
      replace T2:=Hid.mk (T2.out.grow q9.out);replace K2:=Hid.mk (K2.out.trans (Kt.gr q9.out));replace qs:=Hid.mk (qs.out.keep (Kt.gr q9.out));clear q9 hcl c0 c1;generalize wq=V3 at*;go_upto_region 20 with fail
      refine wp_region_lit ?_;iterate 6 (refine xp fun K hK=>?_;go_simp;with_reducible refine hK _ _ ?_;clear hK K;(try simp only[xap]))
      have kx:Nat:=0;have bx:=True.intro;have hT:=Hid.mk (T2.out.c.there (i*2) 2 (by rw[row_len cp_len,List.length_set,L0.out];simp;omega));have hl2:i<(lc.set i (⟨⟨some ⟨wr.heap.size,0,none⟩,1,1⟩,nilS⟩:CpV)).length:=by rw[List.length_set];exact hil
      have T3:=Hid.mk (T2.out.setC i hl2 ⟨s,t⟩);rw[List.set_set]at T3;have K3:=Hid.mk (K2.out.sets (w.heap.size+1+1+1+1) (i*2) (CpV.vals ⟨s,t⟩) (.inl (by omega)));have x9:=Hid.mk ((Kt.refl (w.heap.size+1+1+1+1+1) V3).sets (w.heap.size+1+1+1+1) (i*2) (CpV.vals ⟨s,t⟩) (.inl (by omega)));refine xp fun K hK=>?_
      refine wp_store_mid _ _ _ rfl _ _ (List.toArray (CpV.vals ⟨s,t⟩)) rfl rfl hT.out (by kernel_rfl) (all_oneCell_toArray (cp_one _)) (hK _ _ ?_);clear hK K hT hl2 bx T2 K2;try simp only[Act.put]
      generalize World.setCells _ _ _ _=V4 at*;replace qs:=Hid.mk (qs.out.keep x9.out);replace qt:=Hid.mk (qt.out.keep x9.out);have D1:=Hid.mk ((D0.out.keep (cpOk_keep K3.out) (cpMark_keep K3.out)).next hil ⟨s,t⟩ (fun _=>by rw[hrg.out];exact⟨qs.out,qt.out⟩) (fun h=>by omega));have L1:Hid ((lc.set i ⟨s,t⟩).length=m.comps.length+8):=Hid.mk (by rw[List.length_set];exact L0.out);have hs3:=Hid.mk (Nat.lt_of_lt_of_le hs.out K3.out.size);have R1:=Hid.mk (DR.out.keep (rgOk_keep K3.out) (fun _ h=>h));clear x9 qs qt D0 L0 hs hrg k0 k1 kr kl hfit DR kx;clear K3;go_wp2_with fail;exact⟨⟨i+1,_,by go_num,by omega,T3,L1,D1,R1,hs3⟩,by simp[intOf];omega⟩
     ·have hin:¬(i:Int)<(m.comps.length:Int):=by omega
      have T3:=T1;have K3:=K0;have D1:=Hid.mk ((D0.out.keep (cpOk_keep K3.out) (cpMark_keep K3.out)).next hil (⟨⟨some ⟨wr.heap.size,0,none⟩,1,1⟩,nilS⟩:CpV) (fun h=>absurd h hn) (fun _=>⟨rfl,wr.heap.size,rfl,hs.out,bm.out⟩));have L1:Hid ((lc.set i (⟨⟨some ⟨wr.heap.size,0,none⟩,1,1⟩,nilS⟩:CpV)).length=m.comps.length+8):=Hid.mk (by rw[List.length_set];exact L0.out);have hs3:=Hid.mk (Nat.lt_of_lt_of_le hs.out K3.out.size);have R1:=Hid.mk (DR.out.keep (rgOk_keep K3.out) (fun _ h=>h));clear D0 L0 hs T1 K0 DR bm;clear K3;go_wp2_with fail;exact⟨⟨i+1,_,by go_num,by omega,T3,L1,D1,R1,hs3⟩,by simp[intOf];omega⟩
    ·have hi1:¬(i:Int)<(m.comps.length:Int)+8:=by omega
     have ei:i=m.comps.length+8:=by omega
     subst ei;have LCC:=L0;have DC:=D0;have LG:Hid (lg0.length=m.gates.length+8):=Hid.mk (by rw[←elg.out];simp);have DG:=Hid.mk (Done.zero (GtOk (w.heap.size+1+1+1+1+1)) gtMk wr m.gates lg0);clear L0 D0;go_upto_region 22 with fail
     generalize wr=Wc at*;go_loopw [12] (fun x wr=>∃(i:Nat) (lg:List GtV),x=.int .i64 i∧i≤m.gates.length+8∧Hid (Tw w im [Value.slice none 0 0,.slice none 0 0,.slice none 0 0,.int .i64 m.depth] lr lc lg wr)∧Hid (lg.length=m.gates.length+8)∧Hid (Done (GtOk (w.heap.size+1+1+1+1+1)) gtMk wr m.gates lg i)∧Hid (Done (CpOk (w.heap.size+1+1+1+1+1)) (CpMark (w.heap.size+1+1+1+1+1)) wr m.comps lc (m.comps.length+8))∧Hid (Done (RgOk (w.heap.size+1+1+1+1+1)) rgMk wr m.regs lr (m.regs.length+8))∧Hid (w.heap.size+1+1+1+1+1<wr.heap.size)) (fun x _=>m.gates.length+8 - (intOf x).toNat)
     case atStart=>exact⟨0,lg0,rfl,by omega,T0,LG,DG,DC,DR,hs⟩
     case round=>
      clear T0 LG DG DC DR hs;obtain⟨i,lg,rfl,hi,T0,L0,D0,DC,DR,hs⟩:=hrel;by_cases hlt:i<m.gates.length+8
      ·have hi1:(i:Int)<(m.gates.length:Int)+8:=by omega
       have hil:i<lg.length:=by rw[L0.out];exact hlt
       go_upto_region 24 with fail;refine wp_region_lit ?_;iterate 4 (refine xp fun K hK=>?_;go_simp;with_reducible refine hK _ _ ?_;clear hK K;(try simp only[xap]))
       have hT:=Hid.mk (T0.out.g.there (i*4) 4 (by rw[row_len gt_len,L0.out];simp;omega));have K0:=Hid.mk ((Kt.refl (w.heap.size+1+1+1+1+1) wr).sets (w.heap.size+1+1+1+1+1) (i*4) gtM.vals (.inl (by omega)));have T1:=Hid.mk (T0.out.setG i hil gtM);refine xp fun K hK=>?_
       refine wp_store_mid _ _ _ rfl _ _ (List.toArray (GtV.vals gtM)) rfl rfl hT.out (by kernel_rfl) (all_oneCell_toArray (gt_one _)) (hK _ _ ?_);clear hK K hT;try simp only[Act.put]
       have c0:(World.setCells wr (w.heap.size+1+1+1+1+1) (i*4) gtM.vals).cell? ⟨w.heap.size,2,none⟩=some (.slice ga m.gates.length gc):=by rw[T1.out.m.2.1,←hIM];rfl
       generalize World.setCells _ _ _ _=V1 at*;by_cases hn:i<m.gates.length
       ·have hin:(i:Int)<(m.gates.length:Int):=by omega
        obtain⟨rb,off,xa,xc,ya,yc,hga,hb1,hb2,k0,k1,k2,k3,kx9,ky9⟩:=hm.out.gates i hn;subst hga;have hfit:=hF.out.gs _ (List.getElem_mem hn);generalize hrg:m.gates[i]=rr at k0 k1 k2 k3 kx9 ky9 hfit;replace hrg:=Hid.mk hrg;replace k0:=Hid.mk k0;replace k1:=Hid.mk k1;replace k2:=Hid.mk k2;replace k3:=Hid.mk k3;replace kx9:=Hid.mk kx9;replace ky9:=Hid.mk ky9;replace hfit:=Hid.mk hfit;have rg:=Hid.mk (range4 ((T1.out.gr.below.cell (p:=⟨rb,off+i*4,none⟩) hb1).trans k0.out) ((T1.out.gr.below.cell (p:=⟨rb,off+i*4+1,none⟩) hb1).trans k1.out) ((T1.out.gr.below.cell (p:=⟨rb,off+i*4+1+1,none⟩) hb1).trans k2.out) ((T1.out.gr.below.cell (p:=⟨rb,off+i*4+1+1+1,none⟩) hb1).trans k3.out));go_upto_region 26 with fail;refine wp_region_lit ?_;iterate 4 (refine xp fun K hK=>?_;go_simp;with_reducible refine hK _ _ ?_;clear hK K;(try simp only[xap]))
        refine xp fun K hK=>?_
        refine wp_load_mid _ _ rfl _ (off+i*4) rfl [Value.int .i64 rr.c,.int .i64 rr.e,.slice xa rr.args.length xc,.slice ya rr.res.length yc] _ rg.out Tryz.underlying36 rfl (by kernel_rfl) (hK _ _ ?_);clear hK K;try simp only[xap]
        refine xp fun K hK=>?_
        go_simp;with_reducible refine hK _ _ ?_
        clear hK K;try simp only[xap]
        have bx:=Hid.mk (At.new V1 [Value.int .i64 0,.int .i64 0,.slice none 0 0,.slice none 0 0].toArray 36);refine xp fun K hK=>?_
        refine wp_store_mid _ _ _ rfl _ _ (List.toArray [Value.int .i64 rr.c,.int .i64 rr.e,.slice xa rr.args.length xc,.slice ya rr.res.length yc]) rfl rfl (bx.out.there 0 _ (by simp)) (by kernel_rfl) (all_oneCell_toArray (gt_one ⟨rr.c,rr.e,⟨xa,rr.args.length,xc⟩,⟨ya,rr.res.length,yc⟩⟩)) (hK _ _ ?_);clear hK K;try simp only[Act.put]
        replace bx:=Hid.mk (bx.out.setAll [Value.int .i64 rr.c,.int .i64 rr.e,.slice xa rr.args.length xc,.slice ya rr.res.length yc] rfl);have hk1:w.heap.size+1+1+1+1+1<V1.heap.size:=Nat.lt_of_lt_of_le hs.out K0.out.size;have hk2:wr.heap.size≤V1.heap.size:=K0.out.size;have T2:=Hid.mk ((T1.out.grow ((Gr.refl V1).alloc (Obj.cells [Value.int .i64 0,.int .i64 0,.slice none 0 0,.slice none 0 0].toArray 36))).sets V1.heap.size 0 [Value.int .i64 rr.c,.int .i64 rr.e,.slice xa rr.args.length xc,.slice ya rr.res.length yc] hk1);have K2:=Hid.mk ((K0.out.trans (Kt.gr ((Gr.refl V1).alloc (Obj.cells [Value.int .i64 0,.int .i64 0,.slice none 0 0,.slice none 0 0].toArray 36)))).sets V1.heap.size 0 [Value.int .i64 rr.c,.int .i64 rr.e,.slice xa rr.args.length xc,.slice ya rr.res.length yc] (.inr hk2));clear T1 K0 rg c0;generalize World.setCells _ _ _ _=V2 at*;generalize V1.heap.size=kx at*;have c0:V2.cell? ⟨w.heap.size,2,none⟩=some (.slice (some ⟨rb,off,none⟩) m.gates.length gc):=by rw[T2.out.m.2.1,←hIM];rfl
        have c1:V2.cell? ⟨rb,off+i*4+1+1,none⟩=some (.slice xa rr.args.length xc):=((T2.out.gr.below.cell (p:=⟨rb,off+i*4+1+1,none⟩) hb1).trans k2.out);have hk3:w.heap.size+1+1+1+1+1<V2.heap.size:=Nat.lt_trans hk1 bx.out.1;have hcl:=Hid.mk (typed_all rr.args xa xc w.heap.size kx V2 (kx9.out.below T2.out.gr.below) hfit.out.1 T2.out.gr.below.size bx.out.1);go_upto_region 27 with fail
        refine wp_region_lit ?_;iterate 6 (refine xp fun K hK=>?_;go_simp;with_reducible refine hK _ _ ?_;clear hK K;(try simp only[xap]))
        refine xp fun K hK=>?_
        go_simp
        (go_at_call 29;refine hcl.out.mono ?_;rintro x wq ⟨s,rfl,qs,q9⟩;replace q9:=Hid.mk q9;replace qs:=Hid.mk qs)
        with_reducible refine hK _ _ ?_
        clear hK K;try simp only[xap]
        refine xp fun K hK=>?_
        go_simp;with_reducible refine hK _ _ ?_
        clear hK K;try simp only[xap]
        have d1:∃y,wq.cell? ⟨kx,2,none⟩=some y:=⟨_,(bx.out.gr q9.out).2.1 2⟩;obtain⟨y9,d1⟩:=d1;have d2:wq.frozen? ⟨kx,2,none⟩=false:=(bx.out.gr q9.out).2.2 2;refine xp fun K hK=>?_
        go_simp;with_reducible refine hK _ _ ?_
        clear hK K d1 d2 y9;try simp only[Act.put]
        have x9:=Hid.mk ((Kt.refl kx wq).set kx 2 (.slice s.a s.l s.c) (.inl (Nat.le_refl _)));replace qs:=Hid.mk (qs.out.keep x9.out);replace bx:=Hid.mk (show At (World.setCell wq ⟨kx,2,none⟩ (.slice s.a s.l s.c)) kx (List.toArray [Value.int .i64 rr.c,.int .i64 rr.e,.slice s.a s.l s.c,.slice ya rr.res.length yc])from(bx.out.gr q9.out).set 2 (.slice s.a s.l s.c) (by simp));replace K2:=Hid.mk ((K2.out.trans (Kt.gr q9.out)).set kx 2 (.slice s.a s.l s.c) (.inr hk2));replace T2:=Hid.mk (show Tw w im [Value.slice none 0 0,.slice none 0 0,.slice none 0 0,.int .i64 m.depth] _ _ _ (World.setCell wq ⟨kx,2,none⟩ (.slice s.a s.l s.c))from(T2.out.grow q9.out).sets kx 2 [.slice s.a s.l s.c] hk1);clear q9 x9 hcl c0 c1 hk3;generalize World.setCell _ _ _=V3 at*;have c0:V3.cell? ⟨w.heap.size,2,none⟩=some (.slice (some ⟨rb,off,none⟩) m.gates.length gc):=by rw[T2.out.m.2.1,←hIM];rfl
        have c1:V3.cell? ⟨rb,off+i*4+1+1+1,none⟩=some (.slice ya rr.res.length yc):=((T2.out.gr.below.cell (p:=⟨rb,off+i*4+1+1+1,none⟩) hb1).trans k3.out);have hk3:w.heap.size+1+1+1+1+1<V3.heap.size:=Nat.lt_trans hk1 bx.out.1;have hcl:=Hid.mk (typed_all rr.res ya yc w.heap.size kx V3 (ky9.out.below T2.out.gr.below) hfit.out.2 T2.out.gr.below.size bx.out.1);go_upto_region 28 with fail
        refine wp_region_lit ?_;iterate 6 (refine xp fun K hK=>?_;go_simp;with_reducible refine hK _ _ ?_;clear hK K;(try simp only[xap]))
        refine xp fun K hK=>?_
        go_simp
        (go_at_call 29;refine hcl.out.mono ?_;rintro x wq ⟨t,rfl,qt,q9⟩;replace q9:=Hid.mk q9;replace qt:=Hid.mk qt)
        with_reducible refine hK _ _ ?_
        clear hK K;try simp only[xap]
        refine xp fun K hK=>?_
        go_simp;with_reducible refine hK _ _ ?_
        clear hK K;try simp only[xap]
        have d1:∃y,wq.cell? ⟨kx,3,none⟩=some y:=⟨_,(bx.out.gr q9.out).2.1 3⟩;obtain⟨y9,d1⟩:=d1;have d2:wq.frozen? ⟨kx,3,none⟩=false:=(bx.out.gr q9.out).2.2 3;refine xp fun K hK=>?_
        go_simp;with_reducible refine hK _ _ ?_
        clear hK K d1 d2 y9;try simp only[Act.put]
        have x9:=Hid.mk ((Kt.refl kx wq).set kx 3 (.slice t.a t.l t.c) (.inl (Nat.le_refl _)));replace qs:=Hid.mk (qs.out.keep ((Kt.gr q9.out).trans x9.out));replace qt:=Hid.mk (qt.out.keep x9.out);replace bx:=Hid.mk (show At (World.setCell wq ⟨kx,3,none⟩ (.slice t.a t.l t.c)) kx (List.toArray [Value.int .i64 rr.c,.int .i64 rr.e,.slice s.a s.l s.c,.slice t.a t.l t.c])from(bx.out.gr q9.out).set 3 (.slice t.a t.l t.c) (by simp));replace K2:=Hid.mk ((K2.out.trans (Kt.gr q9.out)).set kx 3 (.slice t.a t.l t.c) (.inr hk2));replace T2:=Hid.mk (show Tw w im [Value.slice none 0 0,.slice none 0 0,.slice none 0 0,.int .i64 m.depth] _ _ _ (World.setCell wq ⟨kx,3,none⟩ (.slice t.a t.l t.c))from(T2.out.grow q9.out).sets kx 3 [.slice t.a t.l t.c] hk1);clear q9 x9 hcl c0 c1 hk3;generalize World.setCell _ _ _=V5 at*;go_upto_region 29 with fail
        refine wp_region_lit ?_;iterate 2 (refine xp fun K hK=>?_;go_simp;with_reducible refine hK _ _ ?_;clear hK K;(try simp only[xap]))
        refine xp fun K hK=>?_
        refine wp_load_mid _ _ rfl _ 0 rfl (GtV.vals ⟨rr.c,rr.e,s,t⟩) _ bx.out.range Tryz.underlying36 rfl (by kernel_rfl) (hK _ _ ?_);clear hK K;try simp only[xap]
        refine xp fun K hK=>?_
        go_simp;with_reducible refine hK _ _ ?_
        clear hK K;try simp only[xap]
        have hT:=Hid.mk (T2.out.g.there (i*4) 4 (by rw[row_len gt_len,List.length_set,L0.out];simp;omega));have hl2:i<(lg.set i gtM).length:=by rw[List.length_set];exact hil
        have T3:=Hid.mk (T2.out.setG i hl2 ⟨rr.c,rr.e,s,t⟩);rw[List.set_set]at T3;have K3:=Hid.mk (K2.out.sets (w.heap.size+1+1+1+1+1) (i*4) (GtV.vals ⟨rr.c,rr.e,s,t⟩) (.inl (by omega)));have x9:=Hid.mk ((Kt.refl kx V5).sets (w.heap.size+1+1+1+1+1) (i*4) (GtV.vals ⟨rr.c,rr.e,s,t⟩) (.inl (by omega)));refine xp fun K hK=>?_
        refine wp_store_mid _ _ _ rfl _ _ (List.toArray (GtV.vals ⟨rr.c,rr.e,s,t⟩)) rfl rfl hT.out (by kernel_rfl) (all_oneCell_toArray (gt_one _)) (hK _ _ ?_);clear hK K hT hl2 bx T2 K2;try simp only[Act.put]
        generalize World.setCells _ _ _ _=V4 at*;replace qs:=Hid.mk ((qs.out.keep x9.out).mono (Nat.le_of_lt hk1));replace qt:=Hid.mk ((qt.out.keep x9.out).mono (Nat.le_of_lt hk1));have D1:=Hid.mk ((D0.out.keep (gtOk_keep K3.out) (fun _ h=>h)).next hil ⟨rr.c,rr.e,s,t⟩ (fun _=>by rw[hrg.out];exact⟨rfl,rfl,qs.out,qt.out⟩) (fun h=>by omega));have L1:Hid ((lg.set i ⟨rr.c,rr.e,s,t⟩).length=m.gates.length+8):=Hid.mk (by rw[List.length_set];exact L0.out);have hs3:=Hid.mk (Nat.lt_of_lt_of_le hs.out K3.out.size);have R1:=Hid.mk (DR.out.keep (rgOk_keep K3.out) (fun _ h=>h));have C1:=Hid.mk (DC.out.keep (cpOk_keep K3.out) (cpMark_keep K3.out));clear x9 qs qt D0 L0 hs hrg k0 k1 k2 k3 kx9 ky9 hfit DR DC;clear K3;go_wp2_with fail;exact⟨⟨i+1,_,by go_num,by omega,T3,L1,D1,C1,R1,hs3⟩,by simp[intOf];omega⟩
       ·have hin:¬(i:Int)<(m.gates.length:Int):=by omega
        have T3:=T1;have K3:=K0;have D1:=Hid.mk ((D0.out.keep (gtOk_keep K3.out) (fun _ h=>h)).next hil gtM (fun h=>absurd h hn) (fun _=>rfl));have L1:Hid ((lg.set i gtM).length=m.gates.length+8):=Hid.mk (by rw[List.length_set];exact L0.out);have hs3:=Hid.mk (Nat.lt_of_lt_of_le hs.out K3.out.size);have R1:=Hid.mk (DR.out.keep (rgOk_keep K3.out) (fun _ h=>h));have C1:=Hid.mk (DC.out.keep (cpOk_keep K3.out) (cpMark_keep K3.out));clear D0 L0 hs T1 K0 DR DC;clear K3;go_wp2_with fail;exact⟨⟨i+1,_,by go_num,by omega,T3,L1,D1,C1,R1,hs3⟩,by simp[intOf];omega⟩
      ·have hi1:¬(i:Int)<(m.gates.length:Int)+8:=by omega
       have ei:i=m.gates.length+8:=by omega
       subst ei;have LG:=L0;have DG:=D0;clear L0 D0;go_upto_region 30 with fail
       generalize wr=Wd at*;have c0:Wd.cell? ⟨w.heap.size,0,none⟩=some (.slice ra m.regs.length rc):=by rw[T0.out.m.2.1,←hIM];rfl
       have d1:Wd.cell? ⟨w.heap.size+1+1,0,none⟩=some (.slice none 0 0):=T0.out.o.2.1 0;have d2:Wd.frozen? ⟨w.heap.size+1+1,0,none⟩=false:=T0.out.o.2.2 0;have hle9:(m.regs.length:Int)≤(m.regs.length:Int)+8:=by omega
       go_upto_region 30 with fail;refine wp_region_lit ?_;iterate 6 (refine xp fun K hK=>?_;go_simp;with_reducible refine hK _ _ ?_;clear hK K;(try simp only[xap]))
       refine xp fun K hK=>?_
       go_simp;with_reducible refine hK _ _ ?_
       clear hK K;try simp only[Act.put]
       have K9:=Hid.mk ((Kt.refl (w.heap.size+1+1+1+1+1) Wd).set (w.heap.size+1+1) 0 (.slice (some ⟨w.heap.size+1+1+1,0,none⟩) m.regs.length (m.regs.length+8)) (.inl (by omega)));replace T0:=Hid.mk (T0.out.setO 0 (by simp) (.slice (some ⟨w.heap.size+1+1+1,0,none⟩) m.regs.length (m.regs.length+8)));replace DR:=Hid.mk (DR.out.keep (rgOk_keep K9.out) (fun _ h=>h));replace DC:=Hid.mk (DC.out.keep (cpOk_keep K9.out) (cpMark_keep K9.out));replace DG:=Hid.mk (DG.out.keep (gtOk_keep K9.out) (fun _ h=>h));simp only[List.set_cons_zero]at T0;clear c0 d1 d2 hle9 K9;generalize World.setCell _ _ _=We at*;have c0:We.cell? ⟨w.heap.size,1,none⟩=some (.slice ca m.comps.length cc):=by rw[T0.out.m.2.1,←hIM];rfl
       have d1:We.cell? ⟨w.heap.size+1+1,1,none⟩=some (.slice none 0 0):=T0.out.o.2.1 1;have d2:We.frozen? ⟨w.heap.size+1+1,1,none⟩=false:=T0.out.o.2.2 1;have hle9:(m.comps.length:Int)≤(m.comps.length:Int)+8:=by omega
       go_upto_region 31 with fail;refine wp_region_lit ?_;iterate 6 (refine xp fun K hK=>?_;go_simp;with_reducible refine hK _ _ ?_;clear hK K;(try simp only[xap]))
       refine xp fun K hK=>?_
       go_simp;with_reducible refine hK _ _ ?_
       clear hK K;try simp only[Act.put]
       have K9:=Hid.mk ((Kt.refl (w.heap.size+1+1+1+1+1) We).set (w.heap.size+1+1) 1 (.slice (some ⟨w.heap.size+1+1+1+1,0,none⟩) m.comps.length (m.comps.length+8)) (.inl (by omega)));replace T0:=Hid.mk (T0.out.setO 1 (by simp) (.slice (some ⟨w.heap.size+1+1+1+1,0,none⟩) m.comps.length (m.comps.length+8)));replace DR:=Hid.mk (DR.out.keep (rgOk_keep K9.out) (fun _ h=>h));replace DC:=Hid.mk (DC.out.keep (cpOk_keep K9.out) (cpMark_keep K9.out));replace DG:=Hid.mk (DG.out.keep (gtOk_keep K9.out) (fun _ h=>h));simp only[List.set_cons_zero,List.set_cons_succ]at T0;clear c0 d1 d2 hle9 K9;generalize World.setCell _ _ _=Wf at*;have c0:Wf.cell? ⟨w.heap.size,2,none⟩=some (.slice ga m.gates.length gc):=by rw[T0.out.m.2.1,←hIM];rfl
       have d1:Wf.cell? ⟨w.heap.size+1+1,2,none⟩=some (.slice none 0 0):=T0.out.o.2.1 2;have d2:Wf.frozen? ⟨w.heap.size+1+1,2,none⟩=false:=T0.out.o.2.2 2;have hle9:(m.gates.length:Int)≤(m.gates.length:Int)+8:=by omega
       go_upto_region 32 with fail;refine wp_region_lit ?_;iterate 6 (refine xp fun K hK=>?_;go_simp;with_reducible refine hK _ _ ?_;clear hK K;(try simp only[xap]))
       refine xp fun K hK=>?_
       go_simp;with_reducible refine hK _ _ ?_
       clear hK K;try simp only[Act.put]
       have K9:=Hid.mk ((Kt.refl (w.heap.size+1+1+1+1+1) Wf).set (w.heap.size+1+1) 2 (.slice (some ⟨w.heap.size+1+1+1+1+1,0,none⟩) m.gates.length (m.gates.length+8)) (.inl (by omega)));replace T0:=Hid.mk (T0.out.setO 2 (by simp) (.slice (some ⟨w.heap.size+1+1+1+1+1,0,none⟩) m.gates.length (m.gates.length+8)));replace DR:=Hid.mk (DR.out.keep (rgOk_keep K9.out) (fun _ h=>h));replace DC:=Hid.mk (DC.out.keep (cpOk_keep K9.out) (cpMark_keep K9.out));replace DG:=Hid.mk (DG.out.keep (gtOk_keep K9.out) (fun _ h=>h));simp only[List.set_cons_zero,List.set_cons_succ]at T0;clear c0 d1 d2 hle9 K9;generalize World.setCell _ _ _=Wg at*;go_upto_region 33 with fail
       refine wp_region_lit ?_;refine xp fun K hK=>?_
       refine wp_load_mid _ _ rfl _ 0 rfl [Value.slice (some ⟨w.heap.size+1+1+1,0,none⟩) m.regs.length (m.regs.length+8),.slice (some ⟨w.heap.size+1+1+1+1,0,none⟩) m.comps.length (m.comps.length+8),.slice (some ⟨w.heap.size+1+1+1+1+1,0,none⟩) m.gates.length (m.gates.length+8),.int .i64 m.depth] _ T0.out.o.range Tryz.underlying40 rfl (by kernel_rfl) (hK _ _ ?_);clear hK K;try simp only[xap]
       have hT:=Hid.mk (At.there (cs:=[.slice none 0 0,.slice none 0 0,.slice none 0 0,.int .i64 0]) T0.out.res 0 4 (by simp));have K9:=Hid.mk ((Kt.refl (w.heap.size+1+1+1+1+1) Wg).sets (w.heap.size+1) 0 [Value.slice (some ⟨w.heap.size+1+1+1,0,none⟩) m.regs.length (m.regs.length+8),.slice (some ⟨w.heap.size+1+1+1+1,0,none⟩) m.comps.length (m.comps.length+8),.slice (some ⟨w.heap.size+1+1+1+1+1,0,none⟩) m.gates.length (m.gates.length+8),.int .i64 m.depth] (.inl (by omega)));have G9:=Hid.mk (T0.out.gr.setCells (w.heap.size+1) (by omega) [Value.slice (some ⟨w.heap.size+1+1+1,0,none⟩) m.regs.length (m.regs.length+8),.slice (some ⟨w.heap.size+1+1+1+1,0,none⟩) m.comps.length (m.comps.length+8),.slice (some ⟨w.heap.size+1+1+1+1+1,0,none⟩) m.gates.length (m.gates.length+8),.int .i64 m.depth] 0);have S9:=Hid.mk (At.setAll (cs:=[.slice none 0 0,.slice none 0 0,.slice none 0 0,.int .i64 0]) T0.out.res [Value.slice (some ⟨w.heap.size+1+1+1,0,none⟩) m.regs.length (m.regs.length+8),.slice (some ⟨w.heap.size+1+1+1+1,0,none⟩) m.comps.length (m.comps.length+8),.slice (some ⟨w.heap.size+1+1+1+1+1,0,none⟩) m.gates.length (m.gates.length+8),.int .i64 m.depth] rfl).range
       have TI9:Hid (TwIn (w.heap.size+1+1+1+1+1) (w.heap.size+1+1+1) (w.heap.size+1+1+1+1) (w.heap.size+1+1+1+1+1) (World.setCells Wg (w.heap.size+1) 0 [Value.slice (some ⟨w.heap.size+1+1+1,0,none⟩) m.regs.length (m.regs.length+8),.slice (some ⟨w.heap.size+1+1+1+1,0,none⟩) m.comps.length (m.comps.length+8),.slice (some ⟨w.heap.size+1+1+1+1+1,0,none⟩) m.gates.length (m.gates.length+8),.int .i64 m.depth]) m lr lc lg):=Hid.mk ⟨T0.out.r.other (by omega) _ _,T0.out.c.other (by omega) _ _,T0.out.g.other (by omega) _ _,LR.out,LCC.out,LG.out,DR.out.keep (rgOk_keep K9.out) (fun _ h=>h),DC.out.keep (cpOk_keep K9.out) (cpMark_keep K9.out),DG.out.keep (gtOk_keep K9.out) (fun _ h=>h)⟩;refine xp fun K hK=>?_
       refine wp_store_mid _ _ _ rfl _ _ (List.toArray [Value.slice (some ⟨w.heap.size+1+1+1,0,none⟩) m.regs.length (m.regs.length+8),.slice (some ⟨w.heap.size+1+1+1+1,0,none⟩) m.comps.length (m.comps.length+8),.slice (some ⟨w.heap.size+1+1+1+1+1,0,none⟩) m.gates.length (m.gates.length+8),.int .i64 m.depth]) rfl rfl hT.out (by kernel_rfl) (all_oneCell_toArray (by intro v hv;simp at hv;rcases hv with rfl|rfl|rfl|rfl<;>rfl)) (hK _ _ ?_);clear hK K hT T0 DR DC DG LR LCC LG K9;try simp only[Act.put]
       generalize World.setCells _ _ _ _=Wz at*;have hrun:=Hid.mk (run_loadVar_mid (P:=Tryz.prog) Wz (w.heap.size+1) 0 40 [Value.slice (some ⟨w.heap.size+1+1+1,0,none⟩) m.regs.length (m.regs.length+8),.slice (some ⟨w.heap.size+1+1+1+1,0,none⟩) m.comps.length (m.comps.length+8),.slice (some ⟨w.heap.size+1+1+1+1+1,0,none⟩) m.gates.length (m.gates.length+8),.int .i64 m.depth] _ S9.out Tryz.underlying40 rfl (by kernel_rfl));clear S9;go_wp2_with fail;refine bodyPost_ret (v:=.agg (List.toArray [Value.slice (some ⟨w.heap.size+1+1+1,0,none⟩) m.regs.length (m.regs.length+8),.slice (some ⟨w.heap.size+1+1+1+1,0,none⟩) m.comps.length (m.comps.length+8),.slice (some ⟨w.heap.size+1+1+1+1+1,0,none⟩) m.gates.length (m.gates.length+8),.int .i64 m.depth])) ?_ rfl ⟨rfl,G9.out,lr,lc,lg,TI9.out⟩;exact results_row Tryz.results12 _ _ rfl hrun.out
end Q
end Go.Proofs.YthlpjlnehonpdaaGreatDoor
